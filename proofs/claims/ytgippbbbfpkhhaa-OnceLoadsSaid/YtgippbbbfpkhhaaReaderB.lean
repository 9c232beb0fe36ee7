/- The program's Reader, method by method. -/
import Derived.Test.YtgippbbbfpkhhaaReaderP
import Derived.Test.YtgippbbbfpkhhaaLent2
namespace Go.Proofs.Ytgippbbbfpkhhaa
open Go.RowKit

/-- A Reader at block R: what is left, and its error. -/
structure BR (w : World) (R : Nat) (rem : List UInt8) (err : Nat) (A : Option Addr) (n c : Nat) : Prop where
  blk : Bk w R 115 #[.slice A n c, .int .i64 err]
  cap : n ≤ c ∧ c ≤ 9223372036854775807
  rd : Rd w R A n rem

theorem rd_block (w : World) (g : Nat) (u : Value) : (w.setCell ⟨g, 0, none⟩ u).heap.size = w.heap.size := by simp [World.setCell]

set_option maxRecDepth 100000 in
set_option maxHeartbeats 400000 in
theorem err_any (R : Nat) (x : Value) (err : Nat) (w : World) (h : Bk w R 115 #[x, .int .i64 err]) :
    Calls Try.prog 46 #[.pointer (some ⟨R, 0, none⟩)] w fun e w' => e = .returned (.int .i64 err) ∧ w = w' := by
  have hc : w.cell? ⟨R, 1, none⟩ = some (.int .i64 err) := h.cell 1
  go_enter Try.func46, Try.ntmps46
  go_wp2
  go_ret
  exact ⟨rfl, rfl⟩
set_option maxRecDepth 100000 in
set_option maxHeartbeats 400000 in
theorem err_nil (w : World) : Calls Try.prog 46 #[.pointer none] w fun e w' => e = .returned (.int .i64 1) ∧ w = w' := by
  go_enter Try.func46, Try.ntmps46
  go_wp2
  go_ret
  exact ⟨rfl, rfl⟩
set_option maxRecDepth 100000 in
set_option maxHeartbeats 400000 in
theorem left_any (R : Nat) (A : Option Addr) (n c : Nat) (y : Value) (w : World) (h : Bk w R 115 #[.slice A n c, y]) :
    Calls Try.prog 47 #[.pointer (some ⟨R, 0, none⟩)] w fun e w' => e = .returned (.int .i64 n) ∧ w = w' := by
  have hc : w.cell? ⟨R, 0, none⟩ = some (.slice A n c) := h.cell 0
  go_enter Try.func47, Try.ntmps47
  go_wp2
  go_ret
  exact ⟨rfl, rfl⟩
set_option maxRecDepth 100000 in
set_option maxHeartbeats 400000 in
theorem left_nil (w : World) : Calls Try.prog 47 #[.pointer none] w fun e w' => e = .returned (.int .i64 0) ∧ w = w' := by
  go_enter Try.func47, Try.ntmps47
  go_wp2
  go_ret
  exact ⟨rfl, rfl⟩
set_option maxRecDepth 100000 in
set_option maxHeartbeats 400000 in
theorem uint_nil (w : World) : Calls Try.prog 44 #[.pointer none] w fun e w' => e = .returned (.int .u64 0) ∧ w = w' := by
  go_enter Try.func44, Try.ntmps44
  go_wp2_with fail
  refine (err_nil _).mono ?_
  rintro e w' ⟨rfl, rfl⟩
  go_wp2
  go_ret
  exact ⟨rfl, rfl⟩
set_option maxRecDepth 100000 in
set_option maxHeartbeats 400000 in
theorem bytes_nil (w : World) (m : Int) : Calls Try.prog 63 #[.pointer none, .int .i64 m] w fun e w' => e = .returned (.slice none 0 0) ∧ w = w' := by
  go_enter Try.func63, Try.ntmps63
  go_wp2_with fail
  refine (err_nil _).mono ?_
  rintro e w' ⟨rfl, rfl⟩
  go_wp2
  go_ret
  exact ⟨rfl, rfl⟩

set_option maxRecDepth 100000 in
set_option maxHeartbeats 400000 in
theorem pass_err (R : Nat) (A : Option Addr) (n c : Nat) (e0 : Int) (tt : Int) (err : Nat) (w : World) (he : 1 ≤ err) (h : Bk w R 115 #[.slice A n c, .int .i64 e0]) :
    Calls Try.prog 62 #[.pointer (some ⟨R, 0, none⟩), .int .i64 tt, .int .i64 err] w fun e w' => e = .returned (.tuple #[]) ∧ BR w' R [] err none 0 0 ∧ w.grownBy w' (some R) := by
  have hne : ((err : Int) != 0) = true := by simp; omega
  have c0 : w.cell? ⟨R, 0, none⟩ = some (.slice A n c) := h.cell 0
  have c1 : w.cell? ⟨R, 1, none⟩ = some (.int .i64 e0) := h.cell 1
  have f0 := h.frozen 0
  have f1 := h.frozen 1
  have Hb : Hid (BR ((w.setCell ⟨R, 0, none⟩ (.slice none 0 0)).setCell ⟨R, 1, none⟩ (.int .i64 err)) R [] err none 0 0 ∧ w.grownBy ((w.setCell ⟨R, 0, none⟩ (.slice none 0 0)).setCell ⟨R, 1, none⟩ (.int .i64 err)) (some R)) := by
    have h1 := (h.set_ 0 (.slice none 0 0)).set_ 1 (.int .i64 err)
    exact ⟨⟨by simpa using h1, by omega, Rd.nil _ _ _⟩, grown_trans (grown_set _ _ _ _) (grown_set _ _ _ _)⟩
  clear h he
  go_enter Try.func62, Try.ntmps62
  go_wp2
  refine bodyPost_ret (results_none rfl _ _ _) rfl ?_
  exact ⟨rfl, Hb.out⟩

set_option maxRecDepth 100000 in
set_option maxHeartbeats 400000 in
theorem pass_ok (R b o n c k : Nat) (rem : List UInt8) (w : World) (hk : k ≤ n) (h : BR w R rem 0 (some ⟨b, o, none⟩) n c) :
    Calls Try.prog 62 #[.pointer (some ⟨R, 0, none⟩), .int .i64 k, .int .i64 0] w fun e w' => e = .returned (.tuple #[]) ∧ (∃ A', BR w' R (rem.drop k) 0 A' (n - k) (c - k)) ∧ w.grownBy w' (some R) := by
  have c0 : w.cell? ⟨R, 0, none⟩ = some (.slice (some ⟨b, o, none⟩) n c) := h.blk.cell 0
  have f0 := h.blk.frozen 0
  obtain ⟨hcap1, hcap2⟩ := h.cap
  have hb : ∀ A', Rd w R A' (n - k) (rem.drop k) → BR (w.setCell ⟨R, 0, none⟩ (.slice A' (n - k) (c - k))) R (rem.drop k) 0 A' (n - k) (c - k) := fun A' hr =>
    ⟨by simpa using h.blk.set_ 0 (.slice A' (n - k) (c - k)), by omega, hr.grown_below (grown_set _ _ _ _) (by have := h.blk.lt; omega)⟩
  have hg := fun u => grown_set w R 0 u
  have hp := h.rd.part (i := k) (k := n - k) (by omega)
  have hl := h.rd.1
  have e : (rem.drop k).take (n - k) = rem.drop k := List.take_of_length_le (by rw [List.length_drop]; omega)
  rw [e] at hp
  by_cases hck : c = k
  · obtain rfl : n = k := by omega
    subst hck
    have hd : rem.drop c = [] := List.drop_eq_nil_of_le (by omega)
    have h0 := hb (some ⟨b, o, none⟩) (by rw [Nat.sub_self, hd]; exact Rd.nil _ _ _)
    rw [Nat.sub_self] at h0 ⊢
    have Hb := Lib.hid h0
    have Hg := Lib.hid hg
    clear hb hg hp h h0 e hd
    go_enter Try.func62, Try.ntmps62
    go_wp2
    go_end0
    exact ⟨rfl, ⟨_, Hb.out⟩, Hg.out _⟩
  · have h0 := hb (some ⟨b, o + k, none⟩) hp
    have Hb := Lib.hid h0
    have Hg := Lib.hid hg
    clear hb hg hp h h0 e
    go_enter Try.func62, Try.ntmps62
    go_wp2
    go_end0
    exact ⟨rfl, ⟨_, Hb.out⟩, Hg.out _⟩

/-- What a Reader that has this left tells of the next number, and what is left then. -/
def nextU (rem : List UInt8) (err : Nat) : Nat × List UInt8 × Nat :=
  if err ≠ 0 then (0, rem, err)
  else if (uintAt rem 0).2.2 ≠ 0 then (0, [], (uintAt rem 0).2.2.toNat)
  else ((uintAt rem 0).1.toNat, rem.drop (uintAt rem 0).2.1.toNat, 0)

set_option maxRecDepth 100000 in
set_option maxHeartbeats 1000000 in
theorem uint_meth (R : Nat) (A : Option Addr) (n c err : Nat) (rem : List UInt8) (w : World) (h : BR w R rem err A n c) :
    Calls Try.prog 44 #[.pointer (some ⟨R, 0, none⟩)] w fun e w' => e = .returned (.int .u64 (nextU rem err).1) ∧ (∃ A' n' c', BR w' R (nextU rem err).2.1 (nextU rem err).2.2 A' n' c') ∧ w.grownBy w' (some R) := by
  have Ce := Lib.hid (err_any R _ err w h.blk)
  unfold nextU
  by_cases he : err = 0
  · subst he
    rw [if_neg (by simp)]
    have hl := h.rd.1
    obtain ⟨hcap1, hcap2⟩ := h.cap
    have c0 : w.cell? ⟨R, 0, none⟩ = some (.slice A n c) := h.blk.cell 0
    have Cu := binUint_any A n c R 0 rem w hcap1 hcap2 h.rd
    have hs := uintAt_shift rem 0 (by omega) (by omega)
    rw [List.drop_zero] at hs
    rcases hs with ⟨v, k, h1, _, hk1, hk2, hv⟩ | ⟨e, h1, _, he1, he2⟩
    · rw [h1] at Cu ⊢
      have HC := Lib.hid Cu
      rw [if_neg (by simp)]
      obtain ⟨b, o, rfl, _, _⟩ := h.rd.2 (by omega)
      have Cp := Lib.hid (pass_ok R b o n c k rem w (by omega) h)
      simp only [Int.toNat_natCast]
      clear Cu h1 h
      go_enter Try.func44, Try.ntmps44
      go_wp2_with fail
      refine Ce.out.mono ?_
      rintro e w' ⟨rfl, rfl⟩
      go_wp2_with fail
      refine HC.out.mono ?_
      rintro e w' ⟨rfl, rfl⟩
      go_wp2_with fail
      refine Cp.out.mono ?_
      rintro e w' ⟨rfl, ⟨A', hb⟩, hg⟩
      have HH : Hid ((∃ A' n' c', BR w' R (rem.drop k) 0 A' n' c') ∧ w.grownBy w' (some R)) := ⟨⟨_, _, _, hb⟩, hg⟩
      clear hb hg
      go_wp2
      go_ret
      exact ⟨rfl, HH.out⟩
    · rw [h1] at Cu ⊢
      have HC := Lib.hid Cu
      rw [if_pos (show (e : Int) ≠ 0 by omega)]
      have Cp := Lib.hid (pass_err R A n c 0 0 e w he1 h.blk)
      simp only [Int.toNat_natCast]
      clear Cu h1 h
      go_enter Try.func44, Try.ntmps44
      go_wp2_with fail
      refine Ce.out.mono ?_
      rintro e w' ⟨rfl, rfl⟩
      go_wp2_with fail
      refine HC.out.mono ?_
      rintro e w' ⟨rfl, rfl⟩
      go_wp2_with fail
      refine Cp.out.mono ?_
      rintro e' w' ⟨rfl, hb, hg⟩
      have HH : Hid ((∃ A' n' c', BR w' R [] e A' n' c') ∧ w.grownBy w' (some R)) := ⟨⟨_, _, _, hb⟩, hg⟩
      clear hb hg
      go_wp2
      go_ret
      exact ⟨rfl, HH.out⟩
  · rw [if_pos he]
    have hne : ((err : Int) != 0) = true := by simp; omega
    have Hh := Lib.hid h
    clear h
    go_enter Try.func44, Try.ntmps44
    go_wp2_with fail
    refine Ce.out.mono ?_
    rintro e w' ⟨rfl, rfl⟩
    go_wp2
    go_ret
    exact ⟨rfl, ⟨_, _, _, Hh.out⟩, World.grownBy.refl _ _⟩

def nextB (rem : List UInt8) (err : Nat) (most : Int) : List UInt8 × List UInt8 × Nat :=
  if err ≠ 0 then ([], rem, err)
  else if (txtAt rem 0 most).2.2 ≠ 0 then ([], [], (txtAt rem 0 most).2.2.toNat)
  else ((txtAt rem 0 most).1, rem.drop (txtAt rem 0 most).2.1.toNat, 0)

theorem BR.below {w w' : World} {R n c err : Nat} {rem : List UInt8} {A : Option Addr} (h : BR w R rem err A n c) {B : Nat} (hb : Below B w w') (hB : R < B) : BR w' R rem err A n c :=
  ⟨h.blk.below hb hB, h.cap, h.rd.below (hb.mono (by omega))⟩

set_option maxRecDepth 100000 in
set_option maxHeartbeats 1000000 in
theorem bytes_meth (R : Nat) (A : Option Addr) (n c err : Nat) (most : Int) (rem : List UInt8) (w : World) (hn : n ≤ 140737488355328) (hm1 : -9223372036854775808 ≤ most) (hm2 : most ≤ 9223372036854775807) (h : BR w R rem err A n c) :
    Calls Try.prog 63 #[.pointer (some ⟨R, 0, none⟩), .int .i64 most] w fun e w' => ∃ s, e = .returned s ∧ w'.ownsRow w.heap.size 5 1 s (nextB rem err most).1.length (u8s (nextB rem err most).1) ∧ (∃ A' n' c', BR w' R (nextB rem err most).2.1 (nextB rem err most).2.2 A' n' c') ∧ w.grownBy w' (some R) := by
  have Ce := Lib.hid (err_any R _ err w h.blk)
  have hRlt := h.blk.lt
  unfold nextB
  by_cases he : err = 0
  · subst he
    rw [if_neg (by simp)]
    have hl := h.rd.1
    obtain ⟨hcap1, hcap2⟩ := h.cap
    have c0 : w.cell? ⟨R, 0, none⟩ = some (.slice A n c) := h.blk.cell 0
    have Cu := binBytes_any A n c 0 most rem w hcap1 hn hcap2 hm1 hm2 (h.rd.more (by omega))
    have hs := txtAt_shift rem 0 most (by omega) (by omega)
    rw [List.drop_zero] at hs
    rcases hs with ⟨t, k, h1, _, hk1, hk2, _⟩ | ⟨e, h1, _, he1, he2⟩
    · rw [h1] at Cu ⊢
      have HC := Lib.hid Cu
      rw [if_neg (by simp)]
      obtain ⟨b, o, rfl, _, _⟩ := h.rd.2 (by omega)
      have Cp : Hid (∀ w', Below w.heap.size w w' → _) := fun w' hb => pass_ok R b o n c k rem w' (by omega) (h.below hb hRlt)
      simp only [Int.toNat_natCast]
      clear Cu h1 h
      go_enter Try.func63, Try.ntmps63
      go_wp2_with fail
      refine Ce.out.mono ?_
      rintro e w' ⟨rfl, rfl⟩
      go_wp2_with fail
      refine HC.out.mono ?_
      rintro e w1 ⟨s, rfl, ho, hb⟩
      obtain ⟨As, cs, rfl, _⟩ := own_shape ho
      have Ho := Lib.hid ho
      have Hb := Lib.hid hb
      clear ho hb
      go_wp2_with fail
      refine (Cp.out _ Hb.out).mono ?_
      rintro e w' ⟨rfl, ⟨A', hb⟩, hg⟩
      have HH : Hid (w'.ownsRow w.heap.size 5 1 (.slice As t.length cs) t.length (u8s t) ∧ (∃ A' n' c', BR w' R (rem.drop k) 0 A' n' c') ∧ w.grownBy w' (some R)) :=
        ⟨own_grown Ho.out hg hRlt, ⟨_, _, _, hb⟩, grown_trans (grown_of_below Hb.out _) hg⟩
      clear hb hg
      go_wp2
      go_ret
      exact ⟨_, rfl, HH.out⟩
    · rw [h1] at Cu ⊢
      have HC := Lib.hid Cu
      rw [if_pos (show (e : Int) ≠ 0 by omega)]
      have Cp : Hid (∀ w', Below w.heap.size w w' → _) := fun w' hb => pass_err R A n c 0 0 e w' he1 (h.blk.below hb hRlt)
      simp only [Int.toNat_natCast]
      clear Cu h1 h
      go_enter Try.func63, Try.ntmps63
      go_wp2_with fail
      refine Ce.out.mono ?_
      rintro e' w' ⟨rfl, rfl⟩
      go_wp2_with fail
      refine HC.out.mono ?_
      rintro e' w1 ⟨s, rfl, ho, hb⟩
      obtain ⟨As, cs, rfl, _⟩ := own_shape ho
      have Ho := Lib.hid ho
      have Hb := Lib.hid hb
      clear ho hb
      go_wp2_with fail
      refine (Cp.out _ Hb.out).mono ?_
      rintro e' w' ⟨rfl, hb, hg⟩
      have HH : Hid (w'.ownsRow w.heap.size 5 1 (.slice As 0 cs) 0 (u8s []) ∧ (∃ A' n' c', BR w' R [] e A' n' c') ∧ w.grownBy w' (some R)) :=
        ⟨own_grown Ho.out hg hRlt, ⟨_, _, _, hb⟩, grown_trans (grown_of_below Hb.out _) hg⟩
      clear hb hg
      go_wp2
      go_ret
      exact ⟨_, rfl, HH.out⟩
  · rw [if_pos he]
    have hne : ((err : Int) != 0) = true := by simp; omega
    have Hh := Lib.hid h
    clear h
    go_enter Try.func63, Try.ntmps63
    go_wp2_with fail
    refine Ce.out.mono ?_
    rintro e w' ⟨rfl, rfl⟩
    go_wp2
    go_ret
    exact ⟨_, rfl, World.ownsRow_nil _ _ _ _, ⟨_, _, _, Hh.out⟩, World.grownBy.refl _ _⟩
end Go.Proofs.Ytgippbbbfpkhhaa
