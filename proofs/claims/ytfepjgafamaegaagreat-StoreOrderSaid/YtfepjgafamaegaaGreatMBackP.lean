/- Of the proofs of layer 4, merged: BackP, ReaderP, ReaderB, StoP, StoMap, StoLy, RefFramePut, StoX. -/
import Derived.Test.YtfepjgafamaegaaGreatM1Lent2
import Derived.Lib.Zigzag
import Derived.Test.YtfepjgafamaegaaGreatMWords
import Derived.Test.YtfepjgafamaegaaGreatM1Texts
import Derived.Maps.OwnSet
import Derived.Maps.Views
import Derived.Test.YtfepjgafamaegaaGreatMFrameP

/- Plain: what was put behind other bytes is read again. -/
namespace Go.Proofs.YtfepjgafamaegaaGreat
theorem unzig_zigzag (i : Int) : unzig (Lib.zigzag i) = i := by
  unfold unzig Lib.zigzag
  by_cases h : 0 ≤ i
  · rw [if_pos h]
    rw [if_neg (by omega)]
    omega
  · rw [if_neg h]
    rw [if_pos (by omega)]
    omega
theorem uintAt_back (pre rest : List UInt8) (n : Nat) (hn : n < 18446744073709551616) : uintAt (pre ++ (Lib.uvarint n ++ rest)) (pre.length : Int) = ((n : Int), (pre.length : Int) + ((Lib.uvarint n).length : Int), 0) := by
  rw [uintAt_in _ _ (by simp), List.drop_left, uu0_back n rest hn]
  rfl
theorem intAt_back (pre rest : List UInt8) (i : Int) (h1 : -9223372036854775808 ≤ i) (h2 : i ≤ 9223372036854775807) : intAt (pre ++ (Lib.uvarint (Lib.zigzag i) ++ rest)) (pre.length : Int) = (i, (pre.length : Int) + ((Lib.uvarint (Lib.zigzag i)).length : Int), 0) := by
  unfold intAt
  rw [uintAt_back _ _ _ (Lib.zigzag_lt h1 h2), Int.toNat_natCast, unzig_zigzag]
theorem txtAt_back (pre s rest : List UInt8) (most : Int) (hs : (s.length : Int) ≤ most) (hb : s.length < 18446744073709551616) : txtAt (pre ++ (putB s ++ rest)) (pre.length : Int) most = (s, (pre.length : Int) + ((putB s).length : Int), 0) := by
  unfold txtAt putB
  rw [List.append_assoc, uintAt_back _ _ _ hb]
  simp only [ne_eq, not_true_eq_false, if_false]
  rw [if_neg (by omega), if_neg (by simp; omega)]
  have e1 : ((pre.length : Int) + ((Lib.uvarint s.length).length : Int)).toNat = (pre ++ Lib.uvarint s.length).length := by rw [List.length_append]; omega
  rw [e1, Int.toNat_natCast, ← List.append_assoc, List.drop_left, List.take_left]
  refine Prod.ext rfl (Prod.ext ?_ rfl)
  show (pre.length : Int) + ((Lib.uvarint s.length).length : Int) + (s.length : Int) = (pre.length : Int) + ((Lib.uvarint s.length ++ s).length : Int)
  rw [List.length_append]
  omega
end Go.Proofs.YtfepjgafamaegaaGreat

/- Plain: what a Reader tells, step by step, over what is left; the same over all bytes at a place. And blocks that are known whole. -/
namespace Go.Proofs.YtfepjgafamaegaaGreat
open Go.RowKit


/-- The place behind, counted from what is left. -/
theorem uintAt_shift (l : List UInt8) (p : Nat) (hl : l.length ≤ 9223372036854775807) (hp : p ≤ l.length) :
    (∃ v k : Nat, uintAt (l.drop p) 0 = ((v : Int), (k : Int), 0) ∧ uintAt l (p : Int) = ((v : Int), ((p + k : Nat) : Int), 0) ∧ 1 ≤ k ∧ p + k ≤ l.length ∧ v < 18446744073709551616) ∨
    (∃ e : Nat, uintAt (l.drop p) 0 = (0, 0, (e : Int)) ∧ uintAt l (p : Int) = (0, 0, (e : Int)) ∧ 1 ≤ e ∧ e ≤ 11) := by
  have h0 := uintAt_in (l.drop p) 0 (by omega)
  rw [List.drop_zero] at h0
  have h1 := uintAt_in l p hp
  have e0 : ((0 : Nat) : Int) = 0 := rfl
  rw [e0] at h0
  cases hu : uu 0 (l.drop p) with
  | ok x =>
    obtain ⟨v, k⟩ := x
    rw [hu] at h0 h1
    have hk := uu_pos hu
    rw [List.length_drop] at hk
    refine .inl ⟨v, k, ?_, ?_, hk.1, by omega, uu0_lt hu⟩
    · rw [h0]
      simp [ans]
    · rw [h1]
      simp [ans]
  | error e =>
    rw [hu] at h0 h1
    obtain ⟨v, tt, e', hf, _, _, hee⟩ := uintAt_form l p hl
    rw [h1] at hf
    simp only [ans, Prod.mk.injEq] at hf
    exact .inr ⟨e, h0, h1, by omega, by omega⟩

theorem txtAt_shift (l : List UInt8) (p : Nat) (most : Int) (hl : l.length ≤ 9223372036854775807) (hp : p ≤ l.length) :
    (∃ (t : List UInt8) (k : Nat), txtAt (l.drop p) 0 most = (t, (k : Int), 0) ∧ txtAt l (p : Int) most = (t, ((p + k : Nat) : Int), 0) ∧ 1 ≤ k ∧ p + k ≤ l.length ∧ t.length ≤ l.length) ∨
    (∃ e : Nat, txtAt (l.drop p) 0 most = ([], 0, (e : Int)) ∧ txtAt l (p : Int) most = ([], 0, (e : Int)) ∧ 1 ≤ e ∧ e ≤ 11) := by
  rcases uintAt_shift l p hl hp with ⟨v, k, h1, h2, hk, hkl, _⟩ | ⟨e, h1, h2, he1, he2⟩
  · unfold txtAt
    rw [h1, h2]
    simp only [ne_eq, not_true_eq_false, if_false]
    by_cases h3 : max most 0 < (v : Int)
    · rw [if_pos h3, if_pos h3]
      exact .inr ⟨3, rfl, rfl, by omega, by omega⟩
    · rw [if_neg h3, if_neg h3]
      by_cases h4 : (l.length : Int) - ((p + k : Nat) : Int) < (v : Int)
      · rw [if_pos h4, if_pos (by rw [List.length_drop]; omega)]
        exact .inr ⟨10, rfl, rfl, by omega, by omega⟩
      · rw [if_neg h4, if_neg (by rw [List.length_drop]; omega)]
        rw [Int.toNat_natCast, Int.toNat_natCast, Int.toNat_natCast, List.drop_drop]
        refine .inl ⟨_, k + v, rfl, ?_, by omega, by omega, by rw [List.length_take, List.length_drop]; omega⟩
        refine Prod.ext rfl (Prod.ext ?_ rfl)
        show ((p + k : Nat) : Int) + (v : Int) = ((p + (k + v) : Nat) : Int)
        omega
  · unfold txtAt
    rw [h1, h2]
    simp only
    rw [if_pos (by omega), if_pos (by omega)]
    exact .inr ⟨e, rfl, rfl, he1, he2⟩
end Go.Proofs.YtfepjgafamaegaaGreat

/- The program's Reader, method by method. -/
namespace Go.Proofs.YtfepjgafamaegaaGreat
open Go.RowKit

/-- A Reader at block R: what is left, and its error. -/
structure BR (w : World) (R : Nat) (rem : List UInt8) (err : Nat) (A : Option Addr) (n c : Nat) : Prop where
  blk : Bk w R 151 #[.slice A n c, .int .i64 err]
  cap : n ≤ c ∧ c ≤ 9223372036854775807
  rd : Rd w R A n rem

theorem rd_block (w : World) (g : Nat) (u : Value) : (w.setCell ⟨g, 0, none⟩ u).heap.size = w.heap.size := by simp [World.setCell]

set_option maxRecDepth 100000 in
set_option maxHeartbeats 400000 in
theorem err_any (R : Nat) (x : Value) (err : Nat) (w : World) (h : Bk w R 151 #[x, .int .i64 err]) :
    Calls Tryz.prog 52 #[.pointer (some ⟨R, 0, none⟩)] w fun e w' => e = .returned (.int .i64 err) ∧ w = w' := by
  have hc : w.cell? ⟨R, 1, none⟩ = some (.int .i64 err) := h.cell 1
  go_enter Tryz.func52, Tryz.ntmps52
  go_wp2
  go_ret
  exact ⟨rfl, rfl⟩
set_option maxRecDepth 100000 in
set_option maxHeartbeats 400000 in
theorem err_nil (w : World) : Calls Tryz.prog 52 #[.pointer none] w fun e w' => e = .returned (.int .i64 1) ∧ w = w' := by
  go_enter Tryz.func52, Tryz.ntmps52
  go_wp2
  go_ret
  exact ⟨rfl, rfl⟩
set_option maxRecDepth 100000 in
set_option maxHeartbeats 400000 in
theorem left_any (R : Nat) (A : Option Addr) (n c : Nat) (y : Value) (w : World) (h : Bk w R 151 #[.slice A n c, y]) :
    Calls Tryz.prog 53 #[.pointer (some ⟨R, 0, none⟩)] w fun e w' => e = .returned (.int .i64 n) ∧ w = w' := by
  have hc : w.cell? ⟨R, 0, none⟩ = some (.slice A n c) := h.cell 0
  go_enter Tryz.func53, Tryz.ntmps53
  go_wp2
  go_ret
  exact ⟨rfl, rfl⟩
set_option maxRecDepth 100000 in
set_option maxHeartbeats 400000 in
theorem left_nil (w : World) : Calls Tryz.prog 53 #[.pointer none] w fun e w' => e = .returned (.int .i64 0) ∧ w = w' := by
  go_enter Tryz.func53, Tryz.ntmps53
  go_wp2
  go_ret
  exact ⟨rfl, rfl⟩
set_option maxRecDepth 100000 in
set_option maxHeartbeats 400000 in
theorem uint_nil (w : World) : Calls Tryz.prog 50 #[.pointer none] w fun e w' => e = .returned (.int .u64 0) ∧ w = w' := by
  go_enter Tryz.func50, Tryz.ntmps50
  go_wp2_with fail
  refine (err_nil _).mono ?_
  rintro e w' ⟨rfl, rfl⟩
  go_wp2
  go_ret
  exact ⟨rfl, rfl⟩
set_option maxRecDepth 100000 in
set_option maxHeartbeats 400000 in
theorem bytes_nil (w : World) (m : Int) : Calls Tryz.prog 89 #[.pointer none, .int .i64 m] w fun e w' => e = .returned (.slice none 0 0) ∧ w = w' := by
  go_enter Tryz.func89, Tryz.ntmps89
  go_wp2_with fail
  refine (err_nil _).mono ?_
  rintro e w' ⟨rfl, rfl⟩
  go_wp2
  go_ret
  exact ⟨rfl, rfl⟩

set_option maxRecDepth 100000 in
set_option maxHeartbeats 400000 in
theorem pass_err (R : Nat) (A : Option Addr) (n c : Nat) (e0 : Int) (tt : Int) (err : Nat) (w : World) (he : 1 ≤ err) (h : Bk w R 151 #[.slice A n c, .int .i64 e0]) :
    Calls Tryz.prog 88 #[.pointer (some ⟨R, 0, none⟩), .int .i64 tt, .int .i64 err] w fun e w' => e = .returned (.tuple #[]) ∧ BR w' R [] err none 0 0 ∧ w.grownBy w' (some R) := by
  have hne : ((err : Int) != 0) = true := by simp; omega
  have c0 : w.cell? ⟨R, 0, none⟩ = some (.slice A n c) := h.cell 0
  have c1 : w.cell? ⟨R, 1, none⟩ = some (.int .i64 e0) := h.cell 1
  have f0 := h.frozen 0
  have f1 := h.frozen 1
  have Hb : Hid (BR ((w.setCell ⟨R, 0, none⟩ (.slice none 0 0)).setCell ⟨R, 1, none⟩ (.int .i64 err)) R [] err none 0 0 ∧ w.grownBy ((w.setCell ⟨R, 0, none⟩ (.slice none 0 0)).setCell ⟨R, 1, none⟩ (.int .i64 err)) (some R)) := by
    have h1 := (h.set_ 0 (.slice none 0 0)).set_ 1 (.int .i64 err)
    exact ⟨⟨by simpa using h1, by omega, Rd.nil _ _ _⟩, grown_trans (grown_set _ _ _ _) (grown_set _ _ _ _)⟩
  clear h he
  go_enter Tryz.func88, Tryz.ntmps88
  go_wp2
  refine bodyPost_ret (results_none rfl _ _ _) rfl ?_
  exact ⟨rfl, Hb.out⟩

set_option maxRecDepth 100000 in
set_option maxHeartbeats 400000 in
theorem pass_ok (R b o n c k : Nat) (rem : List UInt8) (w : World) (hk : k ≤ n) (h : BR w R rem 0 (some ⟨b, o, none⟩) n c) :
    Calls Tryz.prog 88 #[.pointer (some ⟨R, 0, none⟩), .int .i64 k, .int .i64 0] w fun e w' => e = .returned (.tuple #[]) ∧ (∃ A', BR w' R (rem.drop k) 0 A' (n - k) (c - k)) ∧ w.grownBy w' (some R) := by
  have c0 : w.cell? ⟨R, 0, none⟩ = some (.slice (some ⟨b, o, none⟩) n c) := h.blk.cell 0
  have f0 := h.blk.frozen 0
  obtain ⟨hcap1, hcap2⟩ := h.cap
  have hb : ∀ A', Rd w R A' (n - k) (rem.drop k) → BR (w.setCell ⟨R, 0, none⟩ (.slice A' (n - k) (c - k))) R (rem.drop k) 0 A' (n - k) (c - k) := fun A' hr =>
    ⟨by simpa using h.blk.set_ 0 (.slice A' (n - k) (c - k)), by omega, hr.grown_below (grown_set _ _ _ _) (by have := h.blk.lt; omega)⟩
  have hg := fun u => grown_set w R 0 u
  have hp := h.rd.part (i := k) (k := n - k) (by omega)
  have hl := h.rd.1
  have e : (rem.drop k).take (n - k) = rem.drop k := List.take_of_length_le (by rw [List.length_drop]; omega)
  rw [e] at hp
  by_cases hck : c = k
  · obtain rfl : n = k := by omega
    subst hck
    have hd : rem.drop c = [] := List.drop_eq_nil_of_le (by omega)
    have h0 := hb (some ⟨b, o, none⟩) (by rw [Nat.sub_self, hd]; exact Rd.nil _ _ _)
    rw [Nat.sub_self] at h0 ⊢
    have Hb := Lib.hid h0
    have Hg := Lib.hid hg
    clear hb hg hp h h0 e hd
    go_enter Tryz.func88, Tryz.ntmps88
    go_wp2
    go_end0
    exact ⟨rfl, ⟨_, Hb.out⟩, Hg.out _⟩
  · have h0 := hb (some ⟨b, o + k, none⟩) hp
    have Hb := Lib.hid h0
    have Hg := Lib.hid hg
    clear hb hg hp h h0 e
    go_enter Tryz.func88, Tryz.ntmps88
    go_wp2
    go_end0
    exact ⟨rfl, ⟨_, Hb.out⟩, Hg.out _⟩

/-- What a Reader that has this left tells of the next number, and what is left then. -/
def nextU (rem : List UInt8) (err : Nat) : Nat × List UInt8 × Nat :=
  if err ≠ 0 then (0, rem, err)
  else if (uintAt rem 0).2.2 ≠ 0 then (0, [], (uintAt rem 0).2.2.toNat)
  else ((uintAt rem 0).1.toNat, rem.drop (uintAt rem 0).2.1.toNat, 0)

set_option maxRecDepth 100000 in
set_option maxHeartbeats 1000000 in
theorem uint_meth (R : Nat) (A : Option Addr) (n c err : Nat) (rem : List UInt8) (w : World) (h : BR w R rem err A n c) :
    Calls Tryz.prog 50 #[.pointer (some ⟨R, 0, none⟩)] w fun e w' => e = .returned (.int .u64 (nextU rem err).1) ∧ (∃ A' n' c', BR w' R (nextU rem err).2.1 (nextU rem err).2.2 A' n' c') ∧ w.grownBy w' (some R) := by
  have Ce := Lib.hid (err_any R _ err w h.blk)
  unfold nextU
  by_cases he : err = 0
  · subst he
    rw [if_neg (by simp)]
    have hl := h.rd.1
    obtain ⟨hcap1, hcap2⟩ := h.cap
    have c0 : w.cell? ⟨R, 0, none⟩ = some (.slice A n c) := h.blk.cell 0
    have Cu := binUint_any A n c R 0 rem w hcap1 hcap2 h.rd
    have hs := uintAt_shift rem 0 (by omega) (by omega)
    rw [List.drop_zero] at hs
    rcases hs with ⟨v, k, h1, _, hk1, hk2, hv⟩ | ⟨e, h1, _, he1, he2⟩
    · rw [h1] at Cu ⊢
      have HC := Lib.hid Cu
      rw [if_neg (by simp)]
      obtain ⟨b, o, rfl, _, _⟩ := h.rd.2 (by omega)
      have Cp := Lib.hid (pass_ok R b o n c k rem w (by omega) h)
      simp only [Int.toNat_natCast]
      clear Cu h1 h
      go_enter Tryz.func50, Tryz.ntmps50
      go_wp2_with fail
      refine Ce.out.mono ?_
      rintro e w' ⟨rfl, rfl⟩
      go_wp2_with fail
      refine HC.out.mono ?_
      rintro e w' ⟨rfl, rfl⟩
      go_wp2_with fail
      refine Cp.out.mono ?_
      rintro e w' ⟨rfl, ⟨A', hb⟩, hg⟩
      have HH : Hid ((∃ A' n' c', BR w' R (rem.drop k) 0 A' n' c') ∧ w.grownBy w' (some R)) := ⟨⟨_, _, _, hb⟩, hg⟩
      clear hb hg
      go_wp2
      go_ret
      exact ⟨rfl, HH.out⟩
    · rw [h1] at Cu ⊢
      have HC := Lib.hid Cu
      rw [if_pos (show (e : Int) ≠ 0 by omega)]
      have Cp := Lib.hid (pass_err R A n c 0 0 e w he1 h.blk)
      simp only [Int.toNat_natCast]
      clear Cu h1 h
      go_enter Tryz.func50, Tryz.ntmps50
      go_wp2_with fail
      refine Ce.out.mono ?_
      rintro e w' ⟨rfl, rfl⟩
      go_wp2_with fail
      refine HC.out.mono ?_
      rintro e w' ⟨rfl, rfl⟩
      go_wp2_with fail
      refine Cp.out.mono ?_
      rintro e' w' ⟨rfl, hb, hg⟩
      have HH : Hid ((∃ A' n' c', BR w' R [] e A' n' c') ∧ w.grownBy w' (some R)) := ⟨⟨_, _, _, hb⟩, hg⟩
      clear hb hg
      go_wp2
      go_ret
      exact ⟨rfl, HH.out⟩
  · rw [if_pos he]
    have hne : ((err : Int) != 0) = true := by simp; omega
    have Hh := Lib.hid h
    clear h
    go_enter Tryz.func50, Tryz.ntmps50
    go_wp2_with fail
    refine Ce.out.mono ?_
    rintro e w' ⟨rfl, rfl⟩
    go_wp2
    go_ret
    exact ⟨rfl, ⟨_, _, _, Hh.out⟩, World.grownBy.refl _ _⟩

def nextB (rem : List UInt8) (err : Nat) (most : Int) : List UInt8 × List UInt8 × Nat :=
  if err ≠ 0 then ([], rem, err)
  else if (txtAt rem 0 most).2.2 ≠ 0 then ([], [], (txtAt rem 0 most).2.2.toNat)
  else ((txtAt rem 0 most).1, rem.drop (txtAt rem 0 most).2.1.toNat, 0)

theorem BR.below {w w' : World} {R n c err : Nat} {rem : List UInt8} {A : Option Addr} (h : BR w R rem err A n c) {B : Nat} (hb : Below B w w') (hB : R < B) : BR w' R rem err A n c :=
  ⟨h.blk.below hb hB, h.cap, h.rd.below (hb.mono (by omega))⟩

set_option maxRecDepth 100000 in
set_option maxHeartbeats 1000000 in
theorem bytes_meth (R : Nat) (A : Option Addr) (n c err : Nat) (most : Int) (rem : List UInt8) (w : World) (hn : n ≤ 140737488355328) (hm1 : -9223372036854775808 ≤ most) (hm2 : most ≤ 9223372036854775807) (h : BR w R rem err A n c) :
    Calls Tryz.prog 89 #[.pointer (some ⟨R, 0, none⟩), .int .i64 most] w fun e w' => ∃ s, e = .returned s ∧ w'.ownsRow w.heap.size 5 1 s (nextB rem err most).1.length (u8s (nextB rem err most).1) ∧ (∃ A' n' c', BR w' R (nextB rem err most).2.1 (nextB rem err most).2.2 A' n' c') ∧ w.grownBy w' (some R) := by
  have Ce := Lib.hid (err_any R _ err w h.blk)
  have hRlt := h.blk.lt
  unfold nextB
  by_cases he : err = 0
  · subst he
    rw [if_neg (by simp)]
    have hl := h.rd.1
    obtain ⟨hcap1, hcap2⟩ := h.cap
    have c0 : w.cell? ⟨R, 0, none⟩ = some (.slice A n c) := h.blk.cell 0
    have Cu := binBytes_any A n c 0 most rem w hcap1 hn hcap2 hm1 hm2 (h.rd.more (by omega))
    have hs := txtAt_shift rem 0 most (by omega) (by omega)
    rw [List.drop_zero] at hs
    rcases hs with ⟨t, k, h1, _, hk1, hk2, _⟩ | ⟨e, h1, _, he1, he2⟩
    · rw [h1] at Cu ⊢
      have HC := Lib.hid Cu
      rw [if_neg (by simp)]
      obtain ⟨b, o, rfl, _, _⟩ := h.rd.2 (by omega)
      have Cp : Hid (∀ w', Below w.heap.size w w' → _) := fun w' hb => pass_ok R b o n c k rem w' (by omega) (h.below hb hRlt)
      simp only [Int.toNat_natCast]
      clear Cu h1 h
      go_enter Tryz.func89, Tryz.ntmps89
      go_wp2_with fail
      refine Ce.out.mono ?_
      rintro e w' ⟨rfl, rfl⟩
      go_wp2_with fail
      refine HC.out.mono ?_
      rintro e w1 ⟨s, rfl, ho, hb⟩
      obtain ⟨As, cs, rfl, _⟩ := own_shape ho
      have Ho := Lib.hid ho
      have Hb := Lib.hid hb
      clear ho hb
      go_wp2_with fail
      refine (Cp.out _ Hb.out).mono ?_
      rintro e w' ⟨rfl, ⟨A', hb⟩, hg⟩
      have HH : Hid (w'.ownsRow w.heap.size 5 1 (.slice As t.length cs) t.length (u8s t) ∧ (∃ A' n' c', BR w' R (rem.drop k) 0 A' n' c') ∧ w.grownBy w' (some R)) :=
        ⟨own_grown Ho.out hg hRlt, ⟨_, _, _, hb⟩, grown_trans (grown_of_below Hb.out _) hg⟩
      clear hb hg
      go_wp2
      go_ret
      exact ⟨_, rfl, HH.out⟩
    · rw [h1] at Cu ⊢
      have HC := Lib.hid Cu
      rw [if_pos (show (e : Int) ≠ 0 by omega)]
      have Cp : Hid (∀ w', Below w.heap.size w w' → _) := fun w' hb => pass_err R A n c 0 0 e w' he1 (h.blk.below hb hRlt)
      simp only [Int.toNat_natCast]
      clear Cu h1 h
      go_enter Tryz.func89, Tryz.ntmps89
      go_wp2_with fail
      refine Ce.out.mono ?_
      rintro e' w' ⟨rfl, rfl⟩
      go_wp2_with fail
      refine HC.out.mono ?_
      rintro e' w1 ⟨s, rfl, ho, hb⟩
      obtain ⟨As, cs, rfl, _⟩ := own_shape ho
      have Ho := Lib.hid ho
      have Hb := Lib.hid hb
      clear ho hb
      go_wp2_with fail
      refine (Cp.out _ Hb.out).mono ?_
      rintro e' w' ⟨rfl, hb, hg⟩
      have HH : Hid (w'.ownsRow w.heap.size 5 1 (.slice As 0 cs) 0 (u8s []) ∧ (∃ A' n' c', BR w' R [] e A' n' c') ∧ w.grownBy w' (some R)) :=
        ⟨own_grown Ho.out hg hRlt, ⟨_, _, _, hb⟩, grown_trans (grown_of_below Hb.out _) hg⟩
      clear hb hg
      go_wp2
      go_ret
      exact ⟨_, rfl, HH.out⟩
  · rw [if_pos he]
    have hne : ((err : Int) != 0) = true := by simp; omega
    have Hh := Lib.hid h
    clear h
    go_enter Tryz.func89, Tryz.ntmps89
    go_wp2_with fail
    refine Ce.out.mono ?_
    rintro e w' ⟨rfl, rfl⟩
    go_wp2
    go_ret
    exact ⟨_, rfl, World.ownsRow_nil _ _ _ _, ⟨_, _, _, Hh.out⟩, World.grownBy.refl _ _⟩
end Go.Proofs.YtfepjgafamaegaaGreat

/- Plain mathematics of layer 5: a batch, its bytes, there and back. No program is named here. -/
namespace Go.Proofs.YtfepjgafamaegaaGreat

structure Chg where
  key : List UInt8
  val : List UInt8
  gone : Bool

def okC (c : Chg) : Bool := decide (1 ≤ c.key.length) && (decide (c.key.length ≤ 16) && (if c.gone then decide (c.val.length = 0) else decide (c.val.length ≤ 128)))
def rightL (l : List Chg) : Bool := decide (l.length ≤ 32) && l.all okC
def encC (c : Chg) : List UInt8 := putB c.key ++ (if c.gone then [1] else 0 :: putB c.val)
def bodyL (l : List Chg) : List UInt8 := l.flatMap encC
def encL (l : List Chg) : List UInt8 := Lib.uvarint l.length ++ bodyL l
def encodeS (l : List Chg) : List UInt8 × Int := if rightL l = false then ([], 2) else if 1024 < (encL l).length then ([], 3) else (encL l, 0)

theorem encodeS_ok {l : List Chg} {b : List UInt8} (h : encodeS l = (b, 0)) : rightL l = true ∧ (encL l).length ≤ 1024 ∧ b = encL l := by
  unfold encodeS at h
  split at h
  · simp at h
  rename_i h1
  split at h
  · simp at h
  rename_i h2
  simp only [Prod.mk.injEq, and_true] at h
  exact ⟨by simpa using h1, by omega, h.symm⟩
theorem encodeS_of {l : List Chg} (h1 : rightL l = true) (h2 : (encL l).length ≤ 1024) : encodeS l = (encL l, 0) := by
  unfold encodeS
  rw [if_neg (by simp [h1]), if_neg (by omega)]
theorem encodeS_len (l : List Chg) : (encodeS l).1.length ≤ 1024 := by
  unfold encodeS
  split
  · simp
  split
  · simp
  · simp only; omega

theorem uvarint_pos (n : Nat) : 1 ≤ (Lib.uvarint n).length := by
  by_cases h : n < 128
  · rw [Lib.uvarint_small h]; simp
  · rw [Lib.uvarint_big (by omega)]; simp

theorem uvarint_zero : Lib.uvarint 0 = [0] := by rw [Lib.uvarint_small (by decide)]; rfl
theorem uvarint_one : Lib.uvarint 1 = [1] := by rw [Lib.uvarint_small (by decide)]; rfl
theorem nextU_put (n : Nat) (rest : List UInt8) (hn : n < 18446744073709551616) : nextU (Lib.uvarint n ++ rest) 0 = (n, rest, 0) := by
  have h1 := uintAt_in (Lib.uvarint n ++ rest) 0 (by omega)
  rw [List.drop_zero, uu0_back n rest hn] at h1
  have h2 : uintAt (Lib.uvarint n ++ rest) 0 = ((n : Int), ((Lib.uvarint n).length : Int), 0) := by
    have h3 : uintAt (Lib.uvarint n ++ rest) 0 = ans 0 (.ok (n, (Lib.uvarint n).length)) := h1
    rw [h3]; simp [ans]
  unfold nextU
  rw [h2]
  simp
theorem nextU_err (rem : List UInt8) (err : Nat) (h : err ≠ 0) : nextU rem err = (0, rem, err) := by unfold nextU; rw [if_pos h]
theorem nextB_err (rem : List UInt8) (err : Nat) (most : Int) (h : err ≠ 0) : nextB rem err most = ([], rem, err) := by unfold nextB; rw [if_pos h]
theorem uintAt_cases (l : List UInt8) : (∃ v k : Nat, uu 0 l = .ok (v, k) ∧ uintAt l 0 = ((v : Int), (k : Int), 0)) ∨ ∃ e : Nat, uu 0 l = .error e ∧ uintAt l 0 = (0, 0, (e : Int)) := by
  have h1 : uintAt l 0 = ans 0 (uu 0 (l.drop 0)) := uintAt_in l 0 (by omega)
  rw [List.drop_zero] at h1
  rw [h1]
  cases h : uu 0 l with
  | ok x => obtain ⟨v, k⟩ := x; exact .inl ⟨v, k, rfl, by simp [ans]⟩
  | error e => exact .inr ⟨e, rfl, by simp [ans]⟩
theorem uu_err_pos {i : Nat} {l : List UInt8} {e : Nat} (h : uu i l = .error e) : 1 ≤ e := by
  induction l generalizing i e with
  | nil => unfold uu at h; injection h with h; omega
  | cons c r ih =>
    unfold uu at h
    split at h
    · injection h with h; omega
    split at h
    · cases h
    split at h
    · cases h
    · rename_i h2
      injection h with h
      subst h
      exact ih h2
theorem nextU_inv {rem r : List UInt8} {v : Nat} (h : nextU rem 0 = (v, r, 0)) : rem = Lib.uvarint v ++ r ∧ v < 18446744073709551616 := by
  unfold nextU at h
  rw [if_neg (by simp)] at h
  rcases uintAt_cases rem with ⟨v', k, h1, h2⟩ | ⟨e, h1, h2⟩
  · rw [h2] at h
    simp only [ne_eq, not_true_eq_false, if_false, Int.toNat_natCast, Prod.mk.injEq, and_true] at h
    obtain ⟨rfl, rfl⟩ := h
    have hp := (uu_put h1).1
    exact ⟨by rw [hp, List.take_append_drop], uu0_lt h1⟩
  · have he := uu_err_pos h1
    rw [h2] at h
    rw [if_pos (by simp only [ne_eq]; omega)] at h
    simp only [Int.toNat_natCast, Prod.mk.injEq] at h
    omega
theorem nextU_lt (rem : List UInt8) : (nextU rem 0).1 < 18446744073709551616 := by
  unfold nextU
  rw [if_neg (by simp)]
  rcases uintAt_cases rem with ⟨v', k, h1, h2⟩ | ⟨e, h1, h2⟩
  · rw [h2]; simpa using uu0_lt h1
  · have he := uu_err_pos h1
    rw [h2, if_pos (by simp only [ne_eq]; omega)]; simp
theorem putB_len (t : List UInt8) : (putB t).length = (Lib.uvarint t.length).length + t.length := by unfold putB; simp
theorem txtAt_put {l : List UInt8} {p : Nat} {t rest : List UInt8} {most : Int} (hp : p ≤ l.length) (h : l.drop p = putB t ++ rest) (hm : (t.length : Int) ≤ most) (ht : t.length < 18446744073709551616) :
    txtAt l p most = (t, ((p + (putB t).length : Nat) : Int), 0) := by
  have h1 : uintAt l (p : Int) = ans p (uu 0 (l.drop p)) := uintAt_in l p hp
  rw [h] at h1
  unfold putB at h1
  rw [List.append_assoc, uu0_back _ _ ht] at h1
  have h1 : uintAt l (p : Int) = ((t.length : Int), (p : Int) + ((Lib.uvarint t.length).length : Int), 0) := h1
  have hlen : l.length = p + ((putB t).length + rest.length) := by
    have := congrArg List.length h
    rw [List.length_drop, List.length_append] at this
    omega
  have hpl := putB_len t
  unfold txtAt
  rw [h1]
  simp only [ne_eq, not_true_eq_false, if_false]
  rw [if_neg (by omega), if_neg (by omega)]
  have e2 : ((p : Int) + ((Lib.uvarint t.length).length : Int)).toNat = p + (Lib.uvarint t.length).length := by omega
  rw [e2, ← List.drop_drop, h, Int.toNat_natCast]
  unfold putB
  rw [List.append_assoc, List.drop_left, List.take_left]
  have e3 : ((p : Int) + ((Lib.uvarint t.length).length : Int) + (t.length : Int)) = ((p + (Lib.uvarint t.length ++ t).length : Nat) : Int) := by simp; omega
  rw [e3]
theorem txtAt_inv {l : List UInt8} {t : List UInt8} {k most : Int} (h : txtAt l 0 most = (t, k, 0)) : ∃ r, l = putB t ++ r ∧ k = ((putB t).length : Nat) ∧ (t.length : Int) ≤ max most 0 := by
  unfold txtAt at h
  rcases uintAt_cases l with ⟨v, m, h1, h2⟩ | ⟨e, h1, h2⟩
  · rw [h2] at h
    simp only [ne_eq, not_true_eq_false, if_false] at h
    split at h
    · simp at h
    rename_i h3
    split at h
    · simp at h
    rename_i h4
    simp only [Prod.mk.injEq, and_true, Int.toNat_natCast] at h
    obtain ⟨rfl, rfl⟩ := h
    have hp := (uu_put h1).1
    have hk := uu_pos h1
    have htl : ((l.drop m).take v).length = v := by rw [List.length_take, List.length_drop]; omega
    refine ⟨(l.drop m).drop v, ?_, ?_, by rw [htl]; omega⟩
    · unfold putB
      rw [htl, hp, List.append_assoc, List.take_append_drop, List.take_append_drop]
    · rw [putB_len, htl, hp, List.length_take]; omega
  · have he := uu_err_pos h1
    rw [h2, if_pos (by simp only [ne_eq]; omega)] at h
    simp only [Prod.mk.injEq] at h
    omega
theorem nextB_put (t rest : List UInt8) (most : Int) (hm : (t.length : Int) ≤ most) (ht : t.length < 18446744073709551616) : nextB (putB t ++ rest) 0 most = (t, rest, 0) := by
  have h : txtAt (putB t ++ rest) 0 most = (t, ((0 + (putB t).length : Nat) : Int), 0) := txtAt_put (p := 0) (by omega) (by rw [List.drop_zero]) hm ht
  unfold nextB
  rw [h]
  simp
theorem txtAt_err (l : List UInt8) (most : Int) (h : (txtAt l 0 most).2.2 ≠ 0) : 1 ≤ (txtAt l 0 most).2.2.toNat := by
  unfold txtAt at h ⊢
  rcases uintAt_cases l with ⟨v, m, h1, h2⟩ | ⟨e, h1, h2⟩
  · rw [h2] at h ⊢
    simp only [ne_eq, not_true_eq_false, if_false] at h ⊢
    split
    · decide
    · split
      · decide
      · rename_i h3 h4; rw [if_neg h3, if_neg h4] at h; exact absurd rfl h
  · have he := uu_err_pos h1
    rw [h2, if_pos (by simp only [ne_eq]; omega)]
    simp only [Int.toNat_natCast]; omega
theorem nextB_inv {rem r t : List UInt8} {most : Int} (h : nextB rem 0 most = (t, r, 0)) : rem = putB t ++ r ∧ (t.length : Int) ≤ max most 0 := by
  unfold nextB at h
  rw [if_neg (by simp)] at h
  by_cases h1 : (txtAt rem 0 most).2.2 = 0
  · rw [if_neg (by simp [h1])] at h
    simp only [Prod.mk.injEq, and_true] at h
    obtain ⟨h2, h3⟩ := h
    obtain ⟨r', e1, e2, e3⟩ := txtAt_inv (l := rem) (t := t) (k := (txtAt rem 0 most).2.1) (most := most) (by rw [← h2]; exact Prod.ext rfl (Prod.ext rfl h1))
    refine ⟨?_, e3⟩
    rw [← h3, e2, Int.toNat_natCast]
    conv => rhs; rw [e1]
    rw [List.drop_left]; exact e1
  · have he := txtAt_err rem most h1
    rw [if_pos h1] at h
    simp only [Prod.mk.injEq] at h
    omega
theorem nextB_len (rem : List UInt8) (err : Nat) (most : Int) (hm : 0 ≤ most) : ((nextB rem err most).1.length : Int) ≤ most := by
  by_cases he : err = 0
  · subst he
    rcases h : nextB rem 0 most with ⟨t, r, e⟩
    by_cases e0 : e = 0
    · subst e0
      have := (nextB_inv h).2
      simp only; omega
    · unfold nextB at h
      rw [if_neg (by simp)] at h
      split at h
      · simp only [Prod.mk.injEq] at h; obtain ⟨rfl, _⟩ := h; simpa using hm
      · simp only [Prod.mk.injEq] at h; exact absurd h.2.2.symm e0
  · rw [nextB_err _ _ _ he]; simpa using hm

/-- A change, as a Reader tells it. -/
def decC (rem : List UInt8) (err : Nat) : Chg × List UInt8 × Nat :=
  if (nextU (nextB rem err 16).2.1 (nextB rem err 16).2.2).1 = 0 then
    (⟨(nextB rem err 16).1, (nextB (nextU (nextB rem err 16).2.1 (nextB rem err 16).2.2).2.1 (nextU (nextB rem err 16).2.1 (nextB rem err 16).2.2).2.2 128).1, false⟩,
      (nextB (nextU (nextB rem err 16).2.1 (nextB rem err 16).2.2).2.1 (nextU (nextB rem err 16).2.1 (nextB rem err 16).2.2).2.2 128).2)
  else if (nextU (nextB rem err 16).2.1 (nextB rem err 16).2.2).1 = 1 then (⟨(nextB rem err 16).1, [], true⟩, (nextU (nextB rem err 16).2.1 (nextB rem err 16).2.2).2)
  else (⟨[], [], false⟩, (nextU (nextB rem err 16).2.1 (nextB rem err 16).2.2).2)

theorem decC_fwd (c : Chg) (rest : List UInt8) (h : okC c = true) : decC (encC c ++ rest) 0 = (c, rest, 0) := by
  unfold okC at h
  simp only [Bool.and_eq_true, decide_eq_true_eq] at h
  obtain ⟨h1, h2, h3⟩ := h
  unfold decC encC
  rw [List.append_assoc, nextB_put _ _ _ (by omega) (by omega)]
  cases hg : c.gone with
  | true =>
    rw [hg, if_pos rfl] at h3
    have hv : c.val = [] := List.eq_nil_of_length_eq_zero (by simpa using h3)
    have : nextU ([1] ++ rest) 0 = (1, rest, 0) := by rw [← uvarint_one]; exact nextU_put 1 rest (by decide)
    simp only [if_true, this]
    obtain ⟨k, v, g⟩ := c
    subst hg hv
    rfl
  | false =>
    rw [hg] at h3
    simp only [Bool.false_eq_true, if_false, decide_eq_true_eq] at h3
    have : nextU (0 :: putB c.val ++ rest) 0 = (0, putB c.val ++ rest, 0) := by
      have h0 := nextU_put 0 (putB c.val ++ rest) (by decide)
      rw [uvarint_zero] at h0; exact h0
    simp only [Bool.false_eq_true, if_false, this]
    rw [nextB_put _ _ _ (by omega) (by omega)]
    obtain ⟨k, v, g⟩ := c
    subst hg
    rfl
theorem decC_err (rem : List UInt8) (err : Nat) (h : err ≠ 0) : (decC rem err).2.2 = err := by
  unfold decC
  rw [nextB_err _ _ _ h, nextU_err _ _ h]
  simp only [if_true]
  rw [nextB_err _ _ _ h]
theorem decC_inv {rem r : List UInt8} {c : Chg} (h : decC rem 0 = (c, r, 0)) (hc : okC c = true) : rem = encC c ++ r := by
  rcases hk : nextB rem 0 16 with ⟨k, r1, e1⟩
  rcases ht : nextU r1 e1 with ⟨t, r2, e2⟩
  unfold decC at h
  simp only [hk, ht] at h
  have h0 : ∀ {x y : Nat}, x = y → x ≠ y → False := fun a b => b a
  by_cases he1 : e1 = 0
  · subst he1
    obtain ⟨rfl, hk2⟩ := nextB_inv hk
    by_cases t0 : t = 0
    · subst t0
      rw [if_pos rfl] at h
      rcases hv : nextB r2 e2 128 with ⟨v, r3, e3⟩
      rw [hv] at h
      simp only [Prod.mk.injEq] at h
      obtain ⟨rfl, rfl, rfl⟩ := h
      by_cases he2 : e2 = 0
      · subst he2
        obtain ⟨rfl, _⟩ := nextU_inv ht
        obtain ⟨rfl, _⟩ := nextB_inv hv
        unfold encC
        have := uvarint_zero
        rw [this]
        simp
      · rw [nextB_err _ _ _ he2] at hv
        simp only [Prod.mk.injEq] at hv
        exact absurd hv.2.2 he2
    · rw [if_neg t0] at h
      by_cases t1 : t = 1
      · subst t1
        rw [if_pos rfl] at h
        simp only [Prod.mk.injEq] at h
        obtain ⟨rfl, rfl, rfl⟩ := h
        obtain ⟨rfl, _⟩ := nextU_inv ht
        unfold encC
        have := uvarint_one
        rw [this]
        simp
      · rw [if_neg t1] at h
        simp only [Prod.mk.injEq] at h
        obtain ⟨rfl, _⟩ := h
        simp [okC] at hc
  · rw [nextU_err _ _ he1] at ht
    simp only [Prod.mk.injEq] at ht
    obtain ⟨rfl, rfl, rfl⟩ := ht
    rw [if_pos rfl, nextB_err _ _ _ he1] at h
    simp only [Prod.mk.injEq] at h
    exact absurd h.2.2 he1

/-- What a Reader tells of the next k changes. -/
def decN (rem : List UInt8) (err : Nat) : Nat → List Chg × List UInt8 × Nat
  | 0 => ([], rem, err)
  | k + 1 => ((decN rem err k).1 ++ [(decC (decN rem err k).2.1 (decN rem err k).2.2).1], (decC (decN rem err k).2.1 (decN rem err k).2.2).2)
theorem decN_len (rem : List UInt8) (err : Nat) : ∀ k, (decN rem err k).1.length = k
  | 0 => rfl
  | k + 1 => by unfold decN; simp [decN_len rem err k]
theorem bodyL_cons (c : Chg) (l : List Chg) : bodyL (c :: l) = encC c ++ bodyL l := by simp [bodyL]
theorem bodyL_app (a b : List Chg) : bodyL (a ++ b) = bodyL a ++ bodyL b := by simp [bodyL]
theorem drop_cons_at {α : Type} {l : List α} {k : Nat} (h : k < l.length) : l.drop k = l[k] :: l.drop (k + 1) := List.drop_eq_getElem_cons h
theorem decN_fwd (l : List Chg) (rest : List UInt8) (h : l.all okC = true) : ∀ k, k ≤ l.length → decN (bodyL l ++ rest) 0 k = (l.take k, bodyL (l.drop k) ++ rest, 0)
  | 0, _ => by simp [decN]
  | k + 1, hk => by
    have ih := decN_fwd l rest h k (by omega)
    unfold decN
    rw [ih]
    simp only
    have hok : okC l[k] = true := List.all_eq_true.1 h _ (List.getElem_mem _)
    rw [drop_cons_at (show k < l.length by omega), bodyL_cons, List.append_assoc, decC_fwd _ _ hok]
    simp only [Prod.mk.injEq, and_true]
    rw [List.take_succ_eq_append_getElem (show k < l.length by omega)]
theorem decN_inv (rem : List UInt8) (err : Nat) : ∀ k, (decN rem err k).2.2 = 0 → (decN rem err k).1.all okC = true → err = 0 ∧ rem = bodyL (decN rem err k).1 ++ (decN rem err k).2.1
  | 0, h, _ => ⟨h, by simp [decN, bodyL]⟩
  | k + 1, h, ha => by
    rcases hd : decN rem err k with ⟨l, r, e⟩
    have h2 := h; have ha2 := ha
    unfold decN at h2 ha2 ⊢
    rw [hd] at h2 ha2 ⊢
    simp only at h2 ha2 ⊢
    obtain ⟨⟨c, r2, e2⟩, hc⟩ : ∃ x, decC r e = x := ⟨_, rfl⟩
    rw [hc] at h2 ha2 ⊢
    simp only [List.all_append, List.all_cons, List.all_nil, Bool.and_true, Bool.and_eq_true] at h2 ha2 ⊢
    subst h2
    by_cases he : e = 0
    · subst he
      have ih := decN_inv rem err k (by rw [hd]) (by rw [hd]; exact ha2.1)
      rw [hd] at ih
      refine ⟨ih.1, ?_⟩
      rw [ih.2]
      have hcc := decC_inv hc ha2.2
      simp only [bodyL_app, bodyL_cons, List.append_assoc]
      rw [hcc]
      simp [bodyL]
    · have := decC_err r e he
      rw [hc] at this
      exact absurd this.symm he

def decodeS (b : List UInt8) : List Chg × Int :=
  if 1024 < b.length then ([], 50)
  else if 32 < (nextU b 0).1 then ([], 50)
  else if (decN (nextU b 0).2.1 (nextU b 0).2.2 (nextU b 0).1).2.2 ≠ 0 ∨ 0 < (decN (nextU b 0).2.1 (nextU b 0).2.2 (nextU b 0).1).2.1.length ∨ rightL (decN (nextU b 0).2.1 (nextU b 0).2.2 (nextU b 0).1).1 = false then ([], 50)
  else ((decN (nextU b 0).2.1 (nextU b 0).2.2 (nextU b 0).1).1, 0)

theorem decode_of {b : List UInt8} {l : List Chg} (h : encodeS l = (b, 0)) : decodeS b = (l, 0) := by
  obtain ⟨h1, h2, rfl⟩ := encodeS_ok h
  have hr := h1
  unfold rightL at h1
  simp only [Bool.and_eq_true, decide_eq_true_eq] at h1
  unfold decodeS
  rw [if_neg (by omega)]
  have hn : nextU (encL l) 0 = (l.length, bodyL l, 0) := nextU_put _ _ (by omega)
  rw [hn]
  simp only
  rw [if_neg (by omega)]
  have hd := decN_fwd l [] h1.2 l.length (Nat.le_refl _)
  rw [List.append_nil] at hd
  rw [hd]
  simp only [List.drop_length, List.take_length]
  rw [if_neg (by simp [bodyL, hr])]
theorem encode_of {b : List UInt8} {l : List Chg} (h : decodeS b = (l, 0)) : encodeS l = (b, 0) := by
  unfold decodeS at h
  split at h
  · simp at h
  rename_i h1
  split at h
  · simp at h
  rename_i h2
  split at h
  · simp at h
  rename_i h3
  simp only [Prod.mk.injEq, and_true] at h
  have hr : rightL (decN (nextU b 0).2.1 (nextU b 0).2.2 (nextU b 0).1).1 = true := by
    cases hx : rightL (decN (nextU b 0).2.1 (nextU b 0).2.2 (nextU b 0).1).1 with
    | true => rfl
    | false => exact absurd (.inr (.inr hx)) h3
  have he : (decN (nextU b 0).2.1 (nextU b 0).2.2 (nextU b 0).1).2.2 = 0 := by
    by_cases hx : (decN (nextU b 0).2.1 (nextU b 0).2.2 (nextU b 0).1).2.2 = 0
    · exact hx
    · exact absurd (.inl hx) h3
  have hl : (decN (nextU b 0).2.1 (nextU b 0).2.2 (nextU b 0).1).2.1 = [] := by
    apply List.eq_nil_of_length_eq_zero
    by_cases hx : 0 < (decN (nextU b 0).2.1 (nextU b 0).2.2 (nextU b 0).1).2.1.length
    · exact absurd (.inr (.inl hx)) h3
    · omega
  have ha : (decN (nextU b 0).2.1 (nextU b 0).2.2 (nextU b 0).1).1.all okC = true := by
    unfold rightL at hr
    simp only [Bool.and_eq_true] at hr
    exact hr.2
  have hi := decN_inv _ _ _ he ha
  have hn := decN_len (nextU b 0).2.1 (nextU b 0).2.2 (nextU b 0).1
  rw [hl, List.append_nil, h] at hi
  rw [h] at hn hr
  rcases hu : nextU b 0 with ⟨v, r, e⟩
  rw [hu] at hi hn
  simp only at hi hn
  obtain ⟨rfl, rfl⟩ := hi
  have := (nextU_inv hu).1
  rw [← hn] at this
  have hb : b = encL l := this
  rw [hb]
  exact encodeS_of hr (by rw [← hb]; omega)
theorem decode_none {b : List UInt8} (h : ∀ l, encodeS l ≠ (b, 0)) : decodeS b = ([], 50) := by
  rcases hd : decodeS b with ⟨l, e⟩
  by_cases he : e = 0
  · subst he; exact absurd (encode_of hd) (h l)
  · unfold decodeS at hd
    split at hd
    · exact hd.symm
    split at hd
    · exact hd.symm
    split at hd
    · exact hd.symm
    · simp only [Prod.mk.injEq] at hd; exact absurd hd.2.symm he
theorem decode_cases (b : List UInt8) : (∃ l, decodeS b = (l, 0) ∧ encodeS l = (b, 0)) ∨ decodeS b = ([], 50) := by
  rcases hd : decodeS b with ⟨l, e⟩
  by_cases he : e = 0
  · subst he; exact .inl ⟨l, rfl, encode_of hd⟩
  · right
    unfold decodeS at hd
    split at hd
    · exact hd.symm
    split at hd
    · exact hd.symm
    split at hd
    · exact hd.symm
    · simp only [Prod.mk.injEq] at hd; exact absurd hd.2.symm he
end Go.Proofs.YtfepjgafamaegaaGreat

/- Plain: pairs by rising keys; as a map's datum. -/
namespace Go.Proofs.YtfepjgafamaegaaGreat
open Go.Maps

abbrev Pr := List UInt8 × List UInt8
def lessB (a b : List UInt8) : Bool := bytesBefore a b
def insP (x : Pr) : List Pr → List Pr
  | [] => [x]
  | y :: r => if lessB x.1 y.1 then x :: y :: r else y :: insP x r
def delP (k : List UInt8) (L : List Pr) : List Pr := L.filter fun p => !(p.1 == k)
def putP (k v : List UInt8) (L : List Pr) : List Pr := insP (k, v) (delP k L)
def layC (L : List Pr) (c : Chg) : List Pr := if c.gone then delP c.key L else putP c.key c.val L
def layL (L : List Pr) (b : List Chg) : List Pr := b.foldl layC L
def getP (L : List Pr) (k : List UInt8) : Option (List UInt8) := (L.find? fun p => p.1 == k).map (·.2)

/-- A pair, as a map's element. -/
def pairD (p : Pr) : DataW Unit := .agg [.lit (.string p.1), .lit (.string p.2)]
def pairR : Value → Option (DataW Unit × List MemPlace)
  | .agg cs => match cs.toList with
    | [.string a, .string b] => some (pairD (a.data.toList, b.data.toList), [])
    | _ => none
  | _ => none
theorem pairR_mk (a b : List UInt8) : pairR (.agg #[.string ⟨a.toArray⟩, .string ⟨b.toArray⟩]) = some (pairD (a, b), []) := rfl
theorem pairR_inv {v : Value} {p : Pr} {ps : List MemPlace} (h : pairR v = some (pairD p, ps)) : v = .agg #[.string ⟨p.1.toArray⟩, .string ⟨p.2.toArray⟩] := by
  cases v with
  | agg cs =>
    unfold pairR at h
    simp only at h
    split at h
    · rename_i a b hcs
      simp only [pairD, Option.some.injEq, Prod.mk.injEq, DataW.agg.injEq, List.cons.injEq, DataW.lit.injEq, Lit.string.injEq, and_true] at h
      obtain ⟨⟨h1, h2⟩, _⟩ := h
      have : cs = #[.string a, .string b] := by rw [← Array.toArray_toList (xs := cs), hcs]
      rw [this, ← h1, ← h2]
    · cases h
  | _ => simp [pairR] at h
def entD (p : Pr) : Lit × DataW Unit := (.string p.1, pairD p)
/-- The pairs, as a map reads. -/
def mapD (L : List Pr) : DataW Unit := .map (L.map entD)
theorem insP_map (x : Pr) : ∀ L : List Pr, (insP x L).map entD = DataW.insert (entD x) (L.map entD)
  | [] => rfl
  | y :: r => by
    unfold insP
    simp only [List.map_cons]
    unfold DataW.insert
    have : (entD x).1.before (entD y).1 = lessB x.1 y.1 := rfl
    rw [this]
    cases lessB x.1 y.1 with
    | true => simp
    | false => simp [insP_map x r]
theorem delP_map (k : List UInt8) : ∀ L : List Pr, (delP k L).map entD = (L.map entD).filter fun p => !p.1.sameKey (.string k)
  | [] => rfl
  | y :: r => by
    have ih := delP_map k r
    unfold delP at *
    simp only [List.map_cons, List.filter_cons]
    have : (entD y).1.sameKey (.string k) = (y.1 == k) := rfl
    rw [this]
    cases (y.1 == k) with
    | true => simpa using ih
    | false => simpa using ih
theorem mapD_put (k v : List UInt8) (L : List Pr) : (mapD L).put (.string k) (pairD (k, v)) = mapD (putP k v L) := by
  unfold mapD putP DataW.put
  rw [insP_map, delP_map]
  rfl
theorem mapD_del (k : List UInt8) (L : List Pr) : (mapD L).del (.string k) = mapD (delP k L) := by
  unfold mapD DataW.del
  rw [delP_map]
theorem mapD_at (k : List UInt8) (L : List Pr) (z : Pr) : (mapD L).atKey (.string k) (pairD z) = pairD ((L.find? fun p => p.1 == k).getD z) := by
  unfold mapD DataW.atKey
  simp only [List.find?_map]
  have : ((fun p : Lit × DataW Unit => p.1.sameKey (.string k)) ∘ entD) = fun p : Pr => p.1 == k := rfl
  rw [this]
  cases L.find? (fun p => p.1 == k) <;> rfl
theorem mapD_has (k : List UInt8) (L : List Pr) : Maps.has (mapD L) (.string k) = (getP L k).isSome := by
  unfold mapD
  rw [Maps.has_eq]
  unfold getP
  rw [List.any_map]
  have : ((fun p : Lit × DataW Unit => p.1.sameKey (.string k)) ∘ entD) = fun p : Pr => p.1 == k := rfl
  rw [this, Option.isSome_map, Bool.eq_iff_iff, List.any_eq_true, List.find?_isSome]
theorem mapD_size (L : List Pr) : Maps.size (mapD L) = L.length := by unfold mapD; rw [Maps.size_eq]; simp

/-! ### the order -/
theorem lessB_irrefl : ∀ a : List UInt8, lessB a a = false
  | [] => rfl
  | x :: r => by
    have ih := lessB_irrefl r
    unfold lessB at *
    simp [bytesBefore, ih]
theorem lessB_trans : ∀ {a b c : List UInt8}, lessB a b = true → lessB b c = true → lessB a c = true
  | [], b, [], h1, h2 => by cases b <;> simp [lessB, bytesBefore] at h2
  | [], _, _ :: _, _, _ => rfl
  | _ :: _, [], _, h1, _ => by simp [lessB, bytesBefore] at h1
  | x :: r, y :: s, [], _, h2 => by simp [lessB, bytesBefore] at h2
  | x :: r, y :: s, z :: t, h1, h2 => by
    have ih := @lessB_trans r s t
    unfold lessB at *
    simp only [bytesBefore, Bool.or_eq_true, decide_eq_true_eq, Bool.and_eq_true, beq_iff_eq] at h1 h2 ⊢
    rcases h1 with h1 | ⟨rfl, h1⟩
    · rcases h2 with h2 | ⟨rfl, h2⟩
      · exact .inl (UInt8.lt_trans h1 h2)
      · exact .inl h1
    · rcases h2 with h2 | ⟨rfl, h2⟩
      · exact .inl h2
      · exact .inr ⟨rfl, ih h1 h2⟩
theorem lessB_total : ∀ a b : List UInt8, lessB a b = false → lessB b a = false → a = b
  | [], [], _, _ => rfl
  | [], _ :: _, h, _ => by simp [lessB, bytesBefore] at h
  | _ :: _, [], _, h => by simp [lessB, bytesBefore] at h
  | x :: r, y :: s, h1, h2 => by
    have ih := lessB_total r s
    unfold lessB at *
    simp only [bytesBefore, Bool.or_eq_false_iff, decide_eq_false_iff_not, Bool.and_eq_false_iff] at h1 h2
    have hxy : x = y := by
      apply UInt8.le_antisymm
      · exact UInt8.not_lt.1 h2.1
      · exact UInt8.not_lt.1 h1.1
    subst hxy
    rw [ih (by simpa using h1.2) (by simpa using h2.2)]
def Srt (L : List Pr) : Prop := L.Pairwise fun p q => lessB p.1 q.1 = true
theorem Srt.del {L : List Pr} (h : Srt L) (k : List UInt8) : Srt (delP k L) := h.sublist List.filter_sublist
theorem insP_mem (x : Pr) : ∀ (L : List Pr) (p : Pr), p ∈ insP x L ↔ p = x ∨ p ∈ L
  | [], p => by simp [insP]
  | y :: r, p => by
    unfold insP
    split
    · simp
    · simp only [List.mem_cons, insP_mem x r p]
      constructor
      · rintro (h | h | h)
        · exact .inr (.inl h)
        · exact .inl h
        · exact .inr (.inr h)
      · rintro (h | h | h)
        · exact .inr (.inl h)
        · exact .inl h
        · exact .inr (.inr h)
theorem Srt.ins {x : Pr} : ∀ {L : List Pr}, Srt L → (∀ p ∈ L, p.1 ≠ x.1) → Srt (insP x L)
  | [], _, _ => by unfold insP Srt; simp
  | y :: r, h, hn => by
    unfold insP
    have h0 := List.pairwise_cons.1 h
    split
    · rename_i hxy
      refine List.pairwise_cons.2 ⟨fun p hp => ?_, h⟩
      rcases List.mem_cons.1 hp with rfl | hp
      · exact hxy
      · exact lessB_trans hxy (h0.1 p hp)
    · rename_i hxy
      refine List.pairwise_cons.2 ⟨fun p hp => ?_, Srt.ins h0.2 fun p hp => hn p (List.mem_cons_of_mem _ hp)⟩
      rcases (insP_mem x r p).1 hp with rfl | hp
      · cases hyx : lessB y.1 p.1 with
        | true => rfl
        | false => exact absurd (lessB_total _ _ hyx (by simpa using hxy)) (hn y (List.mem_cons_self))
      · exact h0.1 p hp
theorem delP_ne (k : List UInt8) (L : List Pr) : ∀ p ∈ delP k L, p.1 ≠ k := by
  intro p hp
  unfold delP at hp
  simpa using (List.mem_filter.1 hp).2
theorem Srt.lay {L : List Pr} (h : Srt L) (c : Chg) : Srt (layC L c) := by
  unfold layC
  split
  · exact h.del _
  · exact Srt.ins (h.del _) (delP_ne _ _)
theorem Srt.layL {b : List Chg} : ∀ {L : List Pr}, Srt L → Srt (layL L b) := by
  induction b with
  | nil => intro L h; exact h
  | cons c r ih => intro L h; exact ih (h.lay c)
theorem layL_app (L : List Pr) (a b : List Chg) : layL L (a ++ b) = layL (layL L a) b := by unfold layL; rw [List.foldl_append]
end Go.Proofs.YtfepjgafamaegaaGreat

/- Plain: how the document lays a change among rising pairs. -/
namespace Go.Proofs.YtfepjgafamaegaaGreat

def tailC (k : List UInt8) : List Pr → List Pr
  | p :: r => if p.1 == k then r else p :: r
  | [] => []
theorem tailC_cons (k : List UInt8) (p : Pr) (r : List Pr) : tailC k (p :: r) = if p.1 == k then r else p :: r := rfl
theorem lessB_asymm {a b : List UInt8} (h : lessB a b = true) : lessB b a = false := by
  cases h2 : lessB b a with
  | false => rfl
  | true =>
    have := lessB_trans h h2
    rw [lessB_irrefl] at this
    cases this
theorem delP_app (k : List UInt8) (a b : List Pr) : delP k (a ++ b) = delP k a ++ delP k b := by unfold delP; rw [List.filter_append]
theorem delP_none {k : List UInt8} {a : List Pr} (h : ∀ p ∈ a, p.1 ≠ k) : delP k a = a := by
  unfold delP
  rw [List.filter_eq_self]
  intro p hp
  simpa using h p hp
theorem delP_tail {k : List UInt8} {b : List Pr} (hb : Srt b) (hh : ∀ p, b.head? = some p → lessB p.1 k = false) : delP k b = tailC k b := by
  cases b with
  | nil => rfl
  | cons p r =>
    have h0 := List.pairwise_cons.1 hb
    have hp := hh p rfl
    rw [tailC_cons]
    by_cases e : p.1 = k
    · rw [if_pos (by simpa using e)]
      have : delP k (p :: r) = delP k r := by unfold delP; simp [e]
      rw [this]
      refine delP_none fun q hq e2 => ?_
      have := h0.1 q hq
      rw [e, e2, lessB_irrefl] at this
      cases this
    · rw [if_neg (by simpa using e)]
      refine delP_none fun q hq e2 => ?_
      rcases List.mem_cons.1 hq with rfl | hq
      · exact e e2
      · have := h0.1 q hq
        rw [e2, hp] at this
        cases this
theorem tailC_head {k : List UInt8} {b : List Pr} (hb : Srt b) (hh : ∀ p, b.head? = some p → lessB p.1 k = false) : ∀ p, (tailC k b).head? = some p → lessB k p.1 = true := by
  intro q hq
  cases b with
  | nil => cases hq
  | cons p r =>
    have h0 := List.pairwise_cons.1 hb
    have hp := hh p rfl
    rw [tailC_cons] at hq
    by_cases e : p.1 = k
    · rw [if_pos (by simpa using e)] at hq
      cases r with
      | nil => cases hq
      | cons q' r' =>
        cases hq
        rw [← e]
        exact h0.1 q (List.mem_cons_self)
    · rw [if_neg (by simpa using e)] at hq
      cases hq
      cases h : lessB k q.1 with
      | true => rfl
      | false => exact absurd (lessB_total _ _ hp h) e
theorem insP_app (x : Pr) (b : List Pr) (hb : ∀ p, b.head? = some p → lessB x.1 p.1 = true) : ∀ a : List Pr, (∀ p ∈ a, lessB p.1 x.1 = true) → insP x (a ++ b) = a ++ x :: b
  | [], _ => by
    cases b with
    | nil => rfl
    | cons p r =>
      show insP x (p :: r) = _
      unfold insP
      rw [if_pos (hb p rfl)]
      rfl
  | y :: a, h => by
    show insP x (y :: (a ++ b)) = _
    unfold insP
    rw [if_neg (by rw [lessB_asymm (h y List.mem_cons_self)]; decide), insP_app x b hb a fun p hp => h p (List.mem_cons_of_mem _ hp)]
    rfl
theorem lay_split {L : List Pr} (hS : Srt L) (c : Chg) (k : Nat) (h1 : ∀ p ∈ L.take k, lessB p.1 c.key = true) (h2 : ∀ p, (L.drop k).head? = some p → lessB p.1 c.key = false) :
    layC L c = L.take k ++ ((if c.gone then [] else [(c.key, c.val)]) ++ tailC c.key (L.drop k)) := by
  have hd : Srt (L.drop k) := hS.sublist (List.drop_sublist _ _)
  have hdel : delP c.key L = L.take k ++ tailC c.key (L.drop k) := by
    have e : L = L.take k ++ L.drop k := (List.take_append_drop k L).symm
    rw [e, delP_app, delP_none (fun p hp e => by have := h1 p (by simpa using hp); rw [e, lessB_irrefl] at this; cases this), delP_tail (by simpa using hd) (by simpa using h2)]
    simp
  unfold layC
  cases hg : c.gone with
  | true => simpa using hdel
  | false =>
    simp only [Bool.false_eq_true, if_false]
    unfold putP
    rw [hdel, insP_app (c.key, c.val) _ (tailC_head hd h2) _ h1]
    rfl
end Go.Proofs.YtfepjgafamaegaaGreat

/- ref02.Put answers the plain frame. -/
namespace Go.Proofs.YtfepjgafamaegaaGreat
open Go.RowKit

set_option maxRecDepth 100000 in
set_option maxHeartbeats 1000000 in
theorem refPutF_long (kind : Int) (A : Option Addr) (n c : Nat) (w : World) (hn : 1024 < n) (_hm : n ≤ 9223372036854775807) :
    Calls Tryz.prog 123 #[.int .u8 kind, .slice A n c] w fun e w' => e = .returned (.tuple #[.slice none 0 0, .int .i64 3]) ∧ w = w' := by
  go_enter Tryz.func123, Tryz.ntmps123
  go_wp2
  go_ret2
  exact ⟨rfl, rfl⟩

set_option maxHeartbeats 4000000 in
set_option maxRecDepth 100000 in
theorem refPutF_ok (kind : UInt8) (A : Option Addr) (n c : Nat) (l : List UInt8) (w : World) (hn : n ≤ 1024) (h : Rd w w.heap.size A n l) :
    Calls Tryz.prog 123 #[.int .u8 (kind.toNat : Int), .slice A n c] w fun e w' => ∃ v, e = .returned (.tuple #[v, .int .i64 0]) ∧ w'.ownsRow w.heap.size 5 1 v (10 + n) (u8s (putF (kind, l))) ∧ Below w.heap.size w w' := by
  obtain ⟨i0, hi0, hz0, hz1, hz2⟩ := info_parts Tryz.infoU8
  have hl := h.1
  have hA := h.none_zero
  have Cn : Hid (∀ w, Calls Tryz.prog 151 #[.int .u32 n] w fun e w' => ∃ v, e = .returned v ∧ w'.ownsRow w.heap.size 5 1 v 4 (u8s (fixed4 n)) ∧ Below w.heap.size w w') := fun w => refPutFixed_any n w (by omega)
  have Cs : Hid (∀ w, Calls Tryz.prog 151 #[.int .u32 (crcSum (headF (kind, l)))] w fun e w' => ∃ v, e = .returned v ∧ w'.ownsRow w.heap.size 5 1 v 4 (u8s (fixed4 (crcSum (headF (kind, l))))) ∧ Below w.heap.size w w') := fun w => refPutFixed_any _ w (crcSum_lt _)
  have Hl := Lib.hid hl
  clear hl
  go_enter Tryz.func123, Tryz.ntmps123
  go_wp2_with fail
  refine (Cn.out _).mono ?_
  rintro e w1 ⟨v1, rfl, ho1, hb1⟩
  have O0 : Hid (w1.ownsRow w.heap.size 5 1 (.slice (some ⟨w.heap.size, 0, none⟩) 2 2) 2 (u8s [167, kind])) :=
    own_below (own_lit w 5 [.int .u8 167, .int .u8 (kind.toNat : Int)] 2 rfl (by simp [maxLen])) hb1 (fun k hk => by injection hk with hk; subst hk; simp)
  have B1 : Hid (Below w.heap.size w w1) := ((Below.refl w.heap.size w).alloc (Nat.le_refl _) _).trans (hb1.mono (by simp))
  obtain ⟨A1, c1, rfl, _⟩ := own_shape ho1
  have R1 := Lib.hid (Rd.of_own ho1)
  have z1 := B1.out.size
  clear ho1 hb1
  go_wp2_with (at_builtin; refine wpList_append_app _ rfl _ _ 23 rfl w.heap.size 5 i0 (.int .u8 0) 1 1 Tryz.underlying23 hi0 hz0 hz1 hz2 rfl _ _ _ rfl O0.out A1 4 c1 (u8s (fixed4 n)) rfl (by rw [u8s_len, Nat.mul_one]; rfl) R1.out.none_zero R1.out.cells (u8s_one _) (by unfold maxLen; omega) (by omega) z1 ?_)
  intro va w2 ha
  have Oa : Hid (w2.ownsRow w.heap.size 5 1 va (2 + 4) (u8s ([167, kind] ++ fixed4 n))) := by rw [u8s_append]; exact ha.own
  have B2 := Lib.hid (ha.below B1.out z1 (own_block_ge O0.out))
  have z2 := B2.out.size
  clear ha O0 B1 R1 z1
  go_wp2_with (at_builtin; refine wpList_append_app _ rfl _ _ 23 rfl w.heap.size 5 i0 (.int .u8 0) 1 1 Tryz.underlying23 hi0 hz0 hz1 hz2 rfl _ _ _ rfl Oa.out A n c (u8s l) rfl (by rw [u8s_len, Hl.out, Nat.mul_one]) hA (h.below B2.out).cells (u8s_one l) (by unfold maxLen; omega) (by omega) z2 ?_)
  intro vb w3 ha
  have hob : w3.ownsRow w.heap.size 5 1 vb (2 + 4 + n) (u8s (headF (kind, l))) := by
    have h := ha.own
    rw [← u8s_append] at h
    have e : [167, kind] ++ fixed4 n ++ l = headF (kind, l) := by show _ = 167 :: kind :: (fixed4 l.length ++ l); rw [Hl.out]; rfl
    rw [← e]
    exact h
  have B3 := Lib.hid (ha.below B2.out z2 (own_block_ge Oa.out))
  have z3 := B3.out.size
  obtain ⟨Ab, cb, rfl, hcb, hcm⟩ := own_shape hob
  have Su := Lib.hid (refSum_any Ab (2 + 4 + n) cb _ (headF (kind, l)) w3 hcb (by unfold maxLen at hcm; omega) (Rd.of_own hob))
  have Ob := Lib.hid hob
  clear ha Oa B2 z2 hob hcb hcm
  go_wp2_with fail
  refine Su.out.mono ?_
  rintro e w' ⟨rfl, rfl⟩
  go_wp2_with fail
  refine (Cs.out _).mono ?_
  rintro e w4 ⟨vs, rfl, hos, hbs⟩
  have O4 := Lib.hid (own_below Ob.out hbs fun k hk => (Ob.out.lt k hk).2)
  have B4 := Lib.hid (below_then B3.out hbs)
  obtain ⟨As, cs, rfl, _⟩ := own_shape hos
  have Rs := Lib.hid (Rd.of_own hos)
  have z4 := B4.out.size
  clear hos hbs Ob B3 Su z3
  go_wp2_with (at_builtin; refine wpList_append_app _ rfl _ _ 23 rfl w.heap.size 5 i0 (.int .u8 0) 1 1 Tryz.underlying23 hi0 hz0 hz1 hz2 rfl _ _ _ rfl O4.out As 4 cs (u8s (fixed4 (crcSum (headF (kind, l))))) rfl (by rw [u8s_len, Nat.mul_one]; rfl) Rs.out.none_zero Rs.out.cells (u8s_one _) (by unfold maxLen; omega) (by omega) z4 ?_)
  intro vd w5 ha
  have Od : Hid (w5.ownsRow w.heap.size 5 1 vd (10 + n) (u8s (putF (kind, l)))) := by
    have h := ha.own
    rw [← u8s_append] at h
    rw [show 10 + n = 6 + n + 4 by omega]
    exact h
  have B5 := Lib.hid (ha.below B4.out z4 (own_block_ge O4.out))
  clear ha O4 B4 Rs z4
  go_wp2
  go_ret2
  exact ⟨_, rfl, Od.out, B5.out⟩
end Go.Proofs.YtfepjgafamaegaaGreat

/- Plain: the document's reading of a batch, step by step against whatever batch has these bytes. -/
namespace Go.Proofs.YtfepjgafamaegaaGreat

def Mt (b : List UInt8) (N p k : Nat) (dl : List Chg) : Prop := ∀ l, encodeS l = (b, 0) → l.length = N ∧ dl = l.take k ∧ b.drop p = bodyL (l.drop k)
theorem Mt.start {b : List UInt8} {N p : Nat} (h : uintAt b 0 = ((N : Int), (p : Int), 0)) : Mt b N p 0 [] := by
  intro l hl
  obtain ⟨h1, h2, rfl⟩ := encodeS_ok hl
  unfold rightL at h1
  simp only [Bool.and_eq_true, decide_eq_true_eq] at h1
  have h3 := uintAt_in (encL l) 0 (by omega)
  rw [List.drop_zero] at h3
  unfold encL at h3 h ⊢
  rw [uu0_back _ _ (by omega)] at h3
  have h4 : uintAt (Lib.uvarint l.length ++ bodyL l) 0 = ((l.length : Int), ((0 : Nat) : Int) + ((Lib.uvarint l.length).length : Int), 0) := h3
  rw [h4] at h
  simp only [Prod.mk.injEq, and_true] at h
  have e1 : N = l.length := by omega
  have e2 : p = (Lib.uvarint l.length).length := by omega
  subst e1 e2
  exact ⟨rfl, by simp, by simp⟩
theorem Mt.bad {b : List UInt8} (h : (uintAt b 0).2.2 ≠ 0 ∨ 32 < (uintAt b 0).1) : ∀ l, encodeS l ≠ (b, 0) := by
  intro l hl
  obtain ⟨h1, h2, rfl⟩ := encodeS_ok hl
  unfold rightL at h1
  simp only [Bool.and_eq_true, decide_eq_true_eq] at h1
  have h3 := uintAt_in (encL l) 0 (by omega)
  rw [List.drop_zero] at h3
  unfold encL at h3 h
  rw [uu0_back _ _ (by omega)] at h3
  have h4 : uintAt (Lib.uvarint l.length ++ bodyL l) 0 = ((l.length : Int), ((0 : Nat) : Int) + ((Lib.uvarint l.length).length : Int), 0) := h3
  rw [h4] at h
  simp only [ne_eq, not_true_eq_false, false_or] at h
  omega
/-- What the k-th change of a batch is, where it stands. -/
theorem Mt.at {b : List UInt8} {N p k : Nat} {dl : List Chg} (h : Mt b N p k dl) (hk : k < N) (hp : p ≤ b.length) {l : List Chg} (hl : encodeS l = (b, 0)) :
    ∃ c, okC c = true ∧ l.take (k + 1) = dl ++ [c] ∧ l.length = N ∧ txtAt b p 16 = (c.key, ((p + (putB c.key).length : Nat) : Int), 0) ∧ p + (putB c.key).length < b.length ∧
      b.drop (p + (putB c.key).length) = (if c.gone then [1] else 0 :: putB c.val) ++ bodyL (l.drop (k + 1)) := by
  obtain ⟨h1, h2, h3⟩ := h l hl
  obtain ⟨g1, g2, g3⟩ := encodeS_ok hl
  unfold rightL at g1
  simp only [Bool.and_eq_true] at g1
  have hkl : k < l.length := by omega
  have hok : okC l[k] = true := List.all_eq_true.1 g1.2 _ (List.getElem_mem _)
  rw [drop_cons_at hkl, bodyL_cons] at h3
  unfold encC at h3
  rw [List.append_assoc] at h3
  have hok2 := hok
  unfold okC at hok2
  simp only [Bool.and_eq_true, decide_eq_true_eq] at hok2
  have hd : b.drop (p + (putB l[k].key).length) = (if l[k].gone then [1] else 0 :: putB l[k].val) ++ bodyL (l.drop (k + 1)) := by
    rw [← List.drop_drop, h3, List.drop_left]
  refine ⟨l[k], hok, ?_, h1, txtAt_put hp h3 (by omega) (by omega), ?_, hd⟩
  · rw [List.take_succ_eq_append_getElem hkl, h2]
  · have := congrArg List.length hd
    rw [List.length_drop, List.length_append] at this
    have h4 : 1 ≤ (if l[k].gone then [1] else 0 :: putB l[k].val).length := by split <;> simp
    omega
theorem Mt.fail1 {b : List UInt8} {N p k : Nat} {dl : List Chg} (h : Mt b N p k dl) (hk : k < N) (hp : p ≤ b.length) (he : (txtAt b p 16).2.2 ≠ 0) : ∀ l, encodeS l ≠ (b, 0) := by
  intro l hl
  obtain ⟨c, _, _, _, h1, _⟩ := h.at hk hp hl
  rw [h1] at he
  exact he rfl
theorem Mt.fail2 {b : List UInt8} {N p k to : Nat} {dl : List Chg} {t : List UInt8} (h : Mt b N p k dl) (hk : k < N) (hp : p ≤ b.length) (ht : txtAt b p 16 = (t, (to : Int), 0)) (he : b.length ≤ to ∨ ∃ x, b[to]? = some x ∧ 1 < x.toNat) :
    ∀ l, encodeS l ≠ (b, 0) := by
  intro l hl
  obtain ⟨c, _, _, _, h1, h2, h3⟩ := h.at hk hp hl
  rw [ht] at h1
  simp only [Prod.mk.injEq, and_true] at h1
  have e : to = p + (putB c.key).length := by omega
  subst e
  rcases he with he | ⟨x, hx, hx1⟩
  · omega
  · have := List.getElem?_drop (xs := b) (i := p + (putB c.key).length) (j := 0)
    rw [Nat.add_zero, hx, h3] at this
    cases hg : c.gone with
    | true => rw [hg] at this; simp at this; subst this; simp at hx1
    | false => rw [hg] at this; simp at this; subst this; simp at hx1
theorem Mt.flag {b : List UInt8} {N p k to : Nat} {dl : List Chg} {t : List UInt8} (h : Mt b N p k dl) (hk : k < N) (hp : p ≤ b.length) (ht : txtAt b p 16 = (t, (to : Int), 0)) {l : List Chg} (hl : encodeS l = (b, 0)) :
    ∃ c, okC c = true ∧ l.take (k + 1) = dl ++ [c] ∧ l.length = N ∧ c.key = t ∧ b[to]? = some (if c.gone then 1 else 0) ∧ b.drop (to + 1) = (if c.gone then [] else putB c.val) ++ bodyL (l.drop (k + 1)) ∧ to + 1 ≤ b.length := by
  obtain ⟨c, h0, ha, hb, h1, h2, h3⟩ := h.at hk hp hl
  rw [ht] at h1
  simp only [Prod.mk.injEq, and_true] at h1
  have e : to = p + (putB c.key).length := by omega
  subst e
  have h4 := List.getElem?_drop (xs := b) (i := p + (putB c.key).length) (j := 0)
  rw [Nat.add_zero, h3] at h4
  have h5 : b.drop (p + (putB c.key).length + 1) = ((if c.gone then [1] else 0 :: putB c.val) ++ bodyL (l.drop (k + 1))).drop 1 := by rw [← h3, List.drop_drop]
  refine ⟨c, h0, ha, hb, h1.1.symm, ?_, ?_, by omega⟩
  · rw [← h4]; cases c.gone <;> simp
  · rw [h5]; cases c.gone <;> simp
theorem Mt.gone {b : List UInt8} {N p k to : Nat} {dl : List Chg} {t : List UInt8} (h : Mt b N p k dl) (hk : k < N) (hp : p ≤ b.length) (ht : txtAt b p 16 = (t, (to : Int), 0)) (hx : b[to]? = some 1) : Mt b N (to + 1) (k + 1) (dl ++ [⟨t, [], true⟩]) := by
  intro l hl
  obtain ⟨c, h0, ha, hb, h1, h2, h3, _⟩ := h.flag hk hp ht hl
  rw [hx] at h2
  obtain ⟨ck, cv, cg⟩ := c
  cases cg with
  | false => simp at h2
  | true =>
    simp only [okC, Bool.and_eq_true, decide_eq_true_eq, if_true] at h0
    have hv : cv = [] := List.eq_nil_of_length_eq_zero h0.2.2
    subst hv
    have h1 : ck = t := h1
    subst h1
    exact ⟨hb, ha.symm, by simpa using h3⟩
theorem Mt.live {b : List UInt8} {N p k to up : Nat} {dl : List Chg} {t v : List UInt8} (h : Mt b N p k dl) (hk : k < N) (hp : p ≤ b.length) (ht : txtAt b p 16 = (t, (to : Int), 0)) (hx : b[to]? = some 0) (hv : txtAt b ((to + 1 : Nat) : Int) 128 = (v, (up : Int), 0)) :
    Mt b N up (k + 1) (dl ++ [⟨t, v, false⟩]) := by
  intro l hl
  obtain ⟨c, h0, ha, hb, h1, h2, h3, h4⟩ := h.flag hk hp ht hl
  rw [hx] at h2
  obtain ⟨ck, cv, cg⟩ := c
  cases cg with
  | true => simp at h2
  | false =>
    simp only [okC, Bool.and_eq_true, decide_eq_true_eq, Bool.false_eq_true, if_false] at h0 h3
    have h1 : ck = t := h1
    subst h1
    have h5 := txtAt_put h4 h3 (show (cv.length : Int) ≤ 128 by omega) (by omega)
    rw [hv] at h5
    simp only [Prod.mk.injEq, and_true] at h5
    obtain ⟨rfl, h6⟩ := h5
    have e : up = to + 1 + (putB v).length := by omega
    subst e
    exact ⟨hb, ha.symm, by rw [← List.drop_drop, h3, List.drop_left]⟩
theorem Mt.fail3 {b : List UInt8} {N p k to : Nat} {dl : List Chg} {t : List UInt8} (h : Mt b N p k dl) (hk : k < N) (hp : p ≤ b.length) (ht : txtAt b p 16 = (t, (to : Int), 0)) (hx : b[to]? = some 0) (he : (txtAt b ((to + 1 : Nat) : Int) 128).2.2 ≠ 0) :
    ∀ l, encodeS l ≠ (b, 0) := by
  intro l hl
  obtain ⟨c, h0, ha, hb, h1, h2, h3, h4⟩ := h.flag hk hp ht hl
  rw [hx] at h2
  obtain ⟨ck, cv, cg⟩ := c
  cases cg with
  | true => simp at h2
  | false =>
    simp only [okC, Bool.and_eq_true, decide_eq_true_eq, Bool.false_eq_true, if_false] at h0 h3
    have h5 := txtAt_put h4 h3 (show (cv.length : Int) ≤ 128 by omega) (by omega)
    rw [h5] at he
    exact he rfl
theorem Mt.done {b : List UInt8} {N p : Nat} {dl : List Chg} (h : Mt b N p N dl) (hne : encodeS dl ≠ (b, 0)) : ∀ l, encodeS l ≠ (b, 0) := by
  intro l hl
  obtain ⟨h1, h2, _⟩ := h l hl
  rw [List.take_of_length_le (by omega)] at h2
  subst h2
  exact hne hl
end Go.Proofs.YtfepjgafamaegaaGreat
