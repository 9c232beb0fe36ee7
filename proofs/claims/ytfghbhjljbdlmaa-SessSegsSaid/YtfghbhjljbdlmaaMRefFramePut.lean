/- Of the proofs of layer 4, merged: RefFramePut, BackP, ReaderP, ReaderB. -/
import Derived.Test.YtfghbhjljbdlmaaMFrameP
import Derived.Test.YtfghbhjljbdlmaaM1Texts
import Derived.Test.YtfghbhjljbdlmaaM1Lent2
import Derived.Lib.Zigzag
import Derived.Test.YtfghbhjljbdlmaaMWords

/- ref02.Put answers the plain frame. -/
namespace Go.Proofs.Ytfghbhjljbdlmaa
open Go.RowKit

set_option maxRecDepth 100000 in
set_option maxHeartbeats 1000000 in
theorem refPutF_long (kind : Int) (A : Option Addr) (n c : Nat) (w : World) (hn : 1024 < n) (_hm : n ≤ 9223372036854775807) :
    Calls Try.prog 82 #[.int .u8 kind, .slice A n c] w fun e w' => e = .returned (.tuple #[.slice none 0 0, .int .i64 3]) ∧ w = w' := by
  go_enter Try.func82, Try.ntmps82
  go_wp2
  go_ret2
  exact ⟨rfl, rfl⟩

set_option maxHeartbeats 4000000 in
set_option maxRecDepth 100000 in
theorem refPutF_ok (kind : UInt8) (A : Option Addr) (n c : Nat) (l : List UInt8) (w : World) (hn : n ≤ 1024) (h : Rd w w.heap.size A n l) :
    Calls Try.prog 82 #[.int .u8 (kind.toNat : Int), .slice A n c] w fun e w' => ∃ v, e = .returned (.tuple #[v, .int .i64 0]) ∧ w'.ownsRow w.heap.size 5 1 v (10 + n) (u8s (putF (kind, l))) ∧ Below w.heap.size w w' := by
  obtain ⟨i0, hi0, hz0, hz1, hz2⟩ := info_parts Try.infoU8
  have hl := h.1
  have hA := h.none_zero
  have Cn : Hid (∀ w, Calls Try.prog 104 #[.int .u32 n] w fun e w' => ∃ v, e = .returned v ∧ w'.ownsRow w.heap.size 5 1 v 4 (u8s (fixed4 n)) ∧ Below w.heap.size w w') := fun w => refPutFixed_any n w (by omega)
  have Cs : Hid (∀ w, Calls Try.prog 104 #[.int .u32 (crcSum (headF (kind, l)))] w fun e w' => ∃ v, e = .returned v ∧ w'.ownsRow w.heap.size 5 1 v 4 (u8s (fixed4 (crcSum (headF (kind, l))))) ∧ Below w.heap.size w w') := fun w => refPutFixed_any _ w (crcSum_lt _)
  have Hl := Lib.hid hl
  clear hl
  go_enter Try.func82, Try.ntmps82
  go_wp2_with fail
  refine (Cn.out _).mono ?_
  rintro e w1 ⟨v1, rfl, ho1, hb1⟩
  have O0 : Hid (w1.ownsRow w.heap.size 5 1 (.slice (some ⟨w.heap.size, 0, none⟩) 2 2) 2 (u8s [167, kind])) :=
    own_below (own_lit w 5 [.int .u8 167, .int .u8 (kind.toNat : Int)] 2 rfl (by simp [maxLen])) hb1 (fun k hk => by injection hk with hk; subst hk; simp)
  have B1 : Hid (Below w.heap.size w w1) := ((Below.refl w.heap.size w).alloc (Nat.le_refl _) _).trans (hb1.mono (by simp))
  obtain ⟨A1, c1, rfl, _⟩ := own_shape ho1
  have R1 := Lib.hid (Rd.of_own ho1)
  have z1 := B1.out.size
  clear ho1 hb1
  go_wp2_with (at_builtin; refine wpList_append_app _ rfl _ _ 32 rfl w.heap.size 5 i0 (.int .u8 0) 1 1 Try.underlying32 hi0 hz0 hz1 hz2 rfl _ _ _ rfl O0.out A1 4 c1 (u8s (fixed4 n)) rfl (by rw [u8s_len, Nat.mul_one]; rfl) R1.out.none_zero R1.out.cells (u8s_one _) (by unfold maxLen; omega) (by omega) z1 ?_)
  intro va w2 ha
  have Oa : Hid (w2.ownsRow w.heap.size 5 1 va (2 + 4) (u8s ([167, kind] ++ fixed4 n))) := by rw [u8s_append]; exact ha.own
  have B2 := Lib.hid (ha.below B1.out z1 (own_block_ge O0.out))
  have z2 := B2.out.size
  clear ha O0 B1 R1 z1
  go_wp2_with (at_builtin; refine wpList_append_app _ rfl _ _ 32 rfl w.heap.size 5 i0 (.int .u8 0) 1 1 Try.underlying32 hi0 hz0 hz1 hz2 rfl _ _ _ rfl Oa.out A n c (u8s l) rfl (by rw [u8s_len, Hl.out, Nat.mul_one]) hA (h.below B2.out).cells (u8s_one l) (by unfold maxLen; omega) (by omega) z2 ?_)
  intro vb w3 ha
  have hob : w3.ownsRow w.heap.size 5 1 vb (2 + 4 + n) (u8s (headF (kind, l))) := by
    have h := ha.own
    rw [← u8s_append] at h
    have e : [167, kind] ++ fixed4 n ++ l = headF (kind, l) := by show _ = 167 :: kind :: (fixed4 l.length ++ l); rw [Hl.out]; rfl
    rw [← e]
    exact h
  have B3 := Lib.hid (ha.below B2.out z2 (own_block_ge Oa.out))
  have z3 := B3.out.size
  obtain ⟨Ab, cb, rfl, hcb, hcm⟩ := own_shape hob
  have Su := Lib.hid (refSum_any Ab (2 + 4 + n) cb _ (headF (kind, l)) w3 hcb (by unfold maxLen at hcm; omega) (Rd.of_own hob))
  have Ob := Lib.hid hob
  clear ha Oa B2 z2 hob hcb hcm
  go_wp2_with fail
  refine Su.out.mono ?_
  rintro e w' ⟨rfl, rfl⟩
  go_wp2_with fail
  refine (Cs.out _).mono ?_
  rintro e w4 ⟨vs, rfl, hos, hbs⟩
  have O4 := Lib.hid (own_below Ob.out hbs fun k hk => (Ob.out.lt k hk).2)
  have B4 := Lib.hid (below_then B3.out hbs)
  obtain ⟨As, cs, rfl, _⟩ := own_shape hos
  have Rs := Lib.hid (Rd.of_own hos)
  have z4 := B4.out.size
  clear hos hbs Ob B3 Su z3
  go_wp2_with (at_builtin; refine wpList_append_app _ rfl _ _ 32 rfl w.heap.size 5 i0 (.int .u8 0) 1 1 Try.underlying32 hi0 hz0 hz1 hz2 rfl _ _ _ rfl O4.out As 4 cs (u8s (fixed4 (crcSum (headF (kind, l))))) rfl (by rw [u8s_len, Nat.mul_one]; rfl) Rs.out.none_zero Rs.out.cells (u8s_one _) (by unfold maxLen; omega) (by omega) z4 ?_)
  intro vd w5 ha
  have Od : Hid (w5.ownsRow w.heap.size 5 1 vd (10 + n) (u8s (putF (kind, l)))) := by
    have h := ha.own
    rw [← u8s_append] at h
    rw [show 10 + n = 6 + n + 4 by omega]
    exact h
  have B5 := Lib.hid (ha.below B4.out z4 (own_block_ge O4.out))
  clear ha O4 B4 Rs z4
  go_wp2
  go_ret2
  exact ⟨_, rfl, Od.out, B5.out⟩
end Go.Proofs.Ytfghbhjljbdlmaa

/- Plain: what was put behind other bytes is read again. -/
namespace Go.Proofs.Ytfghbhjljbdlmaa
theorem unzig_zigzag (i : Int) : unzig (Lib.zigzag i) = i := by
  unfold unzig Lib.zigzag
  by_cases h : 0 ≤ i
  · rw [if_pos h]
    rw [if_neg (by omega)]
    omega
  · rw [if_neg h]
    rw [if_pos (by omega)]
    omega
theorem uintAt_back (pre rest : List UInt8) (n : Nat) (hn : n < 18446744073709551616) : uintAt (pre ++ (Lib.uvarint n ++ rest)) (pre.length : Int) = ((n : Int), (pre.length : Int) + ((Lib.uvarint n).length : Int), 0) := by
  rw [uintAt_in _ _ (by simp), List.drop_left, uu0_back n rest hn]
  rfl
theorem intAt_back (pre rest : List UInt8) (i : Int) (h1 : -9223372036854775808 ≤ i) (h2 : i ≤ 9223372036854775807) : intAt (pre ++ (Lib.uvarint (Lib.zigzag i) ++ rest)) (pre.length : Int) = (i, (pre.length : Int) + ((Lib.uvarint (Lib.zigzag i)).length : Int), 0) := by
  unfold intAt
  rw [uintAt_back _ _ _ (Lib.zigzag_lt h1 h2), Int.toNat_natCast, unzig_zigzag]
theorem txtAt_back (pre s rest : List UInt8) (most : Int) (hs : (s.length : Int) ≤ most) (hb : s.length < 18446744073709551616) : txtAt (pre ++ (putB s ++ rest)) (pre.length : Int) most = (s, (pre.length : Int) + ((putB s).length : Int), 0) := by
  unfold txtAt putB
  rw [List.append_assoc, uintAt_back _ _ _ hb]
  simp only [ne_eq, not_true_eq_false, if_false]
  rw [if_neg (by omega), if_neg (by simp; omega)]
  have e1 : ((pre.length : Int) + ((Lib.uvarint s.length).length : Int)).toNat = (pre ++ Lib.uvarint s.length).length := by rw [List.length_append]; omega
  rw [e1, Int.toNat_natCast, ← List.append_assoc, List.drop_left, List.take_left]
  refine Prod.ext rfl (Prod.ext ?_ rfl)
  show (pre.length : Int) + ((Lib.uvarint s.length).length : Int) + (s.length : Int) = (pre.length : Int) + ((Lib.uvarint s.length ++ s).length : Int)
  rw [List.length_append]
  omega
end Go.Proofs.Ytfghbhjljbdlmaa

/- Plain: what a Reader tells, step by step, over what is left; the same over all bytes at a place. And blocks that are known whole. -/
namespace Go.Proofs.Ytfghbhjljbdlmaa
open Go.RowKit


/-- The place behind, counted from what is left. -/
theorem uintAt_shift (l : List UInt8) (p : Nat) (hl : l.length ≤ 9223372036854775807) (hp : p ≤ l.length) :
    (∃ v k : Nat, uintAt (l.drop p) 0 = ((v : Int), (k : Int), 0) ∧ uintAt l (p : Int) = ((v : Int), ((p + k : Nat) : Int), 0) ∧ 1 ≤ k ∧ p + k ≤ l.length ∧ v < 18446744073709551616) ∨
    (∃ e : Nat, uintAt (l.drop p) 0 = (0, 0, (e : Int)) ∧ uintAt l (p : Int) = (0, 0, (e : Int)) ∧ 1 ≤ e ∧ e ≤ 11) := by
  have h0 := uintAt_in (l.drop p) 0 (by omega)
  rw [List.drop_zero] at h0
  have h1 := uintAt_in l p hp
  have e0 : ((0 : Nat) : Int) = 0 := rfl
  rw [e0] at h0
  cases hu : uu 0 (l.drop p) with
  | ok x =>
    obtain ⟨v, k⟩ := x
    rw [hu] at h0 h1
    have hk := uu_pos hu
    rw [List.length_drop] at hk
    refine .inl ⟨v, k, ?_, ?_, hk.1, by omega, uu0_lt hu⟩
    · rw [h0]
      simp [ans]
    · rw [h1]
      simp [ans]
  | error e =>
    rw [hu] at h0 h1
    obtain ⟨v, tt, e', hf, _, _, hee⟩ := uintAt_form l p hl
    rw [h1] at hf
    simp only [ans, Prod.mk.injEq] at hf
    exact .inr ⟨e, h0, h1, by omega, by omega⟩

theorem txtAt_shift (l : List UInt8) (p : Nat) (most : Int) (hl : l.length ≤ 9223372036854775807) (hp : p ≤ l.length) :
    (∃ (t : List UInt8) (k : Nat), txtAt (l.drop p) 0 most = (t, (k : Int), 0) ∧ txtAt l (p : Int) most = (t, ((p + k : Nat) : Int), 0) ∧ 1 ≤ k ∧ p + k ≤ l.length ∧ t.length ≤ l.length) ∨
    (∃ e : Nat, txtAt (l.drop p) 0 most = ([], 0, (e : Int)) ∧ txtAt l (p : Int) most = ([], 0, (e : Int)) ∧ 1 ≤ e ∧ e ≤ 11) := by
  rcases uintAt_shift l p hl hp with ⟨v, k, h1, h2, hk, hkl, _⟩ | ⟨e, h1, h2, he1, he2⟩
  · unfold txtAt
    rw [h1, h2]
    simp only [ne_eq, not_true_eq_false, if_false]
    by_cases h3 : max most 0 < (v : Int)
    · rw [if_pos h3, if_pos h3]
      exact .inr ⟨3, rfl, rfl, by omega, by omega⟩
    · rw [if_neg h3, if_neg h3]
      by_cases h4 : (l.length : Int) - ((p + k : Nat) : Int) < (v : Int)
      · rw [if_pos h4, if_pos (by rw [List.length_drop]; omega)]
        exact .inr ⟨10, rfl, rfl, by omega, by omega⟩
      · rw [if_neg h4, if_neg (by rw [List.length_drop]; omega)]
        rw [Int.toNat_natCast, Int.toNat_natCast, Int.toNat_natCast, List.drop_drop]
        refine .inl ⟨_, k + v, rfl, ?_, by omega, by omega, by rw [List.length_take, List.length_drop]; omega⟩
        refine Prod.ext rfl (Prod.ext ?_ rfl)
        show ((p + k : Nat) : Int) + (v : Int) = ((p + (k + v) : Nat) : Int)
        omega
  · unfold txtAt
    rw [h1, h2]
    simp only
    rw [if_pos (by omega), if_pos (by omega)]
    exact .inr ⟨e, rfl, rfl, he1, he2⟩
end Go.Proofs.Ytfghbhjljbdlmaa

/- The program's Reader, method by method. -/
namespace Go.Proofs.Ytfghbhjljbdlmaa
open Go.RowKit

/-- A Reader at block R: what is left, and its error. -/
structure BR (w : World) (R : Nat) (rem : List UInt8) (err : Nat) (A : Option Addr) (n c : Nat) : Prop where
  blk : Bk w R 173 #[.slice A n c, .int .i64 err]
  cap : n ≤ c ∧ c ≤ 9223372036854775807
  rd : Rd w R A n rem

theorem rd_block (w : World) (g : Nat) (u : Value) : (w.setCell ⟨g, 0, none⟩ u).heap.size = w.heap.size := by simp [World.setCell]

set_option maxRecDepth 100000 in
set_option maxHeartbeats 400000 in
theorem err_any (R : Nat) (x : Value) (err : Nat) (w : World) (h : Bk w R 173 #[x, .int .i64 err]) :
    Calls Try.prog 87 #[.pointer (some ⟨R, 0, none⟩)] w fun e w' => e = .returned (.int .i64 err) ∧ w = w' := by
  have hc : w.cell? ⟨R, 1, none⟩ = some (.int .i64 err) := h.cell 1
  go_enter Try.func87, Try.ntmps87
  go_wp2
  go_ret
  exact ⟨rfl, rfl⟩
set_option maxRecDepth 100000 in
set_option maxHeartbeats 400000 in
theorem err_nil (w : World) : Calls Try.prog 87 #[.pointer none] w fun e w' => e = .returned (.int .i64 1) ∧ w = w' := by
  go_enter Try.func87, Try.ntmps87
  go_wp2
  go_ret
  exact ⟨rfl, rfl⟩
set_option maxRecDepth 100000 in
set_option maxHeartbeats 400000 in
theorem left_any (R : Nat) (A : Option Addr) (n c : Nat) (y : Value) (w : World) (h : Bk w R 173 #[.slice A n c, y]) :
    Calls Try.prog 86 #[.pointer (some ⟨R, 0, none⟩)] w fun e w' => e = .returned (.int .i64 n) ∧ w = w' := by
  have hc : w.cell? ⟨R, 0, none⟩ = some (.slice A n c) := h.cell 0
  go_enter Try.func86, Try.ntmps86
  go_wp2
  go_ret
  exact ⟨rfl, rfl⟩
set_option maxRecDepth 100000 in
set_option maxHeartbeats 400000 in
theorem left_nil (w : World) : Calls Try.prog 86 #[.pointer none] w fun e w' => e = .returned (.int .i64 0) ∧ w = w' := by
  go_enter Try.func86, Try.ntmps86
  go_wp2
  go_ret
  exact ⟨rfl, rfl⟩
set_option maxRecDepth 100000 in
set_option maxHeartbeats 400000 in
theorem uint_nil (w : World) : Calls Try.prog 85 #[.pointer none] w fun e w' => e = .returned (.int .u64 0) ∧ w = w' := by
  go_enter Try.func85, Try.ntmps85
  go_wp2_with fail
  refine (err_nil _).mono ?_
  rintro e w' ⟨rfl, rfl⟩
  go_wp2
  go_ret
  exact ⟨rfl, rfl⟩
set_option maxRecDepth 100000 in
set_option maxHeartbeats 400000 in
theorem pass_err (R : Nat) (A : Option Addr) (n c : Nat) (e0 : Int) (tt : Int) (err : Nat) (w : World) (he : 1 ≤ err) (h : Bk w R 173 #[.slice A n c, .int .i64 e0]) :
    Calls Try.prog 109 #[.pointer (some ⟨R, 0, none⟩), .int .i64 tt, .int .i64 err] w fun e w' => e = .returned (.tuple #[]) ∧ BR w' R [] err none 0 0 ∧ w.grownBy w' (some R) := by
  have hne : ((err : Int) != 0) = true := by simp; omega
  have c0 : w.cell? ⟨R, 0, none⟩ = some (.slice A n c) := h.cell 0
  have c1 : w.cell? ⟨R, 1, none⟩ = some (.int .i64 e0) := h.cell 1
  have f0 := h.frozen 0
  have f1 := h.frozen 1
  have Hb : Hid (BR ((w.setCell ⟨R, 0, none⟩ (.slice none 0 0)).setCell ⟨R, 1, none⟩ (.int .i64 err)) R [] err none 0 0 ∧ w.grownBy ((w.setCell ⟨R, 0, none⟩ (.slice none 0 0)).setCell ⟨R, 1, none⟩ (.int .i64 err)) (some R)) := by
    have h1 := (h.set_ 0 (.slice none 0 0)).set_ 1 (.int .i64 err)
    exact ⟨⟨by simpa using h1, by omega, Rd.nil _ _ _⟩, grown_trans (grown_set _ _ _ _) (grown_set _ _ _ _)⟩
  clear h he
  go_enter Try.func109, Try.ntmps109
  go_wp2
  refine bodyPost_ret (results_none rfl _ _ _) rfl ?_
  exact ⟨rfl, Hb.out⟩

set_option maxRecDepth 100000 in
set_option maxHeartbeats 400000 in
theorem pass_ok (R b o n c k : Nat) (rem : List UInt8) (w : World) (hk : k ≤ n) (h : BR w R rem 0 (some ⟨b, o, none⟩) n c) :
    Calls Try.prog 109 #[.pointer (some ⟨R, 0, none⟩), .int .i64 k, .int .i64 0] w fun e w' => e = .returned (.tuple #[]) ∧ (∃ A', BR w' R (rem.drop k) 0 A' (n - k) (c - k)) ∧ w.grownBy w' (some R) := by
  have c0 : w.cell? ⟨R, 0, none⟩ = some (.slice (some ⟨b, o, none⟩) n c) := h.blk.cell 0
  have f0 := h.blk.frozen 0
  obtain ⟨hcap1, hcap2⟩ := h.cap
  have hb : ∀ A', Rd w R A' (n - k) (rem.drop k) → BR (w.setCell ⟨R, 0, none⟩ (.slice A' (n - k) (c - k))) R (rem.drop k) 0 A' (n - k) (c - k) := fun A' hr =>
    ⟨by simpa using h.blk.set_ 0 (.slice A' (n - k) (c - k)), by omega, hr.grown_below (grown_set _ _ _ _) (by have := h.blk.lt; omega)⟩
  have hg := fun u => grown_set w R 0 u
  have hp := h.rd.part (i := k) (k := n - k) (by omega)
  have hl := h.rd.1
  have e : (rem.drop k).take (n - k) = rem.drop k := List.take_of_length_le (by rw [List.length_drop]; omega)
  rw [e] at hp
  by_cases hck : c = k
  · obtain rfl : n = k := by omega
    subst hck
    have hd : rem.drop c = [] := List.drop_eq_nil_of_le (by omega)
    have h0 := hb (some ⟨b, o, none⟩) (by rw [Nat.sub_self, hd]; exact Rd.nil _ _ _)
    rw [Nat.sub_self] at h0 ⊢
    have Hb := Lib.hid h0
    have Hg := Lib.hid hg
    clear hb hg hp h h0 e hd
    go_enter Try.func109, Try.ntmps109
    go_wp2
    go_end0
    exact ⟨rfl, ⟨_, Hb.out⟩, Hg.out _⟩
  · have h0 := hb (some ⟨b, o + k, none⟩) hp
    have Hb := Lib.hid h0
    have Hg := Lib.hid hg
    clear hb hg hp h h0 e
    go_enter Try.func109, Try.ntmps109
    go_wp2
    go_end0
    exact ⟨rfl, ⟨_, Hb.out⟩, Hg.out _⟩

/-- What a Reader that has this left tells of the next number, and what is left then. -/
def nextU (rem : List UInt8) (err : Nat) : Nat × List UInt8 × Nat :=
  if err ≠ 0 then (0, rem, err)
  else if (uintAt rem 0).2.2 ≠ 0 then (0, [], (uintAt rem 0).2.2.toNat)
  else ((uintAt rem 0).1.toNat, rem.drop (uintAt rem 0).2.1.toNat, 0)

set_option maxRecDepth 100000 in
set_option maxHeartbeats 1000000 in
theorem uint_meth (R : Nat) (A : Option Addr) (n c err : Nat) (rem : List UInt8) (w : World) (h : BR w R rem err A n c) :
    Calls Try.prog 85 #[.pointer (some ⟨R, 0, none⟩)] w fun e w' => e = .returned (.int .u64 (nextU rem err).1) ∧ (∃ A' n' c', BR w' R (nextU rem err).2.1 (nextU rem err).2.2 A' n' c') ∧ w.grownBy w' (some R) := by
  have Ce := Lib.hid (err_any R _ err w h.blk)
  unfold nextU
  by_cases he : err = 0
  · subst he
    rw [if_neg (by simp)]
    have hl := h.rd.1
    obtain ⟨hcap1, hcap2⟩ := h.cap
    have c0 : w.cell? ⟨R, 0, none⟩ = some (.slice A n c) := h.blk.cell 0
    have Cu := binUint_any A n c R 0 rem w hcap1 hcap2 h.rd
    have hs := uintAt_shift rem 0 (by omega) (by omega)
    rw [List.drop_zero] at hs
    rcases hs with ⟨v, k, h1, _, hk1, hk2, hv⟩ | ⟨e, h1, _, he1, he2⟩
    · rw [h1] at Cu ⊢
      have HC := Lib.hid Cu
      rw [if_neg (by simp)]
      obtain ⟨b, o, rfl, _, _⟩ := h.rd.2 (by omega)
      have Cp := Lib.hid (pass_ok R b o n c k rem w (by omega) h)
      simp only [Int.toNat_natCast]
      clear Cu h1 h
      go_enter Try.func85, Try.ntmps85
      go_wp2_with fail
      refine Ce.out.mono ?_
      rintro e w' ⟨rfl, rfl⟩
      go_wp2_with fail
      refine HC.out.mono ?_
      rintro e w' ⟨rfl, rfl⟩
      go_wp2_with fail
      refine Cp.out.mono ?_
      rintro e w' ⟨rfl, ⟨A', hb⟩, hg⟩
      have HH : Hid ((∃ A' n' c', BR w' R (rem.drop k) 0 A' n' c') ∧ w.grownBy w' (some R)) := ⟨⟨_, _, _, hb⟩, hg⟩
      clear hb hg
      go_wp2
      go_ret
      exact ⟨rfl, HH.out⟩
    · rw [h1] at Cu ⊢
      have HC := Lib.hid Cu
      rw [if_pos (show (e : Int) ≠ 0 by omega)]
      have Cp := Lib.hid (pass_err R A n c 0 0 e w he1 h.blk)
      simp only [Int.toNat_natCast]
      clear Cu h1 h
      go_enter Try.func85, Try.ntmps85
      go_wp2_with fail
      refine Ce.out.mono ?_
      rintro e w' ⟨rfl, rfl⟩
      go_wp2_with fail
      refine HC.out.mono ?_
      rintro e w' ⟨rfl, rfl⟩
      go_wp2_with fail
      refine Cp.out.mono ?_
      rintro e' w' ⟨rfl, hb, hg⟩
      have HH : Hid ((∃ A' n' c', BR w' R [] e A' n' c') ∧ w.grownBy w' (some R)) := ⟨⟨_, _, _, hb⟩, hg⟩
      clear hb hg
      go_wp2
      go_ret
      exact ⟨rfl, HH.out⟩
  · rw [if_pos he]
    have hne : ((err : Int) != 0) = true := by simp; omega
    have Hh := Lib.hid h
    clear h
    go_enter Try.func85, Try.ntmps85
    go_wp2_with fail
    refine Ce.out.mono ?_
    rintro e w' ⟨rfl, rfl⟩
    go_wp2
    go_ret
    exact ⟨rfl, ⟨_, _, _, Hh.out⟩, World.grownBy.refl _ _⟩

def nextB (rem : List UInt8) (err : Nat) (most : Int) : List UInt8 × List UInt8 × Nat :=
  if err ≠ 0 then ([], rem, err)
  else if (txtAt rem 0 most).2.2 ≠ 0 then ([], [], (txtAt rem 0 most).2.2.toNat)
  else ((txtAt rem 0 most).1, rem.drop (txtAt rem 0 most).2.1.toNat, 0)

theorem BR.below {w w' : World} {R n c err : Nat} {rem : List UInt8} {A : Option Addr} (h : BR w R rem err A n c) {B : Nat} (hb : Below B w w') (hB : R < B) : BR w' R rem err A n c :=
  ⟨h.blk.below hb hB, h.cap, h.rd.below (hb.mono (by omega))⟩

end Go.Proofs.Ytfghbhjljbdlmaa
