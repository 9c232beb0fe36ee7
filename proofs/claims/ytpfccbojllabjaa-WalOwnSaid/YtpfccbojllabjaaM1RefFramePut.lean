/- Of the proofs of layer 4, merged: RefFramePut. -/
import Derived.Test.YtpfccbojllabjaaMFrameP
import Derived.Test.YtpfccbojllabjaaM1Texts

/- ref02.Put answers the plain frame. -/
namespace Go.Proofs.Ytpfccbojllabjaa
open Go.RowKit

set_option maxRecDepth 100000 in
set_option maxHeartbeats 1000000 in
theorem refPutF_long (kind : Int) (A : Option Addr) (n c : Nat) (w : World) (hn : 1024 < n) (_hm : n ≤ 9223372036854775807) :
    Calls Try.prog 65 #[.int .u8 kind, .slice A n c] w fun e w' => e = .returned (.tuple #[.slice none 0 0, .int .i64 3]) ∧ w = w' := by
  go_enter Try.func65, Try.ntmps65
  go_wp2
  go_ret2
  exact ⟨rfl, rfl⟩

set_option maxHeartbeats 4000000 in
set_option maxRecDepth 100000 in
theorem refPutF_ok (kind : UInt8) (A : Option Addr) (n c : Nat) (l : List UInt8) (w : World) (hn : n ≤ 1024) (h : Rd w w.heap.size A n l) :
    Calls Try.prog 65 #[.int .u8 (kind.toNat : Int), .slice A n c] w fun e w' => ∃ v, e = .returned (.tuple #[v, .int .i64 0]) ∧ w'.ownsRow w.heap.size 5 1 v (10 + n) (u8s (putF (kind, l))) ∧ Below w.heap.size w w' := by
  obtain ⟨i0, hi0, hz0, hz1, hz2⟩ := info_parts Try.infoU8
  have hl := h.1
  have hA := h.none_zero
  have Cn : Hid (∀ w, Calls Try.prog 87 #[.int .u32 n] w fun e w' => ∃ v, e = .returned v ∧ w'.ownsRow w.heap.size 5 1 v 4 (u8s (fixed4 n)) ∧ Below w.heap.size w w') := fun w => refPutFixed_any n w (by omega)
  have Cs : Hid (∀ w, Calls Try.prog 87 #[.int .u32 (crcSum (headF (kind, l)))] w fun e w' => ∃ v, e = .returned v ∧ w'.ownsRow w.heap.size 5 1 v 4 (u8s (fixed4 (crcSum (headF (kind, l))))) ∧ Below w.heap.size w w') := fun w => refPutFixed_any _ w (crcSum_lt _)
  have Hl := Lib.hid hl
  clear hl
  go_enter Try.func65, Try.ntmps65
  go_wp2_with fail
  refine (Cn.out _).mono ?_
  rintro e w1 ⟨v1, rfl, ho1, hb1⟩
  have O0 : Hid (w1.ownsRow w.heap.size 5 1 (.slice (some ⟨w.heap.size, 0, none⟩) 2 2) 2 (u8s [167, kind])) :=
    own_below (own_lit w 5 [.int .u8 167, .int .u8 (kind.toNat : Int)] 2 rfl (by simp [maxLen])) hb1 (fun k hk => by injection hk with hk; subst hk; simp)
  have B1 : Hid (Below w.heap.size w w1) := ((Below.refl w.heap.size w).alloc (Nat.le_refl _) _).trans (hb1.mono (by simp))
  obtain ⟨A1, c1, rfl, _⟩ := own_shape ho1
  have R1 := Lib.hid (Rd.of_own ho1)
  have z1 := B1.out.size
  clear ho1 hb1
  go_wp2_with (at_builtin; refine wpList_append_app _ rfl _ _ 40 rfl w.heap.size 5 i0 (.int .u8 0) 1 1 Try.underlying40 hi0 hz0 hz1 hz2 rfl _ _ _ rfl O0.out A1 4 c1 (u8s (fixed4 n)) rfl (by rw [u8s_len, Nat.mul_one]; rfl) R1.out.none_zero R1.out.cells (u8s_one _) (by unfold maxLen; omega) (by omega) z1 ?_)
  intro va w2 ha
  have Oa : Hid (w2.ownsRow w.heap.size 5 1 va (2 + 4) (u8s ([167, kind] ++ fixed4 n))) := by rw [u8s_append]; exact ha.own
  have B2 := Lib.hid (ha.below B1.out z1 (own_block_ge O0.out))
  have z2 := B2.out.size
  clear ha O0 B1 R1 z1
  go_wp2_with (at_builtin; refine wpList_append_app _ rfl _ _ 40 rfl w.heap.size 5 i0 (.int .u8 0) 1 1 Try.underlying40 hi0 hz0 hz1 hz2 rfl _ _ _ rfl Oa.out A n c (u8s l) rfl (by rw [u8s_len, Hl.out, Nat.mul_one]) hA (h.below B2.out).cells (u8s_one l) (by unfold maxLen; omega) (by omega) z2 ?_)
  intro vb w3 ha
  have hob : w3.ownsRow w.heap.size 5 1 vb (2 + 4 + n) (u8s (headF (kind, l))) := by
    have h := ha.own
    rw [← u8s_append] at h
    have e : [167, kind] ++ fixed4 n ++ l = headF (kind, l) := by show _ = 167 :: kind :: (fixed4 l.length ++ l); rw [Hl.out]; rfl
    rw [← e]
    exact h
  have B3 := Lib.hid (ha.below B2.out z2 (own_block_ge Oa.out))
  have z3 := B3.out.size
  obtain ⟨Ab, cb, rfl, hcb, hcm⟩ := own_shape hob
  have Su := Lib.hid (refSum_any Ab (2 + 4 + n) cb _ (headF (kind, l)) w3 hcb (by unfold maxLen at hcm; omega) (Rd.of_own hob))
  have Ob := Lib.hid hob
  clear ha Oa B2 z2 hob hcb hcm
  go_wp2_with fail
  refine Su.out.mono ?_
  rintro e w' ⟨rfl, rfl⟩
  go_wp2_with fail
  refine (Cs.out _).mono ?_
  rintro e w4 ⟨vs, rfl, hos, hbs⟩
  have O4 := Lib.hid (own_below Ob.out hbs fun k hk => (Ob.out.lt k hk).2)
  have B4 := Lib.hid (below_then B3.out hbs)
  obtain ⟨As, cs, rfl, _⟩ := own_shape hos
  have Rs := Lib.hid (Rd.of_own hos)
  have z4 := B4.out.size
  clear hos hbs Ob B3 Su z3
  go_wp2_with (at_builtin; refine wpList_append_app _ rfl _ _ 40 rfl w.heap.size 5 i0 (.int .u8 0) 1 1 Try.underlying40 hi0 hz0 hz1 hz2 rfl _ _ _ rfl O4.out As 4 cs (u8s (fixed4 (crcSum (headF (kind, l))))) rfl (by rw [u8s_len, Nat.mul_one]; rfl) Rs.out.none_zero Rs.out.cells (u8s_one _) (by unfold maxLen; omega) (by omega) z4 ?_)
  intro vd w5 ha
  have Od : Hid (w5.ownsRow w.heap.size 5 1 vd (10 + n) (u8s (putF (kind, l)))) := by
    have h := ha.own
    rw [← u8s_append] at h
    rw [show 10 + n = 6 + n + 4 by omega]
    exact h
  have B5 := Lib.hid (ha.below B4.out z4 (own_block_ge O4.out))
  clear ha O4 B4 Rs z4
  go_wp2
  go_ret2
  exact ⟨_, rfl, Od.out, B5.out⟩
end Go.Proofs.Ytpfccbojllabjaa
