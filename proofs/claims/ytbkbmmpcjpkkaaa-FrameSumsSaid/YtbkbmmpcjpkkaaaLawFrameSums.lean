/- FrameSums is true at every kind and every two texts. Conditions: none. -/
import Derived.Test.YtbkbmmpcjpkkaaaLaw
import Derived.Test.YtbkbmmpcjpkkaaaPutAny
import Derived.Test.YtbkbmmpcjpkkaaaLent2
namespace Go.Proofs.Ytbkbmmpcjpkkaaa
open Go.ChangeShapes Go.WideShapes Go.ChangeAt Go.RowKit

set_option maxHeartbeats 1000000 in
set_option maxRecDepth 100000 in
theorem frameSums_walk (kd : UInt8) (A : Option Addr) (n c : Nat) (l : List UInt8) (A' : Option Addr) (n' c' : Nat) (l' : List UInt8) (w : World) (hc : n ≤ c) (hm : c ≤ 9223372036854775807) (h : Rd w w.heap.size A n l) (_hc' : n' ≤ c') (_hm' : c' ≤ 9223372036854775807) (h' : Rd w w.heap.size A' n' l') :
    Calls Try.prog 3 #[.int .u8 (kd.toNat : Int), .slice A n c, .slice A' n' c'] w fun e w' => e = .returned (.bool true) ∧ Below w.heap.size w w' := by
  by_cases hbig : 5000 < n ∨ 5000 < n'
  · clear h h'
    have KN := Lib.hid (known_any w)
    by_cases hb1 : 5000 < n
    all_goals
      go_enter Try.func3, Try.ntmps3
      go_wp2_with fail
      refine KN.out.mono ?_
      rintro e w' ⟨rfl, hb⟩
      go_wp2
      go_ret
      exact ⟨rfl, hb⟩
  · obtain ⟨i0, hi0, hz0, hz1, hz2⟩ := info_parts Try.infoU8
    have HL := Lib.hid h.1
    have HL' := Lib.hid h'.1
    have H := Lib.hid h
    have H' := Lib.hid h'
    have hb1 : n ≤ 5000 := by omega
    have hb2 : n' ≤ 5000 := by omega
    have hA' := h'.none_zero
    have Cc := Lib.hid (copy_any A n c w.heap.size l w (by omega) h)
    clear hbig h h'
    go_enter Try.func3, Try.ntmps3
    go_wp2_with fail
    refine Cc.out.mono ?_
    rintro e w1 ⟨v1, rfl, ho1, hb1'⟩
    have Ho1 := Lib.hid ho1
    have Hb1 := Lib.hid hb1'
    have hs1 := hb1'.size
    have hR' := H'.out.below hb1'
    obtain ⟨A1, c1, rfl, _⟩ := own_shape ho1
    clear ho1 hb1' Cc
    go_wp2_with (at_builtin; refine wpList_append_app _ rfl _ _ 22 rfl w.heap.size 5 i0 (.int .u8 0) 1 1 Try.underlying22 hi0 hz0 hz1 hz2 rfl _ _ _ rfl Ho1.out A' n' c' (u8s l') rfl (by rw [u8s_len, HL'.out, Nat.mul_one]) hA' hR'.cells (u8s_one _) (by unfold maxLen; omega) (by omega) hs1 ?_)
    intro vw w2 ha
    have how := ha.own
    rw [← u8s_append] at how
    have hb2' := ha.below Hb1.out hs1 (own_block_ge Ho1.out)
    obtain ⟨Aw, cw, rfl, hcw1, hcw2⟩ := own_shape how
    have HW := Lib.hid (Rd.of_own how)
    have hz2 := hb2'.size
    have Hb2 := Lib.hid hb2'
    have Cl := Lib.hid (lent_any A n c w.heap.size l w2 (by omega) (H.out.below hb2'))
    have Cl' : Hid (∀ W, Below w.heap.size w W → Calls Try.prog 12 #[.slice A' n' c'] W fun e w' => ∃ g cap, e = .returned (.slice (some ⟨g, 0, none⟩) n' cap) ∧ w'.ownsRow W.heap.size 5 1 (.slice (some ⟨g, 0, none⟩) (n' + 2) cap) (n' + 2) (u8s (l' ++ [91, 92])) ∧ Below W.heap.size W w') := Lib.hid fun W hW => lent_any A' n' c' w.heap.size l' W (by omega) (H'.out.below hW)
    clear ha how hb2' hR' Ho1 Hb1 hs1
    go_wp2_with fail
    refine Cl.out.mono ?_
    rintro e w3 ⟨g, cap, rfl, hx, hb3⟩
    have hcap := lent_cap hx
    have HX := Lib.hid hx
    have HW3 := Lib.hid (HW.out.up hb3)
    have Hb3 := Lib.hid (Hb2.out.trans (hb3.mono Hb2.out.size))
    clear hx hb3 Cl HW Hb2
    go_wp2_with fail
    refine (Cl'.out w3 Hb3.out).mono ?_
    rintro e w4 ⟨g', cap', rfl, hy, hb4⟩
    have hcap' := lent_cap hy
    have HX4 := Lib.hid (own_below HX.out hb4 fun k hk => (HX.out.lt k hk).2)
    have HY := Lib.hid hy
    have HW4 := Lib.hid (HW3.out.up hb4)
    have Hb4 := Lib.hid (Hb3.out.trans (hb4.mono Hb3.out.size))
    clear hy hb4 Cl' HX HW3 Hb3
    have P1 : Hid (Parts (w4.alloc (.cells #[.slice (some ⟨g, 0, none⟩) n cap, .slice (some ⟨g', 0, none⟩) n' cap'] 22)) (w4.heap.size + 1) (some ⟨w4.heap.size, 0, none⟩) 2 [l, l']) := Lib.hid (by
      refine Parts.lit [(some ⟨g, 0, none⟩, n, cap), (some ⟨g', 0, none⟩, n', cap')] _ rfl rfl rfl rfl ?_
      intro i h1 h2
      match i, h1, h2 with
      | 0, _, _ => exact ⟨show n ≤ cap by omega, hcap.2, lent_rd HL.out HX4.out⟩
      | 1, _, _ => exact ⟨show n' ≤ cap' by omega, hcap'.2, lent_rd HL'.out HY.out⟩)
    have Su := Lib.hid (sum_any (some ⟨w4.heap.size, 0, none⟩) 2 2 (w4.heap.size + 1) _ _ (by decide) P1.out)
    have efl : [l, l'].flatten = l ++ l' := by simp
    rw [efl] at Su
    have HX5 := Lib.hid (HX4.out.alloc (.cells #[.slice (some ⟨g, 0, none⟩) n cap, .slice (some ⟨g', 0, none⟩) n' cap'] 22))
    have HY5 := Lib.hid (HY.out.alloc (.cells #[.slice (some ⟨g, 0, none⟩) n cap, .slice (some ⟨g', 0, none⟩) n' cap'] 22))
    have HW5 := Lib.hid (HW4.out.up ((Below.refl _ _).alloc (Nat.le_refl _) (.cells #[.slice (some ⟨g, 0, none⟩) n cap, .slice (some ⟨g', 0, none⟩) n' cap'] 22)))
    have Hb5 := Lib.hid (Hb4.out.alloc Hb4.out.size (.cells #[.slice (some ⟨g, 0, none⟩) n cap, .slice (some ⟨g', 0, none⟩) n' cap'] 22))
    clear efl P1 HX4 HY HW4 Hb4
    go_wp2_with fail
    refine Su.out.mono ?_
    rintro e w' ⟨rfl, rfl⟩
    clear Su
    generalize (w4.alloc (.cells #[.slice (some ⟨g, 0, none⟩) n cap, .slice (some ⟨g', 0, none⟩) n' cap'] 22)) = w5 at *
    obtain ⟨P, E, hP, hPl, hE⟩ : ∃ P E, putA kd l = (P, E) ∧ P.length ≤ 1034 ∧ E ≤ 3 := by
      unfold putA
      split
      · refine ⟨_, _, rfl, ?_, by omega⟩; rw [putF_len]; simp only; omega
      · exact ⟨_, _, rfl, by simp, by omega⟩
    have Cp := framePut_any kd (some ⟨g, 0, none⟩) n cap l w5 (by omega) hcap.2 (lent_rd HL.out HX5.out)
    have Rp : Hid (∀ W, Below w.heap.size w W → Calls Try.prog 15 #[.int .u8 (kd.toNat : Int), .slice A n c] W fun e w' => ∃ v, e = .returned (.tuple #[v, .int .i64 ((putA kd l).2 : Nat)]) ∧ w'.ownsRow W.heap.size 5 1 v (putA kd l).1.length (u8s (putA kd l).1) ∧ Below W.heap.size W w') := Lib.hid fun W hW => refPutF_any kd A n c l W hc hm (H.out.up hW)
    rw [hP] at Cp Rp
    have CP := Lib.hid Cp
    clear Cp hP
    go_wp2_with fail
    refine CP.out.mono ?_
    rintro e w6 ⟨vp, rfl, hop, hb6⟩
    obtain ⟨Ap, cp, rfl, _⟩ := own_shape hop
    have HP := Lib.hid hop
    have HX6 := Lib.hid (own_below HX5.out hb6 fun k hk => (HX5.out.lt k hk).2)
    have HY6 := Lib.hid (own_below HY5.out hb6 fun k hk => (HY5.out.lt k hk).2)
    have HW6 := Lib.hid (HW5.out.up hb6)
    have Hb6 := Lib.hid (Hb5.out.trans (hb6.mono Hb5.out.size))
    have hgb := (HX5.out.lt g rfl).2
    have hga := (HX5.out.lt g rfl).1
    have hz56 := hb6.size
    clear hop hb6 CP HW5 Hb5
    go_wp2_with fail
    refine (Rp.out w6 Hb6.out).mono ?_
    rintro e w7 ⟨vq, rfl, hoq, hb7⟩
    obtain ⟨Aq, cq, rfl, _⟩ := own_shape hoq
    have HQ := Lib.hid hoq
    have HP7 := Lib.hid (own_below HP.out hb7 fun k hk => (HP.out.lt k hk).2)
    have HX7 := Lib.hid (own_below HX6.out hb7 fun k hk => (HX6.out.lt k hk).2)
    have HY7 := Lib.hid (own_below HY6.out hb7 fun k hk => (HY6.out.lt k hk).2)
    have HW7 := Lib.hid (HW6.out.up hb7)
    have Hb7 := Lib.hid (Hb6.out.trans (hb7.mono Hb6.out.size))
    have hz67 := hb7.size
    clear hoq hb7 Rp HW6 Hb6 HX6 HY6 HP HX5 HY5
    have SW := Lib.hid (refSum_any Aw (n + n') cw _ (l ++ l') w7 hcw1 (by unfold maxLen at hcw2; omega) HW7.out)
    have SM := Lib.hid (same_any Ap Aq P.length P.length cp cq _ _ P P w7 (Rd.of_own HP7.out) (Rd.of_own HQ.out))
    have W1 := Lib.hid (whole_any g cap _ n c w7.heap.size A l w7 (by omega) HX7.out (H.out.up Hb7.out))
    have W2 := Lib.hid (whole_any g' cap' _ n' c' w7.heap.size A' l' w7 (by omega) HY7.out (H'.out.up Hb7.out))
    have hPP : (P == P) = true := by simp
    rw [hPP] at SM
    generalize crcSum (l ++ l') = s at *
    clear HW7 HY7 hPP
    go_wp2_with fail
    refine SW.out.mono ?_
    rintro e w' ⟨rfl, rfl⟩
    go_wp2_with fail
    refine SM.out.mono ?_
    rintro e w' ⟨rfl, rfl⟩
    go_wp2_with fail
    refine W1.out.mono ?_
    rintro e w' ⟨rfl, rfl⟩
    go_wp2_with fail
    refine W2.out.mono ?_
    rintro e w' ⟨rfl, rfl⟩
    have Sp := Lib.hid (spoil_any g n cap _ l w7 (by omega) (lent_own HL.out HX7.out))
    clear SW SM W1 W2 HX7
    go_wp2_with fail
    refine Sp.out.mono ?_
    rintro e w8 ⟨rfl, hg8⟩
    have HP8 := Lib.hid (own_grown HP7.out hg8 hgb)
    have HQ8 := Lib.hid (own_grown HQ.out hg8 (by omega))
    have Hb8 := Lib.hid (Hb7.out.trans (below_of_grown hg8 Hb7.out.size (by omega)))
    have KN := Lib.hid (known_any w8)
    clear hg8 HP7 HQ Hb7 Sp
    go_wp2_with fail
    refine KN.out.mono ?_
    rintro e w9 ⟨rfl, hk9⟩
    have SM9 := Lib.hid (same_any Ap Aq P.length P.length cp cq _ _ P P w9 ((Rd.of_own HP8.out).up hk9) ((Rd.of_own HQ8.out).up hk9))
    have hPP : (P == P) = true := by simp
    rw [hPP] at SM9
    have Hb9 := Lib.hid (below_then Hb8.out hk9)
    clear hk9 hPP KN HP8 HQ8
    go_wp2_with fail
    refine SM9.out.mono ?_
    rintro e w' ⟨rfl, rfl⟩
    go_wp2
    go_ret
    exact ⟨rfl, Hb9.out⟩

namespace frameSums
set_option maxRecDepth 100000 in
theorem lifted (os : Os) (started : os.Started) (H : Type) (enc : TypeId × Value → H) :
    ReturnsInHanded {} Try.checked os 3 .any (Rows.frameSumsSpec.pre6 enc Try.prog Try.f3 Rows.frameSumsRow.domain false) (Rows.frameSumsSpec.post enc Try.prog Try.f3 false true false false) := by
  refine law_lift started (by kernel_rfl) Try.func3
    (ChangeSpec.witness6 (enc := enc) (C := Try.checked) false ⟨#[], #[.int .u8 0, .slice none 0 0, .slice none 0 0], []⟩ 8 (by kernel_rfl) (by kernel_rfl) (by kernel_rfl) (by kernel_rfl))
    rfl ?_ (by kernel_rfl) (by kernel_rfl) ?_
  · intro ds h
    match ds, h with
    | [_, _, _], _ => rfl
  intro W base args ds p g
  have hA := g.trod
  have hval := g.val
  rw [Try.params3] at hA hval
  obtain ⟨v0, vs0, d0, ds0, p0, q0, hargs, rfl, rfl, h0, r0⟩ := trodAll_cons hA
  obtain ⟨v1, vs1, d1, ds1, p1, q1, rfl, rfl, rfl, h1, r1⟩ := trodAll_cons r0
  obtain ⟨v2, vs2, d2, ds2, p2, q2, rfl, rfl, rfl, h2, r2⟩ := trodAll_cons r1
  obtain ⟨rfl, rfl, rfl⟩ := trodAll_nil r2
  obtain rfl : args = #[v0, v1, v2] := by cases args; simp_all
  obtain ⟨a0, rfl, _, _, w0⟩ := open_int Try.underlying5 (hval 0 5 v0 rfl rfl) h0
  have b0 := bounds_u8 w0
  obtain ⟨m0, rfl⟩ := Int.eq_ofNat_of_zero_le b0.1
  obtain ⟨k0, rfl⟩ : ∃ k : UInt8, m0 = k.toNat := ⟨UInt8.ofNat m0, by rw [UInt8.toNat_ofNat']; omega⟩
  obtain ⟨A1, n1, c1, l1, rfl, hc1, hm1, hr1⟩ := given_bytes (hval 1 22 v1 rfl rfl) h1
  obtain ⟨A2, n2, c2, l2, rfl, hc2, hm2, hr2⟩ := given_bytes (hval 2 22 v2 rfl rfl) h2
  exact frameSums_walk k0 A1 n1 c1 l1 A2 n2 c2 l2 W hc1 hm1 hr1 hc2 hm2 hr2

theorem over : Rows.frameSumsRow.holds Try.pinned (OpenSpec.ofChange Rows.frameSumsSpec) :=
  OpenClaim.holds_of_wide 3 Try.f3 rfl rfl rfl rfl rfl rfl rfl ⟨rfl, rfl, rfl, rfl, rfl⟩ rfl rfl rfl rfl rfl (by kernel_rfl) Try.func3 (by kernel_rfl)
    (of_decide_eq_true (by kernel_rfl)) (by unfold Func.isWrapper; first | (rw [if_pos (by decide +kernel)]; kernel_rfl) | (rw [if_neg (by decide +kernel)]; exact ⟨rfl, rfl⟩))
    (fun os started H enc _ => lifted os started H enc)
end frameSums

theorem FrameSums_proved : Rows.FrameSumsSaid := frameSums.over
#print axioms FrameSums_proved
end Go.Proofs.Ytbkbmmpcjpkkaaa
