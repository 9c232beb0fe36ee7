/- Any changes have the chapter's bytes, or are refused; any bytes are read as the chapter says: the law answers true at every input. No condition. -/
import Derived.Test.YtcmjobpgdfapoaaGreatMStoS
import Derived.Test.YtcmjobpgdfapoaaGreatM1StoL
import Derived.Test.YtcmjobpgdfapoaaGreatM1StoV
import Derived.Test.YtcmjobpgdfapoaaGreatM1StoX2
import Derived.Test.YtcmjobpgdfapoaaGreatMLent
namespace Go.Proofs.YtcmjobpgdfapoaaGreat
open Go.ChangeShapes Go.WideShapes Go.ChangeAt Go.RowKit

set_option maxRecDepth 100000 in
set_option maxHeartbeats 4000000 in
theorem storeBatches_walk (A0 : Option Addr) (n0 c0 : Nat) (l : List Chg) (A1 : Option Addr) (n1 c1 : Nat) (b : List UInt8) (W : World) (hc0 : n0 ≤ c0) (hm0 : c0 ≤ 9223372036854775807) (hl : ChRd W W.heap.size A0 n0 l)
    (hc1 : n1 ≤ c1) (hm1 : c1 ≤ 9223372036854775807) (hb : Rd W W.heap.size A1 n1 b) :
    Calls Tryz.prog 3 #[.slice A0 n0 c0, .slice A1 n1 c1] W fun e W' => e = .returned (.bool true) ∧ Below W.heap.size W W' := by
  have HH := sheavy_any A0 n0 c0 l W (by omega) hl
  have HKn : Hid (∀ w, Below W.heap.size W w → Calls Tryz.prog 11 #[] w fun e W' => e = .returned (.bool true) ∧ Below W.heap.size W W') := by
    refine Lib.hid fun w hw => (sknown_any w).mono ?_
    rintro e w' ⟨rfl, h⟩
    exact ⟨rfl, below_then hw h⟩
  have HLr : Hid (∀ w, Below W.heap.size W w → ChRd w w.heap.size A0 n0 l ∧ Rd w w.heap.size A1 n1 b) := Lib.hid fun w hw => ⟨(hl.below hw).more hw.size, hb.up hw⟩
  have HH := Lib.hid HH
  clear hl hb
  by_cases hn : 8000 < n1
  · have hn' : (8000 : Int) < (n1 : Int) := by omega
    go_enter Tryz.func3, Tryz.ntmps3
    go_wp2_with fail
    refine HH.out.mono ?_
    clear HH
    rintro x w1 ⟨⟨bb, rfl⟩, hb1⟩
    have Hb1 := Lib.hid hb1
    clear hb1
    cases bb with
    | true =>
      go_wp2_with fail
      refine (HKn.out _ Hb1.out).mono ?_
      rintro x w2 ⟨rfl, hb2⟩
      have Hb2 := Lib.hid hb2
      clear hb2
      go_wp2
      go_ret
      exact ⟨rfl, Hb2.out⟩
    | false =>
      go_wp2_with fail
      refine (HKn.out _ Hb1.out).mono ?_
      rintro x w2 ⟨rfl, hb2⟩
      have Hb2 := Lib.hid hb2
      clear hb2
      go_wp2
      go_ret
      exact ⟨rfl, Hb2.out⟩
  · have hn' : ¬ (8000 : Int) < (n1 : Int) := by omega
    go_enter Tryz.func3, Tryz.ntmps3
    go_wp2_with fail
    refine HH.out.mono ?_
    clear HH
    rintro x w1 ⟨⟨bb, rfl⟩, hb1⟩
    have Hb1 := Lib.hid hb1
    clear hb1
    cases bb with
    | true =>
      go_wp2_with fail
      refine (HKn.out _ Hb1.out).mono ?_
      rintro x w2 ⟨rfl, hb2⟩
      have Hb2 := Lib.hid hb2
      clear hb2
      go_wp2
      go_ret
      exact ⟨rfl, Hb2.out⟩
    | false =>
      have HLe := Lib.hid (lent_any A1 n1 c1 w1.heap.size b w1 (by omega) (HLr.out w1 Hb1.out).2)
      go_wp2_with fail
      refine HLe.out.mono ?_
      clear HLe
      rintro x w2 ⟨gx, cx, rfl, hx2, hb2⟩
      have Hb2 := Lib.hid (below_then Hb1.out hb2)
      have Hx2 := Lib.hid hx2
      clear hb2 hx2
      have HRi := Lib.hid (right_any A0 n0 c0 l w2 (by omega) (HLr.out w2 Hb2.out).1)
      go_wp2_with fail
      refine HRi.out.mono ?_
      clear HRi
      rintro x w3 ⟨rfl, hb3⟩
      have Hb3 := Lib.hid (below_then Hb2.out hb3)
      have Hx3 := Lib.hid (own_below Hx2.out hb3 fun k hk => (Hx2.out.lt k hk).2)
      clear hb3 Hx2
      have HEn := Lib.hid (encode_any A0 n0 c0 l w3 hc0 hm0 (HLr.out w3 Hb3.out).1)
      go_wp2_with fail
      refine HEn.out.mono ?_
      clear HEn
      rintro x w4 ⟨ve, rfl, ho4, hb4⟩
      obtain ⟨Ae, ce, rfl, hce⟩ := own_shape ho4
      have Hb4 := Lib.hid (below_then Hb3.out hb4)
      have Hx4 := Lib.hid (own_below Hx3.out hb4 fun k hk => (Hx3.out.lt k hk).2)
      have He4 := Lib.hid (Rd.of_own ho4)
      clear hb4 ho4 Hx3
      have hrx : Rd w4 w4.heap.size (some ⟨gx, 0, none⟩) n1 b := by
        have h1 := Rd.of_own Hx4.out
        have hbl := (HLr.out w4 Hb4.out).2.1
        have h2 := h1.part (i := 0) (k := n1) (by omega)
        rw [List.drop_zero, Nat.zero_add] at h2
        rwa [List.take_left' (by omega)] at h2
      have HDe := Lib.hid (decode_any (some ⟨gx, 0, none⟩) n1 cx b w4 (by omega) hrx)
      clear hrx
      go_wp2_with fail
      refine HDe.out.mono ?_
      clear HDe
      rintro x w5 ⟨vd, rfl, hd5, hb5⟩
      obtain ⟨Ad, cd, rfl, hcd⟩ := own_shape hd5
      have Hb5 := Lib.hid (below_then Hb4.out hb5)
      have Hx5 := Lib.hid (own_below Hx4.out hb5 fun k hk => (Hx4.out.lt k hk).2)
      have He5 := Lib.hid (He4.out.up hb5)
      have Hd5 := Lib.hid hd5
      clear hb5 hd5 Hx4 He4
      have HRe := Lib.hid (refEncode_any A0 n0 c0 l w5 hc0 hm0 (HLr.out w5 Hb5.out).1)
      go_wp2_with fail
      refine HRe.out.mono ?_
      clear HRe
      rintro x w6 ⟨vr, rfl, ho6, hb6⟩
      obtain ⟨Ar, cr, rfl, hcr⟩ := own_shape ho6
      have Hb6 := Lib.hid (below_then Hb5.out hb6)
      have Hx6 := Lib.hid (own_below Hx5.out hb6 fun k hk => (Hx5.out.lt k hk).2)
      have He6 := Lib.hid (He5.out.up hb6)
      have Hd6 := Lib.hid (Hd5.out.below hb6)
      have Hr6 := Lib.hid (Rd.of_own ho6)
      clear hb6 ho6 Hx5 He5 Hd5
      have HRd := Lib.hid (refDecode_any A1 n1 c1 b w6 hc1 hm1 (by omega) (HLr.out w6 Hb6.out).2)
      go_wp2_with fail
      refine HRd.out.mono ?_
      clear HRd
      rintro x w7 ⟨vm, rfl, hm7, hb7⟩
      obtain ⟨Am, cm, rfl, hcm⟩ := own_shape hm7
      have Hb7 := Lib.hid (below_then Hb6.out hb7)
      have Hx7 := Lib.hid (own_below Hx6.out hb7 fun k hk => (Hx6.out.lt k hk).2)
      have He7 := Lib.hid (He6.out.up hb7)
      have Hd7 := Lib.hid (Hd6.out.below hb7)
      have Hr7 := Lib.hid (Hr6.out.up hb7)
      have Hm7 := Lib.hid hm7
      clear hb7 hm7 Hx6 He6 Hd6 Hr6
      have HRr := Lib.hid (refRight_any A0 n0 c0 l w7 (by omega) (HLr.out w7 Hb7.out).1)
      go_wp2_with fail
      refine HRr.out.mono ?_
      clear HRr
      rintro x w8 ⟨rfl, hb8⟩
      have Hb8 := Lib.hid (below_then Hb7.out hb8)
      have Hx8 := Lib.hid (own_below Hx7.out hb8 fun k hk => (Hx7.out.lt k hk).2)
      have He8 := Lib.hid (He7.out.up hb8)
      have Hd8 := Lib.hid (Hd7.out.below hb8)
      have Hr8 := Lib.hid (Hr7.out.up hb8)
      have Hm8 := Lib.hid (Hm7.out.below hb8)
      clear hb8 Hx7 He7 Hd7 Hr7 Hm7
      have HSa := same_any Ae Ar _ _ ce cr _ _ _ _ w8 He8.out Hr8.out
      rw [beq_self_eq_true] at HSa
      have HSa := Lib.hid HSa
      go_wp2_with fail
      refine HSa.out.mono ?_
      clear HSa
      rintro x w9 ⟨rfl, rfl⟩
      have hdl := decode_len b
      have HLs := Lib.hid (lsame_any Ad Am _ cd cm _ _ _ w8 (by omega) Hd8.out.rd Hm8.out.rd)
      go_wp2_with fail
      refine HLs.out.mono ?_
      clear HLs
      rintro x w10 ⟨rfl, hb10⟩
      have Hb10 := Lib.hid (below_then Hb8.out hb10)
      have Hx10 := Lib.hid (own_below Hx8.out hb10 fun k hk => (Hx8.out.lt k hk).2)
      clear hb10 Hx8 He8 Hd8 Hr8 Hm8
      have HWh := Lib.hid (whole_any gx cx _ n1 c1 _ A1 b w10 (by omega) Hx10.out (HLr.out w10 Hb10.out).2)
      go_wp2_with fail
      refine HWh.out.mono ?_
      clear HWh
      rintro x w11 ⟨rfl, rfl⟩
      go_wp2_with fail
      refine (HKn.out _ Hb10.out).mono ?_
      rintro x w12 ⟨rfl, hb12⟩
      have Hb12 := Lib.hid hb12
      clear hb12
      go_wp2
      go_ret
      exact ⟨rfl, Hb12.out⟩

namespace storeBatches
set_option maxRecDepth 100000 in
theorem lifted (os : Os) (started : os.Started) (H : Type) (enc : TypeId × Value → H) :
    ReturnsInHanded {} Tryz.checked os 3 .any (Rows.storeBatchesSpec.pre6 enc Tryz.prog Tryz.f3 Rows.storeBatchesRow.domain false) (Rows.storeBatchesSpec.post enc Tryz.prog Tryz.f3 false true false false) := by
  refine law_lift started (by kernel_rfl) Tryz.func3
    (ChangeSpec.witness6 (enc := enc) (C := Tryz.checked) false ⟨#[], #[.slice none 0 0, .slice none 0 0], []⟩ 8 (by kernel_rfl) (by kernel_rfl) (by kernel_rfl) (by kernel_rfl))
    rfl ?_ (by kernel_rfl) (by kernel_rfl) ?_
  · intro ds h
    match ds, h with
    | [_, _], _ => rfl
  intro W base args ds p g
  have hA := g.trod
  have hval := g.val
  rw [Tryz.params3] at hA hval
  obtain ⟨v0, vs0, d0, ds0, p0, q0, hargs, rfl, rfl, h0, r0⟩ := trodAll_cons hA
  obtain ⟨v1, vs1, d1, ds1, p1, q1, rfl, rfl, rfl, h1, r1⟩ := trodAll_cons r0
  obtain ⟨rfl, rfl, rfl⟩ := trodAll_nil r1
  obtain rfl : args = #[v0, v1] := by cases args; simp_all
  obtain ⟨A0, n0, c0, l0, rfl, hc0, hm0, hr0⟩ := given_chgs (hval 0 22 v0 rfl rfl) h0
  obtain ⟨A1, n1, c1, l1, rfl, hc1, hm1, hr1⟩ := given_bytes (hval 1 23 v1 rfl rfl) h1
  exact storeBatches_walk A0 n0 c0 l0 A1 n1 c1 l1 W hc0 hm0 hr0 hc1 hm1 hr1

theorem over : Rows.storeBatchesRow.holds Tryz.pinned (OpenSpec.ofChange Rows.storeBatchesSpec) :=
  OpenClaim.holds_of_wide 3 Tryz.f3 rfl rfl rfl rfl rfl rfl rfl ⟨rfl, rfl, rfl, rfl, rfl⟩ rfl rfl rfl rfl rfl (by kernel_rfl) Tryz.func3 (by kernel_rfl)
    (of_decide_eq_true (by kernel_rfl)) (by unfold Func.isWrapper; first | (rw [if_pos (by decide +kernel)]; kernel_rfl) | (rw [if_neg (by decide +kernel)]; exact ⟨rfl, rfl⟩))
    (fun os started H enc _ => lifted os started H enc)
end storeBatches

theorem StoreBatches_proved : Rows.StoreBatchesSaid := storeBatches.over
#print axioms StoreBatches_proved
end Go.Proofs.YtcmjobpgdfapoaaGreat
