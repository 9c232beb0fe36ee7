/- ProposeNil. -/
import Derived.Test.YthkkkldkpdkabaaProGv
import Derived.Test.YthkkkldkpdkabaaProK
import Derived.Test.YthkkkldkpdkabaaRows
namespace Go.Proofs.Ythkkkldkpdkabaa
open Go.ChangeShapes Go.WideShapes Go.ChangeAt Go.RowKit Go.Maps

set_option maxRecDepth 100000 in
set_option maxHeartbeats 8000000 in
theorem proposeNil_walk (x : Ac10) (W : World) (_hx : x.Ok W W.heap.size) : Calls Try.prog 9 #[.agg (acC x)] W fun e W' => e = .returned (.bool true) ∧ Below W.heap.size W W' := by
  obtain ⟨kd, nd, sl, oA, on, oc, ow, vA, vn, vc, es⟩ := x
  unfold acC
  dsimp only
  obtain ⟨w1, hw1⟩ : ∃ w1, w1 = W.alloc (.cells #[.int .i64 kd, .int .i64 nd, .int .u64 (sl : Int), .slice oA on oc, .slice vA vn vc] 42) := ⟨_, rfl⟩
  have hb1 : Below W.heap.size W w1 := by rw [hw1]; exact bel1P _
  have hk1 : Bk w1 W.heap.size 42 #[.int .i64 kd, .int .i64 nd, .int .u64 (sl : Int), .slice oA on oc, .slice vA vn vc] := by rw [hw1]; exact Bk.new W _ _
  have HQ : Hid (∀ w, Below w1.heap.size w1 w → w.cell? ⟨W.heap.size, 0, none⟩ = some (.int .i64 kd) ∧ w.cell? ⟨W.heap.size, 1, none⟩ = some (.int .i64 nd) ∧ w.cell? ⟨W.heap.size, 2, none⟩ = some (.int .u64 (sl : Int)) ∧ w.cell? ⟨W.heap.size, 3, none⟩ = some (.slice oA on oc) ∧ w.cell? ⟨W.heap.size, 4, none⟩ = some (.slice vA vn vc)) := Lib.hid fun w hb =>
    ⟨(hk1.below hb hk1.lt).cell 0, (hk1.below hb hk1.lt).cell 1, (hk1.below hb hk1.lt).cell 2, (hk1.below hb hk1.lt).cell 3, (hk1.below hb hk1.lt).cell 4⟩
  obtain ⟨q0, q1, q2, q3, q4⟩ := HQ.out w1 (Below.refl _ _)
  have HW1 := Lib.hid hw1
  have HB1 := Lib.hid hb1
  have H1 := Lib.hid (fun w => ppropose_nil w sl oA on oc)
  have H2 := Lib.hid (fun w => pmust_nil w sl)
  have H3 := Lib.hid (fun w => pchosen_nil w sl)
  have H4 := Lib.hid (fun w => ppromise_nil w nd vA vn vc)
  have H5 := Lib.hid (fun w => paccepted_nil w nd sl)
  have H6 := Lib.hid (fun w => pready_nil w)
  have H7 := Lib.hid (fun w => ptop_nil w)
  have H8 := Lib.hid (fun w => pprefix_nil w)
  have H9 := Lib.hid (fun w => known10_any w)
  clear hw1 hb1 hk1 _hx
  go_enter Try.func9, Try.ntmps9
  go_upto_region 1 with (fail)
  rw [← HW1.out]
  go_wp2_with fail
  refine (H1.out _).mono ?_
  rintro e w2 ⟨rfl, hb2⟩
  have hb3 : Below w2.heap.size w2 (w2.alloc (.cells #[.int .u64 0, .int .u64 0, .int .i64 0, .slice none 0 0] 48)) := bel1P _
  have hk3 := Bk.new w2 48 #[.int .u64 0, .int .u64 0, .int .i64 0, .slice none 0 0]
  clear q0 q1 q2 q3 q4
  obtain ⟨q0, q1, q2, q3, q4⟩ := HQ.out _ (below_then hb2 hb3)
  have HB3 := Lib.hid (below_then HB1.out (below_then hb2 hb3))
  have v3 : (w2.alloc (.cells #[.int .u64 0, .int .u64 0, .int .i64 0, .slice none 0 0] 48)).cell? ⟨w2.heap.size, 3, none⟩ = some (.slice none 0 0) := hk3.cell 3
  clear hb2 hb3 hk3
  go_upto_region 3 with (fail)
  generalize w2.alloc (.cells #[.int .u64 0, .int .u64 0, .int .i64 0, .slice none 0 0] 48) = w3 at *
  go_wp2_with fail
  refine (H2.out _).mono ?_
  rintro e w4 ⟨rfl, rfl⟩
  go_wp2_with fail
  refine (H3.out _).mono ?_
  rintro e w4 ⟨rfl, rfl⟩
  go_wp2_with fail
  refine (H4.out _).mono ?_
  rintro e w4 ⟨rfl, rfl⟩
  go_wp2_with fail
  refine (H5.out _).mono ?_
  rintro e w4 ⟨rfl, rfl⟩
  go_wp2_with fail
  refine (H6.out _).mono ?_
  rintro e w4 ⟨rfl, hb4⟩
  have HB4 := Lib.hid (below_then HB3.out hb4)
  clear hb4 q0 q1 q2 q3 q4 v3
  go_wp2_with fail
  refine (H7.out _).mono ?_
  rintro e w5 ⟨rfl, rfl⟩
  go_wp2_with fail
  refine (H8.out _).mono ?_
  rintro e w5 ⟨rfl, rfl⟩
  go_wp2_with fail
  refine (H9.out _).mono ?_
  rintro e w5 ⟨rfl, hb5⟩
  have HB5 := Lib.hid (below_then HB4.out hb5)
  clear hb5
  go_wp2
  go_ret
  exact ⟨rfl, HB5.out⟩
namespace proposeNil
set_option maxRecDepth 100000 in
theorem lifted (os : Os) (started : os.Started) (H : Type) (enc : TypeId × Value → H) :
    ReturnsInHanded {} Try.checked os 9 .any (Rows.proposeNilSpec.pre6 enc Try.prog Try.f9 Rows.proposeNilRow.domain false) (Rows.proposeNilSpec.post enc Try.prog Try.f9 false true false false) := by
  refine law_lift started (by kernel_rfl) Try.func9
    (ChangeSpec.witness6 (enc := enc) (C := Try.checked) false ⟨#[], #[.agg #[.int .i64 0, .int .i64 0, .int .u64 0, .slice none 0 0, .slice none 0 0]], []⟩ 8 (by kernel_rfl) (by kernel_rfl) (by kernel_rfl) (by kernel_rfl))
    rfl ?_ (by kernel_rfl) (by kernel_rfl) ?_
  · intro ds h
    match ds, h with
    | [_], _ => rfl
  intro W base args ds p g
  have hA := g.trod
  have hval := g.val
  rw [Try.params9] at hA hval
  obtain ⟨v0, vs0, d0, ds0, p0, q0, hargs, rfl, rfl, h0, r0⟩ := trodAll_cons hA
  obtain ⟨rfl, rfl, rfl⟩ := trodAll_nil r0
  obtain rfl : args = #[v0] := by cases args; simp_all
  obtain ⟨x0, hx0, rfl⟩ := given_act10 (hval 0 42 v0 rfl rfl) h0
  exact proposeNil_walk x0 W hx0

theorem over : Rows.proposeNilRow.holds Try.pinned (OpenSpec.ofChange Rows.proposeNilSpec) :=
  OpenClaim.holds_of_wide 9 Try.f9 rfl rfl rfl rfl rfl rfl rfl ⟨rfl, rfl, rfl, rfl, rfl⟩ rfl rfl rfl rfl rfl (by kernel_rfl) Try.func9 (by kernel_rfl)
    (of_decide_eq_true (by kernel_rfl)) (by unfold Func.isWrapper; first | (rw [if_pos (by decide +kernel)]; kernel_rfl) | (rw [if_neg (by decide +kernel)]; exact ⟨rfl, rfl⟩))
    (fun os started H enc _ => lifted os started H enc)
end proposeNil

theorem ProposeNil_proved : Rows.ProposeNilSaid := proposeNil.over
#print axioms ProposeNil_proved
end Go.Proofs.Ythkkkldkpdkabaa
