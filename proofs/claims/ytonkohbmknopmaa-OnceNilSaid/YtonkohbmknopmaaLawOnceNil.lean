/- OnceNil: a table that is not there answers so; what is told of clients is its owner's. -/
import Derived.Test.YtonkohbmknopmaaOnN
import Derived.Test.YtonkohbmknopmaaLaw
namespace Go.Proofs.Ytonkohbmknopmaa
open Go.ChangeShapes Go.WideShapes Go.ChangeAt Go.RowKit Go.Maps

set_option maxHeartbeats 8000000 in
set_option maxRecDepth 100000 in
theorem onceNil_walk (x : Gl) (W : World) (hx : x.Ok W W.heap.size) : Calls Try.prog 8 #[x.v] W fun e w' => e = .returned (.bool true) ∧ Below W.heap.size W w' := by
  obtain ⟨kind, id, num, val, vA, vn, vc⟩ := x
  obtain ⟨hk64, hid, hnum, hcap, hval⟩ := hx
  unfold Gl.v
  dsimp only at hk64 hid hnum hcap hval ⊢
  have HKn := Lib.hid (fun w => known13_any w)
  obtain ⟨wx, hwx⟩ : ∃ wx, wx = W.alloc (.cells #[.int .i64 kind, .int .u64 (id : Int), .int .u64 (num : Int), .slice vA vn vc] 35) := ⟨_, rfl⟩
  obtain ⟨bx, hbx⟩ : ∃ bx, bx = W.heap.size := ⟨_, rfl⟩
  have hb0 : Below W.heap.size W wx := by rw [hwx]; exact bel1N _ _
  have hkx : Bk wx bx 35 #[.int .i64 kind, .int .u64 (id : Int), .int .u64 (num : Int), .slice vA vn vc] := by rw [hwx, hbx]; exact Bk.new W _ _
  have HC : Hid (∀ w, Below wx.heap.size wx w → w.cell? ⟨bx, 1, none⟩ = some (.int .u64 (id : Int)) ∧ w.cell? ⟨bx, 2, none⟩ = some (.int .u64 (num : Int)) ∧ w.cell? ⟨bx, 3, none⟩ = some (.slice vA vn vc) ∧ Rd w w.heap.size vA vn val) := Lib.hid fun w hb =>
    ⟨(hkx.below hb hkx.lt).cell 1, (hkx.below hb hkx.lt).cell 2, (hkx.below hb hkx.lt).cell 3, hval.up (below_then hb0 hb)⟩
  have HB0 := Lib.hid hb0
  have HWx := Lib.hid hwx
  have HBx := Lib.hid hbx
  have hvl : val.length = vn := hval.1
  have HOg : Hid (∀ w F g t, OW wx w F g t → RdA w F (vA, vn, vc) val) := Lib.hid fun w F g t h => RdA.old h ((hval.up hb0).below h.bel) ⟨hcap.1, by unfold maxLen; omega⟩
  obtain ⟨c1, c2, c3, _⟩ := HC.out wx (Below.refl _ _)
  by_cases hlong : 200 < vn
  · have m1 : (vn : Int) > 200 := by omega
    clear hwx hbx hb0 hkx hval hcap HOg
    go_enter Try.func8, Try.ntmps8
    go_upto_region 1 with (fail)
    rw [← HWx.out]
    rw [← HBx.out]
    go_wp2_with fail
    refine (HKn.out _).mono ?_
    rintro e w2 ⟨rfl, hb2⟩
    have HB2 := Lib.hid (below_then HB0.out hb2)
    clear hb2
    go_wp2
    go_ret
    exact ⟨rfl, HB2.out⟩
  have m1 : ¬ (vn : Int) > 200 := by omega
  have hval200 : val.length ≤ 200 := by omega
  have HNb := Lib.hid (fun w => cbegin_nil (id : Int) (num : Int) w)
  have HNc := Lib.hid (fun w => counts_nil w)
  have HNe := Lib.hid (fun w => cend_nil (id : Int) (num : Int) (.slice vA vn vc) w)
  have HNl := Lib.hid (fun w => clients_nil w)
  have HNs := Lib.hid (fun w => save_nil w)
  have HNew := Lib.hid (ow_new 1 wx (by decide))
  have Hvl := Lib.hid hvl
  clear hwx hbx hb0 hkx hval hvl hcap
  go_enter Try.func8, Try.ntmps8
  go_upto_region 1 with (fail)
  rw [← HWx.out]
  rw [← HBx.out]
  go_wp2_with (first
    | (go_at_call 13; refine (HNb.out _).mono ?_; rintro e w' ⟨rfl, rfl⟩)
    | (go_at_call 24; refine (HNc.out _).mono ?_; rintro e w' ⟨rfl, rfl⟩)
    | (go_at_call 18; refine (HNe.out _).mono ?_; rintro e w' ⟨rfl, rfl⟩)
    | (go_at_call 26; refine (HNl.out _).mono ?_; rintro e w' ⟨rfl, rfl⟩)
    | (go_at_call 21; refine (HNs.out _).mono ?_; rintro e w' ⟨rfl, rfl⟩))
  refine HNew.out.mono ?_
  clear HNew HNb HNc HNe HNl HNs
  rintro e w1 ⟨g, F1, rfl, H1⟩
  obtain ⟨c1, c2, c3, _⟩ := HC.out w1 H1.out.bel
  have Hs : Hid (Calls Try.prog 13 #[.pointer (some ⟨g, 0, none⟩), .int .u64 (id : Int), .int .u64 5] w1 (BegO wx w1 F1 g ⟨1, [], 0, t1N id⟩)) := Lib.hid (by rw [← nb_a]; exact H1.out.begin id 5 hid (by decide))
  clear H1
  go_wp2_with fail
  refine Hs.out.mono ?_
  clear Hs
  rintro e w2 ⟨A2, cc2, rfl, H2⟩
  obtain ⟨F2, o2, -, -, -⟩ := H2.out
  obtain ⟨c1, c2, c3, _⟩ := HC.out w2 o2.bel
  have Hs : Hid (Calls Try.prog 18 #[.pointer (some ⟨g, 0, none⟩), .int .u64 (id : Int), .int .u64 5, .slice vA vn vc] w2 (EndO wx w2 F2 g (0, t2N id val 0))) := Lib.hid (by rw [← nb_b id val hval200]; exact o2.ended id 5 hid vA vn vc val (HOg.out _ _ _ _ o2) (by omega))
  clear H2 o2
  go_wp2_with fail
  refine Hs.out.mono ?_
  clear Hs
  rintro e w3 ⟨rfl, H3⟩
  obtain ⟨F3, o3, -⟩ := H3.out
  obtain ⟨c1, c2, c3, _⟩ := HC.out w3 o3.bel
  have Hs := Lib.hid o3.clients1
  have HZ3 := Lib.hid o3.bel.size
  clear H3 o3
  go_wp2_with fail
  refine Hs.out.mono ?_
  clear Hs
  rintro e w4 ⟨R4, cc4, s4, rfl, H4⟩
  obtain ⟨o4, b4, ce4, oa4, -⟩ := H4.out
  have HZ4 := Lib.hid b4.size
  obtain ⟨c1, c2, c3, _⟩ := HC.out w4 o4.bel
  have Hs := Lib.hid o4.clients1
  have HK4 := Lib.hid (And.intro ce4 oa4)
  clear H4 o4 b4 ce4 oa4
  go_wp2_with fail
  refine Hs.out.mono ?_
  clear Hs
  rintro e w5 ⟨R5, cc5, s5, rfl, H5⟩
  obtain ⟨o5, b5, ce5, oa5, -⟩ := H5.out
  obtain ⟨c1, c2, c3, _⟩ := HC.out w5 o5.bel
  have HK5 := Lib.hid (And.intro (HK4.out.1.mv (Mv.belowO b5)) (And.intro (HK4.out.2.mv (Mv.belowO b5)) (And.intro ce5 oa5)))
  have HZ5 : Hid (w3.heap.size ≤ w4.heap.size ∧ w4.heap.size ≤ w5.heap.size) := Lib.hid ⟨HZ4.out, b5.size⟩
  have Hs := Lib.hid (o5.again hid)
  clear H5 o5 b5 ce5 oa5 HK4
  go_wp2_with fail
  refine Hs.out.mono ?_
  clear Hs
  rintro e w6 ⟨A6, cc6, rfl, H6⟩
  obtain ⟨F6, o6, m6, oa6⟩ := H6.out
  obtain ⟨c1, c2, c3, _⟩ := HC.out w6 o6.bel
  have HK6 := Lib.hid (And.intro (HK5.out.1.mv m6) (And.intro (HK5.out.2.1.mv m6) (And.intro (HK5.out.2.2.1.mv m6) (And.intro (HK5.out.2.2.2.mv m6) oa6))))
  have HZ6 := Lib.hid m6.kp.size
  have Hs := Lib.hid (o6.again hid)
  clear H6 o6 m6 oa6 HK5
  go_wp2_with fail
  refine Hs.out.mono ?_
  clear Hs
  rintro e w7 ⟨A7, cc7, rfl, H7⟩
  obtain ⟨F7, o7, m7, oa7⟩ := H7.out
  have HK7 := Lib.hid (And.intro (HK6.out.1.mv m7) (And.intro (HK6.out.2.1.mv m7) (And.intro (HK6.out.2.2.1.mv m7) (And.intro (HK6.out.2.2.2.1.mv m7) (And.intro (HK6.out.2.2.2.2.mv m7) oa7)))))
  have HZ7 := Lib.hid m7.kp.size
  have HO7 := Lib.hid o7
  obtain ⟨c1, c2, c3, hrd7⟩ := HC.out w7 o7.bel
  obtain ⟨k1, k2, k3, k4, k5, k6⟩ := HK7.out
  have HSm : Hid (Calls Try.prog 15 #[.slice A6 val.length cc6, .slice vA vn vc] w7 fun e w' => e = .returned (.bool true) ∧ w' = w7) := Lib.hid (by
    refine (same_any A6 vA _ vn cc6 vc _ _ val val w7 (RdF.of_own k5.own).rd hrd7).mono ?_
    rintro e w' ⟨rfl, rfl⟩
    exact ⟨by simp, rfl⟩)
  have l4 : w7.cell? ⟨R4, 3, none⟩ = some (s3W s4) := k1.cell
  have l5 : w7.cell? ⟨R5, 3, none⟩ = some (s3W s5) := k3.cell
  have HOw : Hid (∀ W2, Below w7.heap.size w7 W2 → Calls Try.prog 28 #[.slice (some ⟨W2.heap.size, 0, none⟩) 4 4] (W2.alloc (.cells #[s3W s4, s3W s5, .slice A6 val.length cc6, .slice A7 val.length cc7] 33)) fun e w' => e = .returned (.bool true) ∧ Hid (OW wx w' F7 g (t2N id val (more1 (more1 0))))) :=
    Lib.hid (own4_any (s3 := (A6, val.length, cc6)) (s4 := (A7, val.length, cc7)) o7 k2 k4 k5 k6 HZ3.out (Nat.le_refl _) (Nat.le_refl _) (Nat.le_refl _) ⟨HZ5.out.1, HZ5.out.2, HZ6.out⟩ (by have := HZ5.out; have := HZ6.out; have := HZ7.out; omega) (by omega) ⟨HZ5.out.2, HZ6.out⟩)
  obtain ⟨sA4, sN4, sC4⟩ := s4
  obtain ⟨sA5, sN5, sC5⟩ := s5
  unfold s3W at l4 l5 HOw
  dsimp only at l4 l5 HOw
  rw [Hvl.out] at HOw HSm
  clear H7 o7 m7 oa7 HK6 hrd7 k1 k2 k3 k4 k5 k6 HK7
  rw [Hvl.out]
  go_wp2_with (go_at_call 15; refine HSm.out.mono ?_; rintro e w' ⟨rfl, rfl⟩)
  have HAg : Hid (∀ w8, OW wx w8 F7 g (t2N id val (more1 (more1 0))) → Calls Try.prog 13 #[.pointer (some ⟨g, 0, none⟩), .int .u64 (id : Int), .int .u64 5] w8 fun e w' => ∃ A c, e = .returned (.tuple #[.int .i64 2, .slice A vn c, .int .i64 0]) ∧ Hid (Below wx.heap.size wx w' ∧ Rd w' w'.heap.size A vn val)) := Lib.hid fun w8 h8 => by
    refine (h8.again hid).mono ?_
    rw [Hvl.out]
    rintro e w' ⟨A, c, rfl, HX⟩
    obtain ⟨F', o', _, oa⟩ := HX.out
    have hr := (RdF.of_own oa.own).rd
    exact ⟨A, c, rfl, Lib.hid ⟨o'.bel, hr⟩⟩
  clear HSm
  go_region_law (go_simp; go_at_call 28; (refine (HOw.out _ (bel_drewN (Below.refl _ _) _)).mono ?_); rintro e w8 ⟨rfl, H8⟩)
  all_goals
    obtain ⟨c1, c2, c3, _⟩ := HC.out w8 H8.out.bel
    have HAg8 := Lib.hid (HAg.out w8 H8.out)
    clear l4 l5 HOw H8 HAg
    go_wp2_with fail
    refine HAg8.out.mono ?_
    clear HAg8
    rintro e w9 ⟨A9, cc9, rfl, H9⟩
    obtain ⟨c1, c2, c3, hrd9⟩ := HC.out w9 H9.out.1
    have HSm : Hid (Calls Try.prog 15 #[.slice A9 vn cc9, .slice vA vn vc] w9 fun e w' => e = .returned (.bool true) ∧ w' = w9) := Lib.hid (by
      refine (same_any A9 vA _ vn cc9 vc _ _ val val w9 H9.out.2 hrd9).mono ?_
      rintro e w' ⟨rfl, rfl⟩
      exact ⟨by simp, rfl⟩)
    have HB9 := Lib.hid (below_then HB0.out H9.out.1)
    clear H9 hrd9
    go_wp2_with (go_at_call 15; refine HSm.out.mono ?_; rintro e w' ⟨rfl, rfl⟩)
    refine (HKn.out _).mono ?_
    rintro e wz ⟨rfl, hbz⟩
    have HBz := Lib.hid (below_then HB9.out hbz)
    clear hbz
    go_wp2
    go_ret
    exact ⟨rfl, HBz.out⟩
namespace onceNil
set_option maxRecDepth 100000 in
theorem lifted (os : Os) (started : os.Started) (H : Type) (enc : TypeId × Value → H) :
    ReturnsInHanded {} Try.checked os 8 .any (Rows.onceNilSpec.pre6 enc Try.prog Try.f8 Rows.onceNilRow.domain false) (Rows.onceNilSpec.post enc Try.prog Try.f8 false true false false) := by
  refine law_lift started (by kernel_rfl) Try.func8
    (ChangeSpec.witness6 (enc := enc) (C := Try.checked) false ⟨#[], #[.agg #[.int .i64 0, .int .u64 0, .int .u64 0, .slice none 0 0]], []⟩ 8 (by kernel_rfl) (by kernel_rfl) (by kernel_rfl) (by kernel_rfl))
    rfl ?_ (by kernel_rfl) (by kernel_rfl) ?_
  · intro ds h
    match ds, h with
    | [_], _ => rfl
  intro W base args ds p g
  have hA := g.trod
  have hval := g.val
  rw [Try.params8] at hA hval
  obtain ⟨v0, vs0, d0, ds0, p0, q0, hargs, rfl, rfl, h0, r0⟩ := trodAll_cons hA
  obtain ⟨rfl, rfl, rfl⟩ := trodAll_nil r0
  obtain rfl : args = #[v0] := by cases args; simp_all
  obtain ⟨x0, hx0, rfl⟩ := given_ac13 (hval 0 35 v0 rfl rfl) h0
  exact onceNil_walk x0 W hx0

theorem over : Rows.onceNilRow.holds Try.pinned (OpenSpec.ofChange Rows.onceNilSpec) :=
  OpenClaim.holds_of_wide 8 Try.f8 rfl rfl rfl rfl rfl rfl rfl ⟨rfl, rfl, rfl, rfl, rfl⟩ rfl rfl rfl rfl rfl (by kernel_rfl) Try.func8 (by kernel_rfl)
    (of_decide_eq_true (by kernel_rfl)) (by unfold Func.isWrapper; first | (rw [if_pos (by decide +kernel)]; kernel_rfl) | (rw [if_neg (by decide +kernel)]; exact ⟨rfl, rfl⟩))
    (fun os started H enc _ => lifted os started H enc)
end onceNil

theorem OnceNil_proved : Rows.OnceNilSaid := onceNil.over
#print axioms OnceNil_proved
end Go.Proofs.Ytonkohbmknopmaa
