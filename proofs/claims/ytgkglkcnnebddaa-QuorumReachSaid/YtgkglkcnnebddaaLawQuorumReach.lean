/- QuorumReach. -/
import Derived.Test.YtgkglkcnnebddaaQuRE
import Derived.Test.YtgkglkcnnebddaaRows
namespace Go.Proofs.Ytgkglkcnnebddaa
open Go.ChangeShapes Go.WideShapes Go.ChangeAt Go.RowKit Go.Deep

theorem refReach_any (q : Qm) (more : Int) (A : Option Addr) (n c : Nat) (w : World) (hq : Qi w q A n c) : Calls Try.prog 14 #[qV q (.slice A n c), .int .i64 more] w fun e w' => e = .returned (.int .i64 (q.reach more)) ∧ Below w.heap.size w w' := by
  by_cases hr : q.right = 0
  · by_cases hm : more < 0
    · have hx : q.reach more = 2 := by unfold Qm.reach; rw [if_neg (by simp [hr]), if_pos hm]
      rw [hx]
      exact refReach_neg q more A n c w hq hr hm
    · exact refReach_in q more A n c w hq hr (by omega)
  · rw [q.reach_bad hr]
    exact refReach_bad q more A n c w hq hr
set_option maxRecDepth 100000 in
set_option maxHeartbeats 4000000 in
theorem quorumReach_walk (q : Qm) (A : Option Addr) (n c : Nat) (more : Int) (w : World) (hq : Qi w q A n c) (_hm1 : -9223372036854775808 ≤ more) (_hm2 : more ≤ 9223372036854775807) :
    Calls Try.prog 4 #[qV q (.slice A n c), .int .i64 more] w fun e w' => e = .returned (.bool true) ∧ Below w.heap.size w w' := by
  obtain ⟨w1, HW1, HB1, HK1⟩ := boxed q.kind q.nodes q.one q.two A n c w
  have HM := Lib.hid (qmany_any q.kind q.nodes q.one q.two A n c w1)
  have HCells : Hid (∀ W2, Below w1.heap.size w1 W2 → _) := Lib.hid fun W2 hb => QB.cells q.kind q.nodes q.one q.two A n c (HK1.out.below hb HK1.out.lt)
  have HRE := Lib.hid (fun W (hb : Below w1.heap.size w1 W) => reach_any q more A n c W (hq.up (below_then HB1.out hb)))
  have HRR := Lib.hid (fun W (hb : Below w1.heap.size w1 W) => refReach_any q more A n c W (hq.up (below_then HB1.out hb)))
  unfold qV at *
  obtain ⟨k0, k1, k2, k3, k4⟩ := HK1.out.cells
  rw [HW1.out] at k0 k1 k2 k3 k4
  generalize q.reach more = r at *
  clear hq HK1
  obtain ⟨kd, nd, on, tw, l⟩ := q
  dsimp only at *
  cases hmy : decide (40 < n) with
  | true =>
    rw [hmy] at HM
    clear hmy
    go_enter Try.func4, Try.ntmps4
    go_wp2_with fail
    rw [← HW1.out]
    refine HM.out.mono ?_
    rintro e w2 ⟨rfl, hb2⟩
    have HB12 := Lib.hid hb2
    clear hb2 k0 k1 k2 k3 k4
    go_wp2_with fail
    refine (known_any _).mono ?_
    rintro e w9 ⟨rfl, hb9⟩
    have HB9 := Lib.hid (below_then HB1.out (below_then HB12.out hb9))
    clear hb9
    go_wp2
    go_ret
    exact ⟨rfl, HB9.out⟩
  | false =>
    rw [hmy] at HM
    clear hmy
    go_enter Try.func4, Try.ntmps4
    go_wp2_with fail
    rw [← HW1.out]
    refine HM.out.mono ?_
    rintro e w2 ⟨rfl, hb2⟩
    have HB12 := Lib.hid hb2
    clear k0 k1 k2 k3 k4
    obtain ⟨j0, j1, j2, j3, j4⟩ := HCells.out w2 hb2
    clear hb2
    have HC : Hid (∀ W, Below w2.heap.size w2 W → (W.cell? ⟨w.heap.size, 0, none⟩ = some (.int .i64 kd) ∧ W.cell? ⟨w.heap.size, 1, none⟩ = some (.int .i64 nd) ∧ W.cell? ⟨w.heap.size, 2, none⟩ = some (.int .i64 on) ∧ W.cell? ⟨w.heap.size, 3, none⟩ = some (.int .i64 tw) ∧ W.cell? ⟨w.heap.size, 4, none⟩ = some (.slice A n c)) ∧ Below w2.heap.size w2 W) := Lib.hid fun W hb => ⟨HCells.out W (below_then HB12.out hb), hb⟩
    go_wp2_with fail
    go_region_held3 (fun W => (W.cell? ⟨w.heap.size, 0, none⟩ = some (.int .i64 kd) ∧ W.cell? ⟨w.heap.size, 1, none⟩ = some (.int .i64 nd) ∧ W.cell? ⟨w.heap.size, 2, none⟩ = some (.int .i64 on) ∧ W.cell? ⟨w.heap.size, 3, none⟩ = some (.int .i64 tw) ∧ W.cell? ⟨w.heap.size, 4, none⟩ = some (.slice A n c)) ∧ Below w2.heap.size w2 W) (first | (refine HC.out _ ?_; (repeat' (first | assumption | exact Below.refl _ _ | exact Nat.le_refl _ | apply Below.drew)); done) | go_keep)
      (first
        | (go_at_call 13; (with_reducible refine (HRE.out _ (below_then HB12.out (by (repeat' (first | assumption | exact Below.refl _ _ | apply Below.drew))))).mono ?_); rintro e V1 ⟨rfl, hv1⟩; have hd1 : Below w2.heap.size w2 V1 := below_then (by (repeat' (first | assumption | exact Below.refl _ _ | apply Below.drew))) hv1; have hk1 := HC.out V1 hd1)
        | (go_at_call 14; (with_reducible refine (HRR.out _ (below_then HB12.out (by (repeat' (first | assumption | exact Below.refl _ _ | apply Below.drew))))).mono ?_); rintro e V2 ⟨rfl, hv2⟩; have hd2 : Below w2.heap.size w2 V2 := below_then (by (repeat' (first | assumption | exact Below.refl _ _ | apply Below.drew))) hv2; have hk2 := HC.out V2 hd2)
        | (go_at_call 10; (refine (known_any _).mono ?_); rintro e V3 ⟨rfl, hv3⟩; have hd3 : Below w2.heap.size w2 V3 := below_then (by (repeat' (first | assumption | exact Below.refl _ _ | apply Below.drew))) hv3; have hk3 := HC.out V3 hd3))
    all_goals
      rename_i hH
      obtain ⟨_, hbW⟩ := hH
      have HF := Lib.hid (below_then HB1.out (below_then HB12.out hbW))
      clear hbW HC HCells
      go_wp2
      go_ret
      exact ⟨rfl, HF.out⟩

namespace quorumReach
set_option maxRecDepth 100000 in
theorem lifted (os : Os) (started : os.Started) (H : Type) (enc : TypeId × Value → H) :
    ReturnsInHanded {} Try.checked os 4 .any (Rows.quorumReachSpec.pre6 enc Try.prog Try.f4 Rows.quorumReachRow.domain false) (Rows.quorumReachSpec.post enc Try.prog Try.f4 false true false false) := by
  refine law_lift started (by kernel_rfl) Try.func4
    (ChangeSpec.witness6 (enc := enc) (C := Try.checked) false ⟨#[], #[.agg #[.int .i64 0, .int .i64 0, .int .i64 0, .int .i64 0, .slice none 0 0], .int .i64 0], []⟩ 8 (by kernel_rfl) (by kernel_rfl) (by kernel_rfl) (by kernel_rfl))
    rfl ?_ (by kernel_rfl) (by kernel_rfl) ?_
  · intro ds h
    match ds, h with
    | [_, _], _ => rfl
  intro W base args ds p g
  have hA := g.trod
  have hval := g.val
  rw [Try.params4] at hA hval
  obtain ⟨v0, vs0, d0, ds0, p0, q0, hargs, rfl, rfl, h0, r0⟩ := trodAll_cons hA
  obtain ⟨v1, vs1, d1, ds1, p1, q1, rfl, rfl, rfl, h1, r1⟩ := trodAll_cons r0
  obtain ⟨rfl, rfl, rfl⟩ := trodAll_nil r1
  obtain rfl : args = #[v0, v1] := by cases args; simp_all
  obtain ⟨x0, hx0, rfl⟩ := given_q (hval 0 24 v0 rfl rfl) h0
  obtain ⟨a1, rfl, _, _, w1⟩ := open_int Try.underlying3 (hval 1 3 v1 rfl rfl) h1
  have b1 := bounds_i64 w1
  exact quorumReach_walk x0.q x0.A x0.n x0.c a1 W hx0 b1.1 b1.2

theorem over : Rows.quorumReachRow.holds Try.pinned (OpenSpec.ofChange Rows.quorumReachSpec) :=
  OpenClaim.holds_of_wide 4 Try.f4 rfl rfl rfl rfl rfl rfl rfl ⟨rfl, rfl, rfl, rfl, rfl⟩ rfl rfl rfl rfl rfl (by kernel_rfl) Try.func4 (by kernel_rfl)
    (of_decide_eq_true (by kernel_rfl)) (by unfold Func.isWrapper; first | (rw [if_pos (by decide +kernel)]; kernel_rfl) | (rw [if_neg (by decide +kernel)]; exact ⟨rfl, rfl⟩))
    (fun os started H enc _ => lifted os started H enc)
end quorumReach

theorem QuorumReach_proved : Rows.QuorumReachSaid := quorumReach.over
#print axioms QuorumReach_proved
end Go.Proofs.Ytgkglkcnnebddaa
