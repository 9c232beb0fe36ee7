/- Layer 8: Least of a system by counts, where few sets are. -/
import Derived.Test.YtgkglkcnnebddaaQuSo
namespace Go.Proofs.Ytgkglkcnnebddaa
open Go.RowKit Go.Lib Go.Shelf

theorem cntL_sorted (m : Int) (k : Nat) : (cntL m k).Pairwise (· ≤ ·) := by
  unfold cntL
  exact (List.pairwise_le_range (n := k)).filter _
set_option maxRecDepth 100000 in
set_option maxHeartbeats 400000 in
theorem least_counts (q : Qm) (second : Bool) (A : Option Addr) (n c : Nat) (w : World) (hq : Qi w q A n c) (hr : q.right = 0) (hk1 : q.kind = 1) (h12 : (q.ofCount (q.cnt second)).length ≤ 12) :
    Calls Try.prog 11 #[qV q (.slice A n c), .bool second] w fun e w' => ∃ B cap, e = .returned (.slice B (q.ofCount (q.cnt second)).length cap) ∧ RdU w' w'.heap.size B (q.ofCount (q.cnt second)).length (q.ofCount (q.cnt second)) ∧ Below w.heap.size w w' := by
  obtain ⟨w1, HW1, HB1, HK1⟩ := boxed q.kind q.nodes q.one q.two A n c w
  have HRT := Lib.hid (right_any q A n c w1 (hq.up HB1.out))
  have HCN := Lib.hid (fun W => count_any q.kind q.nodes q.one q.two A n c W second)
  have hcn : (if second then q.two else q.one) = q.cnt second := rfl
  rw [hcn] at HCN
  have HOF := Lib.hid (fun W => ofCount_any q (q.cnt second) A n c W hr)
  have hso := cntL_sorted (q.cnt second) (q.all + 1)
  have hof : q.ofCount (q.cnt second) = cntL (q.cnt second) (q.all + 1) := rfl
  rw [← hof] at hso
  rw [hr] at HRT
  unfold qV at *
  generalize q.ofCount (q.cnt second) = r at *
  generalize q.cnt second = m at *
  clear hcn hof hq hr
  obtain ⟨kd, nd, on, tw, l⟩ := q
  dsimp only at *
  subst hk1
  obtain ⟨k0, k1, k2, k3, k4⟩ := HK1.out.cells
  rw [HW1.out] at k0 k1 k2 k3 k4
  have HCells : Hid (∀ W2, Below w1.heap.size w1 W2 → W2.cell? ⟨w.heap.size, 0, none⟩ = some (.int .i64 1) ∧ W2.cell? ⟨w.heap.size, 1, none⟩ = some (.int .i64 nd) ∧ W2.cell? ⟨w.heap.size, 2, none⟩ = some (.int .i64 on) ∧ W2.cell? ⟨w.heap.size, 3, none⟩ = some (.int .i64 tw) ∧ W2.cell? ⟨w.heap.size, 4, none⟩ = some (.slice A n c)) :=
    Lib.hid fun W2 hb => QB.cells 1 nd on tw A n c (HK1.out.below hb HK1.out.lt)
  go_enter Try.func11, Try.ntmps11
  go_wp2_with fail
  rw [← HW1.out]
  refine HRT.out.mono ?_
  rintro e w2 ⟨rfl, hb2⟩
  obtain ⟨j0, j1, j2, j3, j4⟩ := HCells.out w2 hb2
  have HB2 := Lib.hid (below_then HB1.out hb2)
  have HC : Hid (∀ W, Below w2.heap.size w2 W → (W.cell? ⟨w.heap.size, 0, none⟩ = some (.int .i64 1) ∧ W.cell? ⟨w.heap.size, 1, none⟩ = some (.int .i64 nd) ∧ W.cell? ⟨w.heap.size, 2, none⟩ = some (.int .i64 on) ∧ W.cell? ⟨w.heap.size, 3, none⟩ = some (.int .i64 tw) ∧ W.cell? ⟨w.heap.size, 4, none⟩ = some (.slice A n c)) ∧ Below w2.heap.size w2 W) := Lib.hid fun W hb => ⟨HCells.out W (below_then hb2 hb), hb⟩
  clear hb2 k0 k1 k2 k3 k4
  go_wp2_with fail
  go_region_held3 (fun W => (W.cell? ⟨w.heap.size, 0, none⟩ = some (.int .i64 1) ∧ W.cell? ⟨w.heap.size, 1, none⟩ = some (.int .i64 nd) ∧ W.cell? ⟨w.heap.size, 2, none⟩ = some (.int .i64 on) ∧ W.cell? ⟨w.heap.size, 3, none⟩ = some (.int .i64 tw) ∧ W.cell? ⟨w.heap.size, 4, none⟩ = some (.slice A n c)) ∧ Below w2.heap.size w2 W) (first | (refine HC.out _ ?_; (repeat' (first | assumption | exact Below.refl _ _ | exact Nat.le_refl _ | apply Below.drew)); done) | go_keep)
    (first
    | (go_at_call 21; (with_reducible refine (HCN.out _).mono ?_); rintro e W3 ⟨rfl, hb3⟩; have hd3 : Below w2.heap.size w2 W3 := below_then (by (repeat' (first | assumption | exact Below.refl _ _ | apply Below.drew))) hb3; have hk3 := HC.out W3 hd3)
    | (go_at_call 20; (with_reducible refine (HOF.out _).mono ?_); rintro e W4 ⟨v, rfl, ho4, hb4⟩; have hd4 : Below w2.heap.size w2 W4 := below_then (by (repeat' (first | assumption | exact Below.refl _ _ | apply Below.drew))) hb4; have hk4 := HC.out W4 hd4))
  all_goals
    obtain ⟨V, cv, rfl, _⟩ := own_shape ho4
    obtain ⟨_, hrd⟩ := RdU.of_own ho4
    have HRD := Lib.hid hrd
    have HF := Lib.hid (below_then HB2.out hd4)
    have HS := Lib.hid (sort_sorted V r.length cv r W4 h12 hso hrd)
    clear hk3 hk4 hd3 hd4 hb3 hb4 HC HCells j0 j1 j2 j3 j4 ho4 hrd
    go_wp2_with fail
    refine HS.out.mono ?_
    rintro e W5 ⟨rfl, hb5⟩
    have HB5 := Lib.hid hb5
    clear hb5
    go_wp2
    go_ret
    exact ⟨_, _, rfl, HRD.out.up HB5.out, below_then HF.out HB5.out⟩
end Go.Proofs.Ytgkglkcnnebddaa
