/- Layer 8: quorums of the phases. -/
import Derived.Test.YthkkkldkpdkabaaQuV
namespace Go.Proofs.Ythkkkldkpdkabaa
open Go.RowKit Go.Lib Go.Shelf

/-- A system by its cells. -/
theorem qV_mk (q : Qm) (v : Value) : qV q v = .agg #[.int .i64 q.kind, .int .i64 q.nodes, .int .i64 q.one, .int .i64 q.two, v] := rfl
theorem Qm.n_cast (q : Qm) (h : q.right = 0) : q.nodes = (q.n : Int) ∧ q.n ≤ 12 ∧ 1 ≤ q.n := by
  have := q.right_cases h
  unfold Qm.n
  omega
theorem and_all_lt (q : Qm) (h : q.right = 0) (s : Nat) : s &&& q.all < 4096 := by
  have := q.all_lt (q.n_cast h).2.1
  exact Nat.and_lt_two_pow (n := 12) _ this

set_option maxRecDepth 100000 in
set_option maxHeartbeats 1000000 in
theorem isQuorum_bad (q : Qm) (second : Bool) (s : Nat) (A : Option Addr) (n c : Nat) (w : World) (hq : Qi w q A n c) (hr : q.right ≠ 0) :
    Calls Try.prog 63 #[qV q (.slice A n c), .bool second, .int .u32 (s : Int)] w fun e w' => e = .returned (.bool false) ∧ Below w.heap.size w w' := by
  obtain ⟨w1, HW1, HB1, HK1⟩ := boxed q.kind q.nodes q.one q.two A n c w
  have HRT := Lib.hid (right_any q A n c w1 (hq.up HB1.out))
  unfold qV at *
  obtain ⟨k0, k1, k2, k3, k4⟩ := HK1.out.cells
  rw [HW1.out] at k0 k1 k2 k3 k4
  clear hq
  generalize q.right = r at *
  go_enter Try.func63, Try.ntmps63
  go_wp2_with fail
  rw [← HW1.out]
  refine HRT.out.mono ?_
  rintro e w2 ⟨rfl, hb2⟩
  have HB2 := Lib.hid (below_then HB1.out hb2)
  clear hb2 k0 k1 k2 k3 k4
  go_wp2
  go_ret
  exact ⟨rfl, HB2.out⟩
set_option maxRecDepth 100000 in
set_option maxHeartbeats 4000000 in
theorem isQuorum_counts (q : Qm) (second : Bool) (s : Nat) (hs : s < 4294967296) (A : Option Addr) (n c : Nat) (w : World) (hq : Qi w q A n c) (hr : q.right = 0) (hk1 : q.kind = 1) :
    Calls Try.prog 63 #[qV q (.slice A n c), .bool second, .int .u32 (s : Int)] w fun e w' => e = .returned (.bool (q.isQ' second s)) ∧ Below w.heap.size w w' := by
  have hq' : q.isQ' second s = decide ((if second then q.two else q.one) ≤ (Lib.onesCount (s &&& q.all) : Int)) := by unfold Qm.isQ'; rw [if_pos hk1]; rfl
  rw [hq']
  clear hq'
  obtain ⟨hnc, hn12, hn1⟩ := q.n_cast hr
  have hal := q.all_lt hn12
  have hand := u32_and_nat s q.all hs (by omega)
  have HON := Lib.hid (fun W => ones_any W (s &&& q.all) (and_all_lt q hr s))
  obtain ⟨kd, nd, on, tw, l⟩ := q
  have hk1 : kd = 1 := hk1
  subst hk1
  obtain ⟨w1, HW1, HB1, HK1⟩ := boxed 1 nd on tw A n c w
  have HRT := Lib.hid (right_any ⟨1, nd, on, tw, l⟩ A n c w1 (hq.up HB1.out))
  rw [hr] at HRT
  unfold qV at *
  dsimp only at *
  obtain ⟨k0, k1, k2, k3, k4⟩ := HK1.out.cells
  rw [HW1.out] at k0 k1 k2 k3 k4
  have HCells : Hid (∀ W2, Below w1.heap.size w1 W2 → W2.cell? ⟨w.heap.size, 0, none⟩ = some (.int .i64 1) ∧ W2.cell? ⟨w.heap.size, 1, none⟩ = some (.int .i64 nd) ∧ W2.cell? ⟨w.heap.size, 2, none⟩ = some (.int .i64 on) ∧ W2.cell? ⟨w.heap.size, 3, none⟩ = some (.int .i64 tw) ∧ W2.cell? ⟨w.heap.size, 4, none⟩ = some (.slice A n c)) :=
    Lib.hid fun W2 hb => QB.cells 1 nd on tw A n c (HK1.out.below hb HK1.out.lt)
  have HAL := Lib.hid (fun W => all_any 1 nd on tw A n c W _ hnc hn12)
  have HCN := Lib.hid (fun W => count_any 1 nd on tw A n c W second)
  have hall : 2 ^ (Qm.n ⟨1, nd, on, tw, l⟩) - 1 = Qm.all ⟨1, nd, on, tw, l⟩ := rfl
  rw [hall] at HAL
  obtain ⟨x, hx⟩ : ∃ x, x = (if second then tw else on) := ⟨_, rfl⟩
  rw [← hx] at HCN ⊢
  generalize s &&& (Qm.all ⟨1, nd, on, tw, l⟩) = y at *
  generalize Qm.all ⟨1, nd, on, tw, l⟩ = al at *
  clear hall hal hx hr hq hnc hn12 hn1
  go_enter Try.func63, Try.ntmps63
  go_wp2_with fail
  rw [← HW1.out]
  refine HRT.out.mono ?_
  rintro e w2 ⟨rfl, hb2⟩
  obtain ⟨j0, j1, j2, j3, j4⟩ := HCells.out w2 hb2
  have HB2 := Lib.hid (below_then HB1.out hb2)
  have HC : Hid (∀ W, Below w2.heap.size w2 W → (W.cell? ⟨w.heap.size, 0, none⟩ = some (.int .i64 1) ∧ W.cell? ⟨w.heap.size, 1, none⟩ = some (.int .i64 nd) ∧ W.cell? ⟨w.heap.size, 2, none⟩ = some (.int .i64 on) ∧ W.cell? ⟨w.heap.size, 3, none⟩ = some (.int .i64 tw) ∧ W.cell? ⟨w.heap.size, 4, none⟩ = some (.slice A n c)) ∧ Below w2.heap.size w2 W) := Lib.hid fun W hb => ⟨HCells.out W (below_then hb2 hb), hb⟩
  clear hb2 k0 k1 k2 k3 k4
  go_wp2_with fail
  go_region_held3 (fun W => (W.cell? ⟨w.heap.size, 0, none⟩ = some (.int .i64 1) ∧ W.cell? ⟨w.heap.size, 1, none⟩ = some (.int .i64 nd) ∧ W.cell? ⟨w.heap.size, 2, none⟩ = some (.int .i64 on) ∧ W.cell? ⟨w.heap.size, 3, none⟩ = some (.int .i64 tw) ∧ W.cell? ⟨w.heap.size, 4, none⟩ = some (.slice A n c)) ∧ Below w2.heap.size w2 W) (first | (refine HC.out _ ?_; (repeat' (first | assumption | exact Below.refl _ _ | exact Nat.le_refl _ | apply Below.drew)); done) | go_keep)
    (first
    | (go_at_call 70; (with_reducible refine (HAL.out _).mono ?_); rintro e W3 ⟨rfl, hb3⟩; have hd3 : Below w2.heap.size w2 W3 := below_then (by (repeat' (first | assumption | exact Below.refl _ _ | apply Below.drew))) hb3; have hk3 := HC.out W3 hd3)
    | (go_at_call 71; (with_reducible refine (HCN.out _).mono ?_); rintro e W4 ⟨rfl, hb4⟩; have hd4 : Below w2.heap.size w2 W4 := below_then (by (repeat' (first | assumption | exact Below.refl _ _ | apply Below.drew))) hb4; have hk4 := HC.out W4 hd4)
    | (go_at_call 69; (with_reducible refine (HON.out _).mono ?_); rintro e W5 ⟨rfl, hb5⟩; have hd5 : Below w2.heap.size w2 W5 := below_then (by (repeat' (first | assumption | exact Below.refl _ _ | apply Below.drew))) hb5; have hk5 := HC.out W5 hd5))
  all_goals
    rename_i hH
    obtain ⟨_, hbW⟩ := hH
    have HF := Lib.hid (below_then HB2.out hbW)
    clear hbW hk3 hk4 hk5 hd3 hd4 hd5 hb3 hb4 hb5 HC HCells j0 j1 j2 j3 j4
    go_wp2
    go_ret
    exact ⟨rfl, HF.out⟩
set_option maxRecDepth 100000 in
set_option maxHeartbeats 4000000 in
theorem isQuorum_parts (q : Qm) (second : Bool) (s : Nat) (hs : s < 4294967296) (A : Option Addr) (n c : Nat) (w : World) (hq : Qi w q A n c) (hr : q.right = 0) (hk1 : q.kind ≠ 1) :
    Calls Try.prog 63 #[qV q (.slice A n c), .bool second, .int .u32 (s : Int)] w fun e w' => e = .returned (.bool (q.isQ' second s)) ∧ Below w.heap.size w w' := by
  obtain ⟨hnc, hn12, hn1⟩ := q.n_cast hr
  obtain ⟨w1, HW1, HB1, HK1⟩ := boxed q.kind q.nodes q.one q.two A n c w
  have HRT := Lib.hid (right_any q A n c w1 (hq.up HB1.out))
  rw [hr] at HRT
  have HPO := Lib.hid (fun W (hb : Below w1.heap.size w1 W) => partsOf_any q second A n c W (hq.up (below_then HB1.out hb)) hr hk1)
  have hpl := q.parts_lt second hn12
  have hpn := q.parts_len second
  have HM := Lib.hid (fun b cap W (h : RdU W W.heap.size (some ⟨b, 0, none⟩) (q.parts second).length (q.parts second)) => meetsEach_any s (q.parts second).length cap (some ⟨b, 0, none⟩) (q.parts second) W hs (by omega) (fun x hx => by have := (hpl x hx).1; omega) h)
  have HH := Lib.hid (fun b cap W (h : RdU W W.heap.size (some ⟨b, 0, none⟩) (q.parts second).length (q.parts second)) => hasWhole_any s (q.parts second).length cap (some ⟨b, 0, none⟩) (q.parts second) W hs (by omega) (fun x hx => by have := (hpl x hx).1; omega) h)
  have hq' : q.isQ' second s = if q.kind = 3 ∧ second = false then meetsL s (q.parts second) else wholeL s (q.parts second) := by unfold Qm.isQ'; rw [if_neg hk1]
  rw [hq']
  have hcs : q.kind = 2 ∨ q.kind = 3 := by rcases (q.right_cases hr).2.2 with ⟨h, _⟩ | ⟨h, _⟩ | ⟨h, _⟩ <;> omega
  clear hq' hpl hpn hr hk1 hnc hn12 hn1 hq
  unfold qV at *
  generalize meetsL s (q.parts second) = rm at *
  generalize wholeL s (q.parts second) = rw' at *
  generalize q.parts second = r at *
  obtain ⟨kd, nd, on, tw, l⟩ := q
  dsimp only at *
  obtain ⟨k0, k1, k2, k3, k4⟩ := HK1.out.cells
  rw [HW1.out] at k0 k1 k2 k3 k4
  have HCells : Hid (∀ W2, Below w1.heap.size w1 W2 → W2.cell? ⟨w.heap.size, 0, none⟩ = some (.int .i64 kd) ∧ W2.cell? ⟨w.heap.size, 1, none⟩ = some (.int .i64 nd) ∧ W2.cell? ⟨w.heap.size, 2, none⟩ = some (.int .i64 on) ∧ W2.cell? ⟨w.heap.size, 3, none⟩ = some (.int .i64 tw) ∧ W2.cell? ⟨w.heap.size, 4, none⟩ = some (.slice A n c)) :=
    Lib.hid fun W2 hb => QB.cells kd nd on tw A n c (HK1.out.below hb HK1.out.lt)
  rcases hcs with rfl | rfl
  · rw [if_neg (by simp)]
    go_enter Try.func63, Try.ntmps63
    go_wp2_with fail
    rw [← HW1.out]
    refine HRT.out.mono ?_
    rintro e w2 ⟨rfl, hb2⟩
    obtain ⟨j0, j1, j2, j3, j4⟩ := HCells.out w2 hb2
    have HB12 := Lib.hid hb2
    clear hb2 k0 k1 k2 k3 k4
    go_wp2_with fail
    refine (HPO.out _ HB12.out).mono ?_
    rintro e w3 ⟨b, cap, rfl, _, _, hrd, _, hb3⟩
    have HB3 := Lib.hid (below_then HB1.out (below_then HB12.out hb3))
    have HRD := Lib.hid hrd
    clear hrd hb3
    go_wp2_with fail
    refine (HH.out _ _ _ HRD.out).mono ?_
    rintro e w4 ⟨rfl, rfl⟩
    go_wp2
    go_ret
    exact ⟨rfl, HB3.out⟩
  · cases second with
    | true =>
      rw [if_neg (by simp)]
      go_enter Try.func63, Try.ntmps63
      go_wp2_with fail
      rw [← HW1.out]
      refine HRT.out.mono ?_
      rintro e w2 ⟨rfl, hb2⟩
      obtain ⟨j0, j1, j2, j3, j4⟩ := HCells.out w2 hb2
      have HB12 := Lib.hid hb2
      clear hb2 k0 k1 k2 k3 k4
      go_wp2_with fail
      refine (HPO.out _ HB12.out).mono ?_
      rintro e w3 ⟨b, cap, rfl, _, _, hrd, _, hb3⟩
      have HB3 := Lib.hid (below_then HB1.out (below_then HB12.out hb3))
      have HRD := Lib.hid hrd
      clear hrd hb3
      go_wp2_with fail
      refine (HH.out _ _ _ HRD.out).mono ?_
      rintro e w4 ⟨rfl, rfl⟩
      go_wp2
      go_ret
      exact ⟨rfl, HB3.out⟩
    | false =>
      rw [if_pos (by simp)]
      go_enter Try.func63, Try.ntmps63
      go_wp2_with fail
      rw [← HW1.out]
      refine HRT.out.mono ?_
      rintro e w2 ⟨rfl, hb2⟩
      obtain ⟨j0, j1, j2, j3, j4⟩ := HCells.out w2 hb2
      have HB12 := Lib.hid hb2
      clear hb2 k0 k1 k2 k3 k4
      go_wp2_with fail
      refine (HPO.out _ HB12.out).mono ?_
      rintro e w3 ⟨b, cap, rfl, _, _, hrd, _, hb3⟩
      have HB3 := Lib.hid (below_then HB1.out (below_then HB12.out hb3))
      have HRD := Lib.hid hrd
      clear hrd hb3
      go_wp2_with fail
      refine (HM.out _ _ _ HRD.out).mono ?_
      rintro e w4 ⟨rfl, rfl⟩
      go_wp2
      go_ret
      exact ⟨rfl, HB3.out⟩
theorem isQuorum_any (q : Qm) (second : Bool) (s : Nat) (hs : s < 4294967296) (A : Option Addr) (n c : Nat) (w : World) (hq : Qi w q A n c) :
    Calls Try.prog 63 #[qV q (.slice A n c), .bool second, .int .u32 (s : Int)] w fun e w' => e = .returned (.bool (q.isQ second s)) ∧ Below w.heap.size w w' := by
  unfold Qm.isQ
  split
  · rename_i hr
    by_cases hk : q.kind = 1
    · exact isQuorum_counts q second s hs A n c w hq hr hk
    · exact isQuorum_parts q second s hs A n c w hq hr hk
  · rename_i hr
    exact isQuorum_bad q second s A n c w hq hr
end Go.Proofs.Ythkkkldkpdkabaa
