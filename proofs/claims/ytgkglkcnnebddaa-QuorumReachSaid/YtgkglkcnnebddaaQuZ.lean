/- Layer 8: Reach. -/
import Derived.Test.YtgkglkcnnebddaaQuY
namespace Go.Proofs.Ytgkglkcnnebddaa
open Go.RowKit Go.Lib Go.Shelf

theorem RdU.of_own {w : World} {base n c : Nat} {A : Option Addr} {l : List Nat} (h : w.ownsRow base 29 1 (.slice A n c) l.length (u32s l)) : n = l.length ∧ RdU w w.heap.size A n l := by
  rcases h.2 with ⟨e, h0⟩ | ⟨g, cap, cur, e, h1, h2, h3, h4, h5, h6⟩
  · obtain ⟨rfl, rfl, rfl⟩ : A = none ∧ n = 0 ∧ c = 0 := by simpa using e
    have : l = [] := List.eq_nil_of_length_eq_zero h0
    subst this
    exact ⟨rfl, RdU.nil _ _ _⟩
  · obtain ⟨rfl, rfl, rfl⟩ : A = some ⟨g, 0, none⟩ ∧ n = l.length ∧ c = cap := by simpa using e
    refine ⟨rfl, rfl, fun _ => ⟨g, 0, rfl, (h.lt g rfl).2, fun j hj => ?_⟩⟩
    have := h.cellAt j (by omega)
    rw [Nat.zero_add, this]
    unfold u32s
    rw [List.getElem?_map, List.getElem?_eq_getElem hj]
    rfl
set_option maxRecDepth 100000 in
set_option maxHeartbeats 4000000 in
theorem reach_any (q : Qm) (more : Int) (A : Option Addr) (n c : Nat) (w : World) (hq : Qi w q A n c) :
    Calls Try.prog 13 #[qV q (.slice A n c), .int .i64 more] w fun e w' => e = .returned (.int .i64 (q.reach more)) ∧ Below w.heap.size w w' := by
  obtain ⟨w1, HW1, HB1, HK1⟩ := boxed q.kind q.nodes q.one q.two A n c w
  have HRT := Lib.hid (right_any q A n c w1 (hq.up HB1.out))
  obtain ⟨k0, k1, k2, k3, k4⟩ := HK1.out.cells
  rw [HW1.out] at k0 k1 k2 k3 k4
  by_cases hr : q.right = 0
  · by_cases hm : more < 0
    · have hx : q.reach more = 2 := by unfold Qm.reach; rw [if_neg (by simp [hr]), if_pos hm]
      rw [hx]
      rw [hr] at HRT
      unfold qV at *
      clear hx hr hq
      go_enter Try.func13, Try.ntmps13
      go_wp2_with fail
      rw [← HW1.out]
      refine HRT.out.mono ?_
      rintro e w2 ⟨rfl, hb2⟩
      have HB2 := Lib.hid (below_then HB1.out hb2)
      clear hb2 k0 k1 k2 k3 k4
      go_wp2
      go_ret
      exact ⟨rfl, HB2.out⟩
    · have hx : q.reach more = if (q.ofCount (min more q.nodes)).all (fun g => q.can (q.all &&& (4294967295 - g))) then 0 else 4 := by unfold Qm.reach; rw [if_neg (by simp [hr]), if_neg hm]
      have hlm : (q.ofCount (min more q.nodes)).length ≤ 4096 := by
        have h1 := cntL_len (min more q.nodes) (q.all + 1)
        have h2 := q.all_lt (q.n_cast hr).2.1
        exact Nat.le_trans h1 (by omega)
      obtain ⟨RR, hRR⟩ : ∃ R, R = q.reach more := ⟨_, rfl⟩
      rw [← hRR]
      rw [hx] at hRR
      rw [hr] at HRT
      have HCells : Hid (∀ W2, Below w1.heap.size w1 W2 → _) := Lib.hid fun W2 hb => QB.cells q.kind q.nodes q.one q.two A n c (HK1.out.below hb HK1.out.lt)
      have HOF := Lib.hid (fun W => ofCount_any q (min more q.nodes) A n c W hr)
      unfold qV at *
      go_enter Try.func13, Try.ntmps13
      go_wp2_with fail
      rw [← HW1.out]
      refine HRT.out.mono ?_
      rintro e w2 ⟨rfl, hb2⟩
      obtain ⟨j0, j1, j2, j3, j4⟩ := HCells.out w2 hb2
      have HB2 := Lib.hid (below_then HB1.out hb2)
      have HB12 := Lib.hid hb2
      clear hb2 k0 k1 k2 k3 k4
      go_wp2_with fail
      refine (HOF.out _).mono ?_
      rintro e w3 ⟨v, rfl, ho, hb3⟩
      obtain ⟨V, cv, rfl, _⟩ := own_shape ho
      obtain ⟨_, hrd⟩ := RdU.of_own ho
      have HRD := Lib.hid hrd
      have HB13 := Lib.hid (below_then HB12.out hb3)
      clear hb3 ho hrd j0 j1 j2 j3 j4
      have hrl : ∀ x ∈ q.ofCount (min more q.nodes), x < 4096 := fun x hx => by
        have h1 := (List.mem_filter.1 hx).1
        rw [List.mem_range] at h1
        have h2 := q.all_lt (q.n_cast hr).2.1
        omega
      have HRL := Lib.hid hrl
      generalize q.ofCount (min more q.nodes) = r at *
      have HRR := Lib.hid hRR
      have HQ := Lib.hid hq
      have HAll := Lib.hid (q.all_lt (q.n_cast hr).2.1)
      obtain ⟨hnc, hn12, hn1⟩ := q.n_cast hr
      have HAL : Hid (∀ W, Calls Try.prog 28 #[aggQ q.kind q.nodes q.one q.two A n c] W fun e w' => e = .returned (.int .u32 (q.all : Int)) ∧ Below W.heap.size W w') := Lib.hid (fun W => all_any q.kind q.nodes q.one q.two A n c W _ hnc hn12)
      clear hnc hn12 hn1 hrl hq hx hr HOF HRT hRR
      obtain ⟨m, hm2⟩ : ∃ m, m = r.length := ⟨_, rfl⟩
      rw [← hm2] at HRD hlm ⊢
      have HM2 := Lib.hid hm2
      clear hm2
      go_wp2_with fail
      go_loopg [22] m (fun g i wr => ∃ k : Nat, i = .int .i64 (k : Int) ∧ k + g = m ∧ Hid (Below w3.heap.size w3 wr ∧ ∀ j (hj : j < r.length), j < k → q.can (q.all &&& (4294967295 - r[j])) = true))
      case atStart => exact ⟨0, rfl, by omega, Lib.hid ⟨Below.refl _ _, fun j _ h => absurd h (by omega)⟩⟩
      case round =>
        obtain ⟨k, rfl, hkg, HH⟩ := hrel
        by_cases hkm : k < m
        · have hkl : k < r.length := by rw [← HM2.out]; exact hkm
          obtain ⟨b, o, rfl, hb, hc⟩ := HRD.out.2 (by omega)
          have hcell := (HH.out.1.cell (p := ⟨b, o + k, none⟩) hb).trans (hc k hkl)
          have hx := HRL.out r[k] (List.getElem_mem hkl)
          have hand := u32_andNot_nat q.all r[k] (by have := HAll.out; omega) (by omega)
          have hcan : ∀ W, Below w.heap.size w W → Calls Try.prog 19 #[aggQ q.kind q.nodes q.one q.two A n c, .int .u32 ((q.all &&& (4294967295 - r[k]) : Nat) : Int)] W fun e w' => e = .returned (.bool (q.can (q.all &&& (4294967295 - r[k])))) ∧ Below W.heap.size W w' :=
            fun W hb => can_any q _ (Nat.and_lt_two_pow (n := 32) _ (by omega)) A n c W (HQ.out.up hb)
          have HCA := Lib.hid hcan
          obtain ⟨z, hz⟩ : ∃ z, z = q.can (q.all &&& (4294967295 - r[k])) := ⟨_, rfl⟩
          rw [← hz] at HCA
          have HZ := Lib.hid hz
          generalize hy : q.all &&& (4294967295 - r[k]) = y at hand HCA
          generalize r[k] = x at hcell hand
          generalize q.all = al at HAL hand
          have hkn' : (k : Int) < (m : Int) := by omega
          have HB := Lib.hid (below_then HB1.out (below_then HB13.out HH.out.1))
          have HB1r := Lib.hid (below_then HB13.out HH.out.1)
          obtain ⟨j0, j1, j2, j3, j4⟩ := HCells.out wr HB1r.out
          have HC : Hid (∀ W, Below wr.heap.size wr W → (W.cell? ⟨w.heap.size, 0, none⟩ = some (.int .i64 q.kind) ∧ W.cell? ⟨w.heap.size, 1, none⟩ = some (.int .i64 q.nodes) ∧ W.cell? ⟨w.heap.size, 2, none⟩ = some (.int .i64 q.one) ∧ W.cell? ⟨w.heap.size, 3, none⟩ = some (.int .i64 q.two) ∧ W.cell? ⟨w.heap.size, 4, none⟩ = some (.slice A n c)) ∧ Below wr.heap.size wr W) := Lib.hid fun W hb => ⟨HCells.out W (below_then HB1r.out hb), hb⟩
          clear hc hb hx hcan hz hy
          cases z with
          | false =>
            go_wp2_with fail
            go_region_held3 (fun W => (W.cell? ⟨w.heap.size, 0, none⟩ = some (.int .i64 q.kind) ∧ W.cell? ⟨w.heap.size, 1, none⟩ = some (.int .i64 q.nodes) ∧ W.cell? ⟨w.heap.size, 2, none⟩ = some (.int .i64 q.one) ∧ W.cell? ⟨w.heap.size, 3, none⟩ = some (.int .i64 q.two) ∧ W.cell? ⟨w.heap.size, 4, none⟩ = some (.slice A n c)) ∧ Below wr.heap.size wr W) (first | (refine HC.out _ ?_; (repeat' (first | assumption | exact Below.refl _ _ | exact Nat.le_refl _ | apply Below.drew)); done) | go_keep)
              (first
              | (go_at_call 28; (with_reducible refine (HAL.out _).mono ?_); rintro e W4 ⟨rfl, hb4⟩; have hd4 : Below wr.heap.size wr W4 := below_then (by (repeat' (first | assumption | exact Below.refl _ _ | apply Below.drew))) hb4; have hk4 := HC.out W4 hd4)
              | (go_at_call 19; (with_reducible refine (HCA.out _ ?_).mono ?_); (refine below_then HB.out ?_; (repeat' (first | assumption | exact Below.refl _ _ | apply Below.drew))); rintro e W5 ⟨rfl, hb5⟩; have hd5 : Below wr.heap.size wr W5 := below_then (by (repeat' (first | assumption | exact Below.refl _ _ | apply Below.drew))) hb5; have hk5 := HC.out W5 hd5))
            all_goals
              rename_i hH
              obtain ⟨_, hbW⟩ := hH
              have HF := Lib.hid (below_then HB.out hbW)
              clear hbW hk4 hk5 hd4 hd5 hb4 hb5 HC HCells j0 j1 j2 j3 j4
              go_wp2
              go_ret
              refine ⟨ret_i64 ?_, HF.out⟩
              rw [HRR.out, if_neg]
              intro e
              have := (List.all_eq_true.1 e) r[k] (List.getElem_mem hkl)
              rw [← HZ.out] at this
              cases this
          | true =>
            go_wp2_with fail
            go_region_held3 (fun W => (W.cell? ⟨w.heap.size, 0, none⟩ = some (.int .i64 q.kind) ∧ W.cell? ⟨w.heap.size, 1, none⟩ = some (.int .i64 q.nodes) ∧ W.cell? ⟨w.heap.size, 2, none⟩ = some (.int .i64 q.one) ∧ W.cell? ⟨w.heap.size, 3, none⟩ = some (.int .i64 q.two) ∧ W.cell? ⟨w.heap.size, 4, none⟩ = some (.slice A n c)) ∧ Below wr.heap.size wr W) (first | (refine HC.out _ ?_; (repeat' (first | assumption | exact Below.refl _ _ | exact Nat.le_refl _ | apply Below.drew)); done) | go_keep)
              (first
              | (go_at_call 28; (with_reducible refine (HAL.out _).mono ?_); rintro e W4 ⟨rfl, hb4⟩; have hd4 : Below wr.heap.size wr W4 := below_then (by (repeat' (first | assumption | exact Below.refl _ _ | apply Below.drew))) hb4; have hk4 := HC.out W4 hd4)
              | (go_at_call 19; (with_reducible refine (HCA.out _ ?_).mono ?_); (refine below_then HB.out ?_; (repeat' (first | assumption | exact Below.refl _ _ | apply Below.drew))); rintro e W5 ⟨rfl, hb5⟩; have hd5 : Below wr.heap.size wr W5 := below_then (by (repeat' (first | assumption | exact Below.refl _ _ | apply Below.drew))) hb5; have hk5 := HC.out W5 hd5))
            all_goals
              rename_i hH
              obtain ⟨_, hbW⟩ := hH
              have HF := Lib.hid (below_then HH.out.1 hbW)
              clear hbW hk4 hk5 hd4 hd5 hb4 hb5 HC HCells j0 j1 j2 j3 j4
              go_wp2
              go_roundg (gk - 1)
              case rel => exact ⟨k + 1, by go_num, by omega, Lib.hid ⟨HF.out, fun j hj hjk => by
                by_cases e : j = k
                · subst e; exact HZ.out.symm
                · exact HH.out.2 j hj (by omega)⟩⟩
              case measure => omega
        · obtain rfl : k = m := by omega
          have HB := Lib.hid (below_then HB1.out (below_then HB13.out HH.out.1))
          go_wp2
          go_ret
          refine ⟨ret_i64 ?_, HB.out⟩
          rw [HRR.out, if_pos]
          exact all_upto fun j hj => HH.out.2 j hj (by rw [HM2.out]; exact hj)
  · have hx : q.reach more = q.right := by unfold Qm.reach; rw [if_pos hr]
    rw [hx]
    unfold qV at *
    clear hx hq
    generalize q.right = r at *
    go_enter Try.func13, Try.ntmps13
    go_wp2_with fail
    rw [← HW1.out]
    refine HRT.out.mono ?_
    rintro e w2 ⟨rfl, hb2⟩
    have HB2 := Lib.hid (below_then HB1.out hb2)
    clear hb2 k0 k1 k2 k3 k4
    go_wp2
    go_ret
    exact ⟨rfl, HB2.out⟩
end Go.Proofs.Ytgkglkcnnebddaa
