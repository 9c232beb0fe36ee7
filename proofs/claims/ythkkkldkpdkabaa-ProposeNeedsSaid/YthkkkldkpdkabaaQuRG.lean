/- Layer 8: the document's groups. -/
import Derived.Test.YthkkkldkpdkabaaQuRR
namespace Go.Proofs.Ythkkkldkpdkabaa
open Go.RowKit Go.Lib Go.Shelf

set_option maxRecDepth 100000 in
set_option maxHeartbeats 1000000 in
theorem group_any (q : Qm) (second : Bool) (i : Nat) (A : Option Addr) (n c : Nat) (w : World) (hq : Qi w q A n c) (hr : q.right = 0) (hk : q.kind ≠ 1) (hi : i < q.n) :
    Calls Try.prog 65 #[qV q (.slice A n c), .bool second, .int .i64 (i : Int)] w fun e w' => e = .returned (.int .i64 (q.part second i : Int)) ∧ Below w.heap.size w w' := by
  have hlt := q.part_lt hr second i hi hk
  obtain ⟨hn1, hn2, hcs⟩ := q.right_cases hr
  clear hr
  obtain ⟨kd, nd, on, tw, l⟩ := q
  obtain ⟨_, _, _, _, hcap, hrd⟩ := hq
  dsimp only at hcap hrd hk hn1 hn2 hcs
  unfold qV
  unfold Qm.part at *
  unfold Qm.n at hi
  dsimp only at *
  obtain ⟨w1, HW1, HB1, HK1⟩ := boxed kd nd on tw A n c w
  have hr1 := hrd.up HB1.out
  obtain ⟨k0, k1, k2, k3, k4⟩ := HK1.out.cells
  rw [HW1.out] at k0 k1 k2 k3 k4
  by_cases hk3 : kd = 3
  · rw [if_pos hk3]
    obtain ⟨hln, hall⟩ : (l.length : Int) = nd ∧ ∀ x ∈ l, 0 ≤ x ∧ x < 12 := by
      rcases hcs with ⟨h, _⟩ | ⟨h, _⟩ | ⟨_, h⟩
      · omega
      · omega
      · exact h
    have hil : i < l.length := by omega
    obtain ⟨b, o, rfl, hb, hc⟩ := hr1.2.2 (by have := hr1.1; omega)
    have hcell := hc i hil
    rw [HW1.out] at hcell
    have hx := hall l[i] (List.getElem_mem hil)
    have hg : ((l.getD i 0).toNat : Int) = l[i] := by
      simp only [List.getD, List.getElem?_eq_getElem hil, Option.getD_some]
      omega
    rw [hg]
    generalize l[i] = x at hcell ⊢
    have hin : (i : Int) < (n : Int) := by have := hr1.1; omega
    clear hc hr1 hrd hcap hall hg hlt hcs hln hx
    subst hk3
    go_enter Try.func65, Try.ntmps65
    go_wp2
    go_ret
    rw [← HW1.out]
    exact ⟨rfl, HB1.out⟩
  · rw [if_neg hk3]
    have hk2 : kd = 2 := by
      rcases hcs with ⟨h, _⟩ | ⟨h, _⟩ | ⟨h, _⟩
      · exact absurd h hk
      · exact h
      · exact absurd h hk3
    have htw : 1 ≤ tw ∧ tw ≤ 12 := by
      rcases hcs with ⟨h, _⟩ | ⟨_, h1, h2, h3, h4, _⟩ | ⟨h, _⟩ <;> omega
    obtain ⟨t, rfl⟩ := Int.eq_ofNat_of_zero_le (show 0 ≤ tw by omega)
    rw [if_neg hk3] at hlt
    have ht0 : 0 < t := by omega
    have i12 : i < 12 := by omega
    clear hr1 hrd hcap hcs hk hi hk2
    cases second with
    | true =>
      have e : ((i : Int).tmod (t : Int)) = ((i % t : Nat) : Int) := (Int.ofNat_tmod i t).symm
      simp only [↓reduceIte, Int.toNat_natCast] at *
      go_enter Try.func65, Try.ntmps65
      go_wp2
      go_ret
      rw [← HW1.out]
      exact ⟨ret_i64 (by first | omega | simp), HB1.out⟩
    | false =>
      have hd : i / t < 12 := by have := Nat.div_le_self i t; generalize i / t = z at *; omega
      have e : wrap64 ((i : Int) / (t : Int)) = ((i / t : Nat) : Int) := by
        rw [show ((i : Int) / (t : Int)) = ((i / t : Nat) : Int) by simp]
        generalize i / t = z at hd ⊢
        unfold wrap64
        omega
      have E := Lib.hid e
      clear e hd
      simp only [Bool.false_eq_true, ↓reduceIte, Int.toNat_natCast] at *
      go_enter Try.func65, Try.ntmps65
      go_wp2
      go_ret
      rw [← HW1.out]
      exact ⟨ret_i64 E.out, HB1.out⟩

/-- All nodes of the part of i are in the set; one of them is. -/
def Qm.wholeAt (q : Qm) (second : Bool) (s i : Nat) : Bool := decide (∀ k, k < q.n → q.part second k = q.part second i → s.testBit k = true)
def Qm.someAt (q : Qm) (second : Bool) (s i : Nat) : Bool := decide (∃ k, k < q.n ∧ q.part second k = q.part second i ∧ s.testBit k = true)
set_option maxRecDepth 100000 in
set_option maxHeartbeats 4000000 in
theorem qwhole_any (q : Qm) (second : Bool) (s i : Nat) (A : Option Addr) (n c : Nat) (w : World) (hq : Qi w q A n c) (hr : q.right = 0) (hk : q.kind ≠ 1) (hi : i < q.n) :
    Calls Try.prog 56 #[qV q (.slice A n c), .bool second, .int .u32 (s : Int), .int .i64 (i : Int)] w fun e w' => e = .returned (.bool (q.wholeAt second s i)) ∧ Below w.heap.size w w' := by
  obtain ⟨hnc, hn12, hn1⟩ := q.n_cast hr
  obtain ⟨w1, HW1, HB1, HK1⟩ := boxed q.kind q.nodes q.one q.two A n c w
  have HGR : Hid (∀ k, k < q.n → ∀ W, Below w1.heap.size w1 W → Calls Try.prog 65 #[qV q (.slice A n c), .bool second, .int .i64 (k : Int)] W fun e w' => e = .returned (.int .i64 (q.part second k : Int)) ∧ Below W.heap.size W w') := Lib.hid fun k hk2 W hb => group_any q second k A n c W (hq.up (below_then HB1.out hb)) hr hk hk2
  have HCells : Hid (∀ W2, Below w1.heap.size w1 W2 → _) := Lib.hid fun W2 hb => QB.cells q.kind q.nodes q.one q.two A n c (HK1.out.below hb HK1.out.lt)
  obtain ⟨R, hR⟩ : ∃ R, R = q.wholeAt second s i := ⟨_, rfl⟩
  rw [← hR]
  unfold Qm.wholeAt at hR
  have HR := Lib.hid hR
  clear hR hq hr hk HK1
  obtain ⟨P, hP⟩ : ∃ P : Nat → Nat, P = q.part second := ⟨_, rfl⟩
  rw [← hP] at HGR HR
  unfold qV at *
  generalize q.n = N at *
  obtain ⟨kd, nd, on, tw, l⟩ := q
  dsimp only at *
  subst hnc
  clear hP
  obtain ⟨k0, k1, k2, k3, k4⟩ := HCells.out w1 (Below.refl _ _)
  rw [HW1.out] at k0 k1 k2 k3 k4
  go_enter Try.func56, Try.ntmps56
  go_wp2_with fail
  rw [← HW1.out] at k0 k1 k2 k3 k4 ⊢
  go_loopg [9] N (fun g j wr => ∃ k : Nat, j = .int .i64 (k : Int) ∧ k + g = N ∧ Hid (Below w1.heap.size w1 wr) ∧ Hid (∀ j, j < k → P j = P i → s.testBit j = true))
  case atStart => exact ⟨0, rfl, by omega, Lib.hid (Below.refl _ _), Lib.hid fun j h => absurd h (by omega)⟩
  case round =>
    obtain ⟨k, rfl, hkg, HB, HO⟩ := hrel
    obtain ⟨j0, j1, j2, j3, j4⟩ := HCells.out wr HB.out
    by_cases hk : k < N
    · have hkN : (k : Int) < (N : Int) := by omega
      have HGk := Lib.hid (fun W (hb : Below wr.heap.size wr W) => HGR.out k hk W (below_then HB.out hb))
      have HGi := Lib.hid (fun W (hb : Below wr.heap.size wr W) => HGR.out i hi W (below_then HB.out hb))
      have HH := Lib.hid (fun W => has_any s k (by omega) W)
      have HC : Hid (∀ W, Below wr.heap.size wr W → (W.cell? ⟨w.heap.size, 0, none⟩ = some (.int .i64 kd) ∧ W.cell? ⟨w.heap.size, 1, none⟩ = some (.int .i64 (N : Int)) ∧ W.cell? ⟨w.heap.size, 2, none⟩ = some (.int .i64 on) ∧ W.cell? ⟨w.heap.size, 3, none⟩ = some (.int .i64 tw) ∧ W.cell? ⟨w.heap.size, 4, none⟩ = some (.slice A n c)) ∧ Below wr.heap.size wr W) := Lib.hid fun W hb => ⟨HCells.out W (below_then HB.out hb), hb⟩
      clear k0 k1 k2 k3 k4
      by_cases hp : P k = P i
      · rw [hp] at HGk
        have HP := Lib.hid hp
        clear hp
        generalize P i = x at *
        cases hb : s.testBit k with
        | true =>
          rw [hb] at HH
          have HT := Lib.hid hb
          clear hb
          go_wp2_with fail
          go_region_held3 (fun W => (W.cell? ⟨w.heap.size, 0, none⟩ = some (.int .i64 kd) ∧ W.cell? ⟨w.heap.size, 1, none⟩ = some (.int .i64 (N : Int)) ∧ W.cell? ⟨w.heap.size, 2, none⟩ = some (.int .i64 on) ∧ W.cell? ⟨w.heap.size, 3, none⟩ = some (.int .i64 tw) ∧ W.cell? ⟨w.heap.size, 4, none⟩ = some (.slice A n c)) ∧ Below wr.heap.size wr W) (first | (refine HC.out _ ?_; (repeat' (first | assumption | exact Below.refl _ _ | exact Nat.le_refl _ | apply Below.drew)); done) | go_keep)
            (first
              | (go_at_call 65; (with_reducible refine (HGk.out _ (by (repeat' (first | assumption | exact Below.refl _ _ | apply Below.drew)))).mono ?_); rintro e V1 ⟨rfl, hv1⟩; have hd1 : Below wr.heap.size wr V1 := below_then (by (repeat' (first | assumption | exact Below.refl _ _ | apply Below.drew))) hv1; have hk1 := HC.out V1 hd1)
              | (go_at_call 65; (with_reducible refine (HGi.out _ (by (repeat' (first | assumption | exact Below.refl _ _ | apply Below.drew)))).mono ?_); rintro e V2 ⟨rfl, hv2⟩; have hd2 : Below wr.heap.size wr V2 := below_then (by (repeat' (first | assumption | exact Below.refl _ _ | apply Below.drew))) hv2; have hk2 := HC.out V2 hd2)
              | (go_at_call 23; (refine (HH.out _).mono ?_); rintro e V3 ⟨rfl, hv3⟩; subst hv3))
          all_goals
            rename_i hH
            obtain ⟨_, hbW⟩ := hH
            have HF := Lib.hid (below_then HB.out hbW)
            have HF1 := Lib.hid (below_then HB1.out HF.out)
            clear hbW HC hk1 hk2 hd1 hd2 hv1 hv2
            go_wp2
            go_roundg (gk - 1)
            case measure => omega
            case rel => exact ⟨k + 1, by go_num, by omega, HF, Lib.hid fun j hj hpj => by
              by_cases e : j = k
              · subst e; exact HT.out
              · exact HO.out j (by omega) hpj⟩
        | false =>
          rw [hb] at HH
          have HT := Lib.hid hb
          clear hb
          go_wp2_with fail
          go_region_held3 (fun W => (W.cell? ⟨w.heap.size, 0, none⟩ = some (.int .i64 kd) ∧ W.cell? ⟨w.heap.size, 1, none⟩ = some (.int .i64 (N : Int)) ∧ W.cell? ⟨w.heap.size, 2, none⟩ = some (.int .i64 on) ∧ W.cell? ⟨w.heap.size, 3, none⟩ = some (.int .i64 tw) ∧ W.cell? ⟨w.heap.size, 4, none⟩ = some (.slice A n c)) ∧ Below wr.heap.size wr W) (first | (refine HC.out _ ?_; (repeat' (first | assumption | exact Below.refl _ _ | exact Nat.le_refl _ | apply Below.drew)); done) | go_keep)
            (first
              | (go_at_call 65; (with_reducible refine (HGk.out _ (by (repeat' (first | assumption | exact Below.refl _ _ | apply Below.drew)))).mono ?_); rintro e V1 ⟨rfl, hv1⟩; have hd1 : Below wr.heap.size wr V1 := below_then (by (repeat' (first | assumption | exact Below.refl _ _ | apply Below.drew))) hv1; have hk1 := HC.out V1 hd1)
              | (go_at_call 65; (with_reducible refine (HGi.out _ (by (repeat' (first | assumption | exact Below.refl _ _ | apply Below.drew)))).mono ?_); rintro e V2 ⟨rfl, hv2⟩; have hd2 : Below wr.heap.size wr V2 := below_then (by (repeat' (first | assumption | exact Below.refl _ _ | apply Below.drew))) hv2; have hk2 := HC.out V2 hd2)
              | (go_at_call 23; (refine (HH.out _).mono ?_); rintro e V3 ⟨rfl, hv3⟩; subst hv3))
          all_goals
            rename_i hH
            obtain ⟨_, hbW⟩ := hH
            have HF := Lib.hid (below_then HB.out hbW)
            have HF1 := Lib.hid (below_then HB1.out HF.out)
            clear hbW HC hk1 hk2 hd1 hd2 hv1 hv2
            go_wp2
            go_ret
            refine ⟨ret_bool ?_, HF1.out⟩
            rw [HR.out, decide_eq_false]
            intro e
            have := e k hk HP.out
            rw [HT.out] at this
            cases this
      · have hpi : ¬ (P k : Int) = (P i : Int) := by omega
        have HP := Lib.hid hp
        clear hp
        obtain ⟨x, hx⟩ : ∃ x : Int, x = (P i : Int) := ⟨_, rfl⟩
        obtain ⟨y, hy⟩ : ∃ y : Int, y = (P k : Int) := ⟨_, rfl⟩
        rw [← hy] at HGk hpi
        rw [← hx] at HGi hpi
        have hpb : (y == x) = false := by rw [beq_eq_false_iff_ne]; exact hpi
        have hpd : decide (y = x) = false := decide_eq_false hpi
        clear hy hx
        go_wp2_with fail
        first
        | (go_region_law (go_simp; first
            | (go_at_call 65; (with_reducible refine (HGk.out _ (by (repeat' (first | assumption | exact Below.refl _ _ | apply Below.drew)))).mono ?_); rintro e V1 ⟨rfl, hv1⟩; have hd1 : Below wr.heap.size wr V1 := below_then (by (repeat' (first | assumption | exact Below.refl _ _ | apply Below.drew))) hv1; obtain ⟨⟨c0, c1, c2, c3, c4⟩, _⟩ := HC.out V1 hd1)
            | (go_at_call 65; (with_reducible refine (HGi.out _ (by (repeat' (first | assumption | exact Below.refl _ _ | apply Below.drew)))).mono ?_); rintro e V2 ⟨rfl, hv2⟩; have hd2 : Below wr.heap.size wr V2 := below_then (by (repeat' (first | assumption | exact Below.refl _ _ | apply Below.drew))) hv2; obtain ⟨⟨d0, d1, d2, d3, d4⟩, _⟩ := HC.out V2 hd2)))
        | fail
        all_goals
          have HF := Lib.hid (below_then HB.out hd2)
          have HF1 := Lib.hid (below_then HB1.out HF.out)
          clear HC hd1 hd2 hv1 hv2
          go_wp2
          go_roundg (gk - 1)
          case measure => omega
          case rel => exact ⟨k + 1, by go_num, by omega, HF, Lib.hid fun j hj hpj => by
            by_cases e : j = k
            · subst e; exact absurd hpj HP.out
            · exact HO.out j (by omega) hpj⟩
    · obtain rfl : k = N := by omega
      have HF1 := Lib.hid (below_then HB1.out HB.out)
      go_wp2
      go_ret
      exact ⟨ret_bool (by rw [HR.out, decide_eq_true fun j hj hpj => HO.out j hj hpj]), HF1.out⟩
end Go.Proofs.Ythkkkldkpdkabaa
