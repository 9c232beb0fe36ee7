/- Layer 8: the document's Is. -/
import Derived.Test.YthkkkldkpdkabaaQuRS
namespace Go.Proofs.Ythkkkldkpdkabaa
open Go.RowKit Go.Lib Go.Shelf

section
variable (q : Qm) (hr : q.right = 0)
include hr
theorem Qm.isQ_counts (hk : q.kind = 1) (second : Bool) (s : Nat) : q.isQ second s = decide (q.cnt second ≤ (bitsN q.n s : Int)) := by
  rw [Bool.eq_iff_iff, q.isQ_iff hr, decide_eq_true_iff]
  unfold Qm.IsQ
  constructor
  · rintro (h | h | h)
    · exact h.2
    · exact absurd hk h.1
    · exact absurd hk h.1
  · exact fun h => .inl ⟨hk, h⟩
theorem Qm.isQ_each (hk : q.kind = 3) (s : Nat) : q.isQ false s = true ↔ ∀ i, i < q.n → q.someAt false s i = true := by
  rw [q.isQ_iff hr]
  unfold Qm.IsQ Qm.Meet Qm.someAt
  constructor
  · rintro (h | h | h)
    · omega
    · exact fun i hi => decide_eq_true (h.2.2 i hi)
    · exact absurd ⟨hk, rfl⟩ h.2.1
  · exact fun h => .inr (.inl ⟨by omega, ⟨hk, rfl⟩, fun i hi => of_decide_eq_true (h i hi)⟩)
theorem Qm.isQ_one (hk1 : q.kind ≠ 1) (second : Bool) (h3 : ¬ (q.kind = 3 ∧ second = false)) (s : Nat) : q.isQ second s = true ↔ ∃ i, i < q.n ∧ q.wholeAt second s i = true := by
  rw [q.isQ_iff hr]
  unfold Qm.IsQ Qm.Whole Qm.wholeAt
  constructor
  · rintro (h | h | h)
    · exact absurd h.1 hk1
    · exact absurd h.2.1 h3
    · obtain ⟨i, hi, hw⟩ := h.2.2
      exact ⟨i, hi, decide_eq_true hw⟩
  · rintro ⟨i, hi, hw⟩
    exact .inr (.inr ⟨hk1, h3, i, hi, of_decide_eq_true hw⟩)
end
section
variable (q : Qm) (second : Bool) (s : Nat) (A : Option Addr) (n c : Nat) (w : World) (hq : Qi w q A n c)
include hq
set_option maxRecDepth 100000 in
set_option maxHeartbeats 1000000 in
theorem refIs_bad (hr : q.right ≠ 0) : Calls Try.prog 28 #[qV q (.slice A n c), .bool second, .int .u32 (s : Int)] w fun e w' => e = .returned (.bool false) ∧ Below w.heap.size w w' := by
  obtain ⟨w1, HW1, HB1, HK1⟩ := boxed q.kind q.nodes q.one q.two A n c w
  have HRT := Lib.hid (refRight_any8 q A n c w1 (hq.up HB1.out))
  have HCells : Hid (∀ W2, Below w1.heap.size w1 W2 → _) := Lib.hid fun W2 hb => QB.cells q.kind q.nodes q.one q.two A n c (HK1.out.below hb HK1.out.lt)
  obtain ⟨k0, k1, k2, k3, k4⟩ := HK1.out.cells
  rw [HW1.out] at k0 k1 k2 k3 k4
  unfold qV at *
  clear hq HK1
  generalize q.right = r at *
  go_enter Try.func28, Try.ntmps28
  go_wp2_with fail
  rw [← HW1.out]
  refine HRT.out.mono ?_
  rintro e w2 ⟨rfl, hb2⟩
  have HB12 := Lib.hid hb2
  clear k0 k1 k2 k3 k4
  obtain ⟨j0, j1, j2, j3, j4⟩ := HCells.out w2 hb2
  clear hb2
  have HB2 := Lib.hid (below_then HB1.out HB12.out)
  go_wp2
  go_ret
  exact ⟨rfl, HB2.out⟩
set_option maxRecDepth 100000 in
set_option maxHeartbeats 4000000 in
theorem refIs_counts (hr : q.right = 0) (hk : q.kind = 1) : Calls Try.prog 28 #[qV q (.slice A n c), .bool second, .int .u32 (s : Int)] w fun e w' => e = .returned (.bool (q.isQ second s)) ∧ Below w.heap.size w w' := by
  rw [q.isQ_counts hr hk]
  obtain ⟨w1, HW1, HB1, HK1⟩ := boxed q.kind q.nodes q.one q.two A n c w
  have HRT := Lib.hid (refRight_any8 q A n c w1 (hq.up HB1.out))
  have HCells : Hid (∀ W2, Below w1.heap.size w1 W2 → _) := Lib.hid fun W2 hb => QB.cells q.kind q.nodes q.one q.two A n c (HK1.out.below hb HK1.out.lt)
  obtain ⟨k0, k1, k2, k3, k4⟩ := HK1.out.cells
  rw [HW1.out] at k0 k1 k2 k3 k4
  rw [hr] at HRT
  have hnd := (q.right_cases hr).2.1
  have HCO : Hid (∀ W, Calls Try.prog 54 #[.int .u32 (s : Int), .int .i64 q.nodes] W fun e w' => e = .returned (.int .i64 (bitsN q.n s : Int)) ∧ w' = W) := Lib.hid fun W => (count08_any s q.nodes hnd W).mono fun _ _ h => ⟨h.1, h.2.symm⟩
  generalize bitsN q.n s = b at *
  unfold qV at *
  unfold Qm.cnt
  clear hq HK1 hr
  obtain ⟨kd, nd, on, tw, l⟩ := q
  dsimp only at *
  subst hk
  cases second with
  | true =>
    go_enter Try.func28, Try.ntmps28
    go_wp2_with fail
    rw [← HW1.out]
    refine HRT.out.mono ?_
    rintro e w2 ⟨rfl, hb2⟩
    have HB12 := Lib.hid hb2
    clear k0 k1 k2 k3 k4
    obtain ⟨j0, j1, j2, j3, j4⟩ := HCells.out w2 hb2
    clear hb2
    have HB2 := Lib.hid (below_then HB1.out HB12.out)
    go_wp2_with fail
    go_quiet ((go_at_call 54; exact Calls.quiet_of_same (HCO.out _)))
    go_wp2
    go_ret
    exact ⟨ret_bool (by simp), bel_drewN HB2.out _⟩
  | false =>
    go_enter Try.func28, Try.ntmps28
    go_wp2_with fail
    rw [← HW1.out]
    refine HRT.out.mono ?_
    rintro e w2 ⟨rfl, hb2⟩
    have HB12 := Lib.hid hb2
    clear k0 k1 k2 k3 k4
    obtain ⟨j0, j1, j2, j3, j4⟩ := HCells.out w2 hb2
    clear hb2
    have HB2 := Lib.hid (below_then HB1.out HB12.out)
    go_wp2_with fail
    go_quiet ((go_at_call 54; exact Calls.quiet_of_same (HCO.out _)))
    go_wp2
    go_ret
    exact ⟨ret_bool (by simp), bel_drewN HB2.out _⟩
set_option maxRecDepth 100000 in
set_option maxHeartbeats 4000000 in
theorem refIs_each (hr : q.right = 0) (hk : q.kind = 3) (h2 : second = false) : Calls Try.prog 28 #[qV q (.slice A n c), .bool second, .int .u32 (s : Int)] w fun e w' => e = .returned (.bool (q.isQ second s)) ∧ Below w.heap.size w w' := by
  subst h2
  obtain ⟨w1, HW1, HB1, HK1⟩ := boxed q.kind q.nodes q.one q.two A n c w
  have HRT := Lib.hid (refRight_any8 q A n c w1 (hq.up HB1.out))
  have HCells : Hid (∀ W2, Below w1.heap.size w1 W2 → _) := Lib.hid fun W2 hb => QB.cells q.kind q.nodes q.one q.two A n c (HK1.out.below hb HK1.out.lt)
  obtain ⟨k0, k1, k2, k3, k4⟩ := HK1.out.cells
  rw [HW1.out] at k0 k1 k2 k3 k4
  rw [hr] at HRT
  obtain ⟨hnc, hn12, hn1⟩ := q.n_cast hr
  have hie := q.isQ_each hr hk s
  have HFN : Hid (∀ k, k < q.n → ∀ W, Below w1.heap.size w1 W → Calls Try.prog 55 #[qV q (.slice A n c), .int .u32 (s : Int), .int .i64 (k : Int)] W fun e w' => e = .returned (.bool (q.someAt false s k)) ∧ Below W.heap.size W w') := Lib.hid fun k hk2 W hb => some_any q s k A n c W (hq.up (below_then HB1.out hb)) hr hk hk2
  obtain ⟨F, hF⟩ : ∃ F : Nat → Bool, F = q.someAt false s := ⟨_, rfl⟩
  rw [← hF] at hie HFN
  generalize q.isQ false s = R at *
  have HSTOP : Hid (∀ k, k < q.n → F k = false → R = false) := Lib.hid fun k hk2 hf => by
    rw [Bool.eq_false_iff]; intro e; have := hie.1 e k hk2; rw [hf] at this; cases this
  have HEND : Hid ((∀ j, j < q.n → F j = true) → R = true) := Lib.hid fun h => hie.2 h
  unfold qV at *
  clear hq HK1 hr hF hie
  generalize q.n = N at *
  obtain ⟨kd, nd, on, tw, l⟩ := q
  dsimp only at *
  subst hnc
  subst hk
  go_enter Try.func28, Try.ntmps28
  go_wp2_with fail
  rw [← HW1.out]
  refine HRT.out.mono ?_
  rintro e w2 ⟨rfl, hb2⟩
  have HB12 := Lib.hid hb2
  clear k0 k1 k2 k3 k4
  obtain ⟨j0, j1, j2, j3, j4⟩ := HCells.out w2 hb2
  clear hb2
  go_wp2_with fail
  go_loopg [9] N (fun g j wr => ∃ k : Nat, j = .int .i64 (k : Int) ∧ k + g = N ∧ Hid (Below w1.heap.size w1 wr) ∧ Hid (∀ j, j < k → F j = true))
  case atStart => exact ⟨0, rfl, by omega, HB12, Lib.hid fun j h => absurd h (by omega)⟩
  case round =>
    obtain ⟨k, rfl, hkg, HB, HO⟩ := hrel
    obtain ⟨j0, j1, j2, j3, j4⟩ := HCells.out wr HB.out
    by_cases hk : k < N
    · have hkN : (k : Int) < (N : Int) := by omega
      have HFk := Lib.hid (HFN.out k hk wr HB.out)
      cases hf : F k with
      | false =>
        rw [hf] at HFk
        have HX := Lib.hid hf
        clear hf
        go_wp2_with fail
        refine HFk.out.mono ?_
        rintro e w5 ⟨rfl, hb5⟩
        have HF1 := Lib.hid (below_then HB1.out (below_then HB.out hb5))
        clear hb5
        go_wp2
        go_ret
        exact ⟨ret_bool (HSTOP.out k hk HX.out).symm, HF1.out⟩
      | true =>
        rw [hf] at HFk
        have HX := Lib.hid hf
        clear hf
        go_wp2_with fail
        refine HFk.out.mono ?_
        rintro e w5 ⟨rfl, hb5⟩
        have HF1 := Lib.hid (below_then HB.out hb5)
        clear hb5
        go_wp2
        go_roundg (gk - 1)
        case measure => omega
        case rel => exact ⟨k + 1, by go_num, by omega, HF1, Lib.hid fun j hj => by
          by_cases e : j = k
          · subst e; exact HX.out
          · exact HO.out j (by omega)⟩
    · obtain rfl : k = N := by omega
      have HF1 := Lib.hid (below_then HB1.out HB.out)
      go_wp2
      go_ret
      exact ⟨ret_bool (HEND.out HO.out).symm, HF1.out⟩
set_option maxRecDepth 100000 in
set_option maxHeartbeats 4000000 in
theorem refIs_one (hr : q.right = 0) (hk : q.kind = 2 ∨ (q.kind = 3 ∧ second = true)) : Calls Try.prog 28 #[qV q (.slice A n c), .bool second, .int .u32 (s : Int)] w fun e w' => e = .returned (.bool (q.isQ second s)) ∧ Below w.heap.size w w' := by
  obtain ⟨w1, HW1, HB1, HK1⟩ := boxed q.kind q.nodes q.one q.two A n c w
  have HRT := Lib.hid (refRight_any8 q A n c w1 (hq.up HB1.out))
  have HCells : Hid (∀ W2, Below w1.heap.size w1 W2 → _) := Lib.hid fun W2 hb => QB.cells q.kind q.nodes q.one q.two A n c (HK1.out.below hb HK1.out.lt)
  obtain ⟨k0, k1, k2, k3, k4⟩ := HK1.out.cells
  rw [HW1.out] at k0 k1 k2 k3 k4
  rw [hr] at HRT
  obtain ⟨hnc, hn12, hn1⟩ := q.n_cast hr
  have hk1 : q.kind ≠ 1 := by omega
  have h3 : ¬ (q.kind = 3 ∧ second = false) := by rintro ⟨h, rfl⟩; rcases hk with h2 | ⟨_, h2⟩; omega; cases h2
  have hie := q.isQ_one hr hk1 second h3 s
  have HFN : Hid (∀ k, k < q.n → ∀ W, Below w1.heap.size w1 W → Calls Try.prog 56 #[qV q (.slice A n c), .bool second, .int .u32 (s : Int), .int .i64 (k : Int)] W fun e w' => e = .returned (.bool (q.wholeAt second s k)) ∧ Below W.heap.size W w') := Lib.hid fun k hk2 W hb => qwhole_any q second s k A n c W (hq.up (below_then HB1.out hb)) hr hk1 hk2
  obtain ⟨F, hF⟩ : ∃ F : Nat → Bool, F = q.wholeAt second s := ⟨_, rfl⟩
  rw [← hF] at hie HFN
  generalize q.isQ second s = R at *
  have HSTOP : Hid (∀ k, k < q.n → F k = true → R = true) := Lib.hid fun k hk2 hf => hie.2 ⟨k, hk2, hf⟩
  have HEND : Hid ((∀ j, j < q.n → F j = false) → R = false) := Lib.hid fun h => by
    rw [Bool.eq_false_iff]; intro e; obtain ⟨i, hi, hf⟩ := hie.1 e; rw [h i hi] at hf; cases hf
  unfold qV at *
  clear hq HK1 hr hF hie hk1 h3
  generalize q.n = N at *
  obtain ⟨kd, nd, on, tw, l⟩ := q
  dsimp only at *
  subst hnc
  rcases hk with hk | ⟨hk, h2⟩
  · subst hk
    go_enter Try.func28, Try.ntmps28
    go_wp2_with fail
    rw [← HW1.out]
    refine HRT.out.mono ?_
    rintro e w2 ⟨rfl, hb2⟩
    have HB12 := Lib.hid hb2
    clear k0 k1 k2 k3 k4
    obtain ⟨j0, j1, j2, j3, j4⟩ := HCells.out w2 hb2
    clear hb2
    go_wp2_with fail
    go_loopg [9] N (fun g j wr => ∃ k : Nat, j = .int .i64 (k : Int) ∧ k + g = N ∧ Hid (Below w1.heap.size w1 wr) ∧ Hid (∀ j, j < k → F j = false))
    case atStart => exact ⟨0, rfl, by omega, HB12, Lib.hid fun j h => absurd h (by omega)⟩
    case round =>
      obtain ⟨k, rfl, hkg, HB, HO⟩ := hrel
      obtain ⟨j0, j1, j2, j3, j4⟩ := HCells.out wr HB.out
      by_cases hk : k < N
      · have hkN : (k : Int) < (N : Int) := by omega
        have HFk := Lib.hid (HFN.out k hk wr HB.out)
        cases hf : F k with
        | true =>
          rw [hf] at HFk
          have HX := Lib.hid hf
          clear hf
          go_wp2_with fail
          refine HFk.out.mono ?_
          rintro e w5 ⟨rfl, hb5⟩
          have HF1 := Lib.hid (below_then HB1.out (below_then HB.out hb5))
          clear hb5
          go_wp2
          go_ret
          exact ⟨ret_bool (HSTOP.out k hk HX.out).symm, HF1.out⟩
        | false =>
          rw [hf] at HFk
          have HX := Lib.hid hf
          clear hf
          go_wp2_with fail
          refine HFk.out.mono ?_
          rintro e w5 ⟨rfl, hb5⟩
          have HF1 := Lib.hid (below_then HB.out hb5)
          clear hb5
          go_wp2
          go_roundg (gk - 1)
          case measure => omega
          case rel => exact ⟨k + 1, by go_num, by omega, HF1, Lib.hid fun j hj => by
            by_cases e : j = k
            · subst e; exact HX.out
            · exact HO.out j (by omega)⟩
      · obtain rfl : k = N := by omega
        have HF1 := Lib.hid (below_then HB1.out HB.out)
        go_wp2
        go_ret
        exact ⟨ret_bool (HEND.out HO.out).symm, HF1.out⟩
  · subst hk
    subst h2
    go_enter Try.func28, Try.ntmps28
    go_wp2_with fail
    rw [← HW1.out]
    refine HRT.out.mono ?_
    rintro e w2 ⟨rfl, hb2⟩
    have HB12 := Lib.hid hb2
    clear k0 k1 k2 k3 k4
    obtain ⟨j0, j1, j2, j3, j4⟩ := HCells.out w2 hb2
    clear hb2
    go_wp2_with fail
    go_loopg [9] N (fun g j wr => ∃ k : Nat, j = .int .i64 (k : Int) ∧ k + g = N ∧ Hid (Below w1.heap.size w1 wr) ∧ Hid (∀ j, j < k → F j = false))
    case atStart => exact ⟨0, rfl, by omega, HB12, Lib.hid fun j h => absurd h (by omega)⟩
    case round =>
      obtain ⟨k, rfl, hkg, HB, HO⟩ := hrel
      obtain ⟨j0, j1, j2, j3, j4⟩ := HCells.out wr HB.out
      by_cases hk : k < N
      · have hkN : (k : Int) < (N : Int) := by omega
        have HFk := Lib.hid (HFN.out k hk wr HB.out)
        cases hf : F k with
        | true =>
          rw [hf] at HFk
          have HX := Lib.hid hf
          clear hf
          go_wp2_with fail
          refine HFk.out.mono ?_
          rintro e w5 ⟨rfl, hb5⟩
          have HF1 := Lib.hid (below_then HB1.out (below_then HB.out hb5))
          clear hb5
          go_wp2
          go_ret
          exact ⟨ret_bool (HSTOP.out k hk HX.out).symm, HF1.out⟩
        | false =>
          rw [hf] at HFk
          have HX := Lib.hid hf
          clear hf
          go_wp2_with fail
          refine HFk.out.mono ?_
          rintro e w5 ⟨rfl, hb5⟩
          have HF1 := Lib.hid (below_then HB.out hb5)
          clear hb5
          go_wp2
          go_roundg (gk - 1)
          case measure => omega
          case rel => exact ⟨k + 1, by go_num, by omega, HF1, Lib.hid fun j hj => by
            by_cases e : j = k
            · subst e; exact HX.out
            · exact HO.out j (by omega)⟩
      · obtain rfl : k = N := by omega
        have HF1 := Lib.hid (below_then HB1.out HB.out)
        go_wp2
        go_ret
        exact ⟨ret_bool (HEND.out HO.out).symm, HF1.out⟩
theorem refIs_any : Calls Try.prog 28 #[qV q (.slice A n c), .bool second, .int .u32 (s : Int)] w fun e w' => e = .returned (.bool (q.isQ second s)) ∧ Below w.heap.size w w' := by
  by_cases hr : q.right = 0
  · rcases (q.right_cases hr).2.2 with ⟨h, _⟩ | ⟨h, _⟩ | ⟨h, _⟩
    · exact refIs_counts q second s A n c w hq hr h
    · exact refIs_one q second s A n c w hq hr (.inl h)
    · cases second with
      | false => exact refIs_each q false s A n c w hq hr h rfl
      | true => exact refIs_one q true s A n c w hq hr (.inr ⟨h, rfl⟩)
  · rw [q.isQ_bad hr]
    exact refIs_bad q second s A n c w hq hr
end
end Go.Proofs.Ythkkkldkpdkabaa
