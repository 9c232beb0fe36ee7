/- Layer 8: the document's Reach. -/
import Derived.Test.YtgkglkcnnebddaaQuRI
namespace Go.Proofs.Ytgkglkcnnebddaa
open Go.RowKit Go.Lib Go.Shelf

theorem bits_compl {n x y : Nat} (h : ∀ i, i < n → y.testBit i = !(x.testBit i)) : bitsN n x + bitsN n y = n := by
  induction n with
  | zero => rfl
  | succ n ih =>
    have ih := ih fun i hi => h i (by omega)
    have hn := h n (by omega)
    show bitsN n x + (if x.testBit n = true then 1 else 0) + (bitsN n y + (if y.testBit n = true then 1 else 0)) = n + 1
    rw [hn]
    cases x.testBit n <;> simp <;> omega
theorem left_lt (q : Qm) (g : Nat) : q.all &&& g < 2 ^ q.n := Nat.lt_of_le_of_lt Nat.and_le_left (by unfold Qm.all; have := Nat.two_pow_pos q.n; omega)
/-- By the sets that are left. -/
theorem Qm.reach_sets (q : Qm) (hr : q.right = 0) (m : Int) (hm : 0 ≤ m) : q.reach m = 0 ↔ ∀ s, s < 2 ^ q.n → (bitsN q.n s : Int) = q.nodes - min m q.nodes → q.can s = true := by
  obtain ⟨hc, hn⟩ := q.n_cast' hr
  have h12 : 2 ^ q.n ≤ 2 ^ 12 := Nat.pow_le_pow_right (by decide) hn
  rw [q.reach_zero hr m hm]
  constructor
  · intro h s hs hb
    have hco := bits_compl (n := q.n) (x := s) (y := q.all &&& (4294967295 - s)) fun i hi => left_bit q hn s i (by omega) hi
    have hlt := left_lt q (4294967295 - s)
    have h1 := h (q.all &&& (4294967295 - s)) hlt (by omega)
    rw [q.can_same hr (s := s) (t := q.all &&& (4294967295 - (q.all &&& (4294967295 - s)))) fun i hi => ?_]
    · exact h1
    · rw [left_bit q hn _ i (by omega) hi, left_bit q hn s i (by omega) hi, Bool.not_not]
  · intro h g hg hb
    have hco := bits_compl (n := q.n) (x := g) (y := q.all &&& (4294967295 - g)) fun i hi => left_bit q hn g i (by omega) hi
    exact h _ (left_lt q _) (by omega)

section
variable (q : Qm) (more : Int) (A : Option Addr) (n c : Nat) (w : World) (hq : Qi w q A n c)
include hq
set_option maxRecDepth 100000 in
set_option maxHeartbeats 1000000 in
theorem refReach_bad (hr : q.right ≠ 0) : Calls Try.prog 14 #[qV q (.slice A n c), .int .i64 more] w fun e w' => e = .returned (.int .i64 q.right) ∧ Below w.heap.size w w' := by
  obtain ⟨w1, HW1, HB1, HK1⟩ := boxed q.kind q.nodes q.one q.two A n c w
  have HRT := Lib.hid (refRight_any8 q A n c w1 (hq.up HB1.out))
  have HCells : Hid (∀ W2, Below w1.heap.size w1 W2 → _) := Lib.hid fun W2 hb => QB.cells q.kind q.nodes q.one q.two A n c (HK1.out.below hb HK1.out.lt)
  obtain ⟨k0, k1, k2, k3, k4⟩ := HK1.out.cells
  rw [HW1.out] at k0 k1 k2 k3 k4
  unfold qV at *
  clear hq HK1
  generalize q.right = r at *
  go_enter Try.func14, Try.ntmps14
  go_wp2_with fail
  rw [← HW1.out]
  refine HRT.out.mono ?_
  rintro e w2 ⟨rfl, hb2⟩
  have HB12 := Lib.hid hb2
  clear k0 k1 k2 k3 k4
  obtain ⟨j0, j1, j2, j3, j4⟩ := HCells.out w2 hb2
  clear hb2
  have HB2 := Lib.hid (below_then HB1.out HB12.out)
  go_wp2
  go_ret
  exact ⟨rfl, HB2.out⟩
set_option maxRecDepth 100000 in
set_option maxHeartbeats 1000000 in
theorem refReach_neg (hr : q.right = 0) (hm : more < 0) : Calls Try.prog 14 #[qV q (.slice A n c), .int .i64 more] w fun e w' => e = .returned (.int .i64 2) ∧ Below w.heap.size w w' := by
  obtain ⟨w1, HW1, HB1, HK1⟩ := boxed q.kind q.nodes q.one q.two A n c w
  have HRT := Lib.hid (refRight_any8 q A n c w1 (hq.up HB1.out))
  have HCells : Hid (∀ W2, Below w1.heap.size w1 W2 → _) := Lib.hid fun W2 hb => QB.cells q.kind q.nodes q.one q.two A n c (HK1.out.below hb HK1.out.lt)
  obtain ⟨k0, k1, k2, k3, k4⟩ := HK1.out.cells
  rw [HW1.out] at k0 k1 k2 k3 k4
  rw [hr] at HRT
  unfold qV at *
  clear hq HK1 hr
  go_enter Try.func14, Try.ntmps14
  go_wp2_with fail
  rw [← HW1.out]
  refine HRT.out.mono ?_
  rintro e w2 ⟨rfl, hb2⟩
  have HB12 := Lib.hid hb2
  clear k0 k1 k2 k3 k4
  obtain ⟨j0, j1, j2, j3, j4⟩ := HCells.out w2 hb2
  clear hb2
  have HB2 := Lib.hid (below_then HB1.out HB12.out)
  go_wp2
  go_ret
  exact ⟨rfl, HB2.out⟩
set_option maxRecDepth 100000 in
set_option maxHeartbeats 4000000 in
theorem refReach_in (hr : q.right = 0) (hm : 0 ≤ more) : Calls Try.prog 14 #[qV q (.slice A n c), .int .i64 more] w fun e w' => e = .returned (.int .i64 (q.reach more)) ∧ Below w.heap.size w w' := by
  obtain ⟨w1, HW1, HB1, HK1⟩ := boxed q.kind q.nodes q.one q.two A n c w
  have HRT := Lib.hid (refRight_any8 q A n c w1 (hq.up HB1.out))
  have HCells : Hid (∀ W2, Below w1.heap.size w1 W2 → _) := Lib.hid fun W2 hb => QB.cells q.kind q.nodes q.one q.two A n c (HK1.out.below hb HK1.out.lt)
  obtain ⟨k0, k1, k2, k3, k4⟩ := HK1.out.cells
  rw [HW1.out] at k0 k1 k2 k3 k4
  rw [hr] at HRT
  obtain ⟨hnc, hn12, hn1⟩ := q.n_cast hr
  have hnd := (q.right_cases hr).2.1
  have h12 : 2 ^ q.n ≤ 2 ^ 12 := Nat.pow_le_pow_right (by decide) hn12
  have hpow : (2 : Int) ^ q.n % 4294967296 = ((2 ^ q.n : Nat) : Int) := by
    rw [show (2 : Int) ^ q.n = ((2 ^ q.n : Nat) : Int) by simp]
    generalize 2 ^ q.n = x at *
    omega
  have HCO : Hid (∀ s W, Calls Try.prog 18 #[.int .u32 ((s : Nat) : Int), .int .i64 q.nodes] W fun e w' => e = .returned (.int .i64 (bitsN q.n s : Int)) ∧ w' = W) := Lib.hid fun s W => (count08_any s q.nodes hnd W).mono fun _ _ h => ⟨h.1, h.2.symm⟩
  have HIF : Hid (∀ s, ∀ W, Below w1.heap.size w1 W → Calls Try.prog 26 #[qV q (.slice A n c), .bool false, .int .u32 ((s : Nat) : Int)] W fun e w' => e = .returned (.bool (q.isQ false s)) ∧ Below W.heap.size W w') := Lib.hid fun s W hb => refIs_any q false s A n c W (hq.up (below_then HB1.out hb))
  have HIS : Hid (∀ s, ∀ W, Below w1.heap.size w1 W → Calls Try.prog 26 #[qV q (.slice A n c), .bool true, .int .u32 ((s : Nat) : Int)] W fun e w' => e = .returned (.bool (q.isQ true s)) ∧ Below W.heap.size W w') := Lib.hid fun s W hb => refIs_any q true s A n c W (hq.up (below_then HB1.out hb))
  have hrs := q.reach_sets hr more hm
  have hrv := q.reach_vals hr more hm
  have hcan : ∀ s, q.can s = (q.isQ false s && q.isQ true s) := fun s => rfl
  obtain ⟨M, hM⟩ : ∃ M : Nat, (M : Int) = min more q.nodes := ⟨(min more q.nodes).toNat, by omega⟩
  rw [← hM] at hrs
  simp only [hcan] at hrs
  have hmn : M ≤ q.n := by omega
  obtain ⟨B, hB⟩ : ∃ B : Nat → Nat, B = bitsN q.n := ⟨_, rfl⟩
  obtain ⟨F, hF⟩ : ∃ F : Nat → Bool, F = q.isQ false := ⟨_, rfl⟩
  obtain ⟨G, hG⟩ : ∃ G : Nat → Bool, G = q.isQ true := ⟨_, rfl⟩
  have hBle : ∀ s, B s ≤ q.n := fun s => by rw [hB]; exact bitsN_le _ _
  rw [← hB] at HCO hrs
  rw [← hF] at HIF hrs
  rw [← hG] at HIS hrs
  obtain ⟨T, hT⟩ : ∃ T, T = 2 ^ q.n := ⟨_, rfl⟩
  rw [← hT] at hpow hrs h12
  have HBle := Lib.hid hBle
  have HMd := Lib.hid hM
  have h12 : T ≤ 4096 := h12
  generalize q.reach more = R at *
  have HSTOP : Hid (∀ s, s < T → (B s : Int) = q.nodes - (M : Int) → (F s && G s) = false → R = 4) := Lib.hid fun s hs hb hf => by
    rcases hrv with h | h
    · have := hrs.1 h s hs hb; rw [hf] at this; cases this
    · exact h
  have HEND : Hid ((∀ s, s < T → (B s : Int) = q.nodes - (M : Int) → (F s && G s) = true) → R = 0) := Lib.hid fun h => hrs.2 h
  unfold qV at *
  clear hq HK1 hr hrs hrv hcan hB hF hG hT hBle hM
  generalize q.n = N at *
  obtain ⟨kd, nd, on, tw, l⟩ := q
  dsimp only at *
  subst hnc
  obtain ⟨D, hD⟩ : ∃ D : Nat, (D : Int) = (N : Int) - (M : Int) := ⟨N - M, by omega⟩
  rw [← hD] at HSTOP HEND
  have hsub : (N : Int) - (M : Int) = (D : Int) := hD.symm
  have HDd := Lib.hid hD
  clear hD
  by_cases hmore : (N : Int) < more
  · obtain rfl : M = N := by have := HMd.out; omega
    obtain rfl : D = 0 := by have := HDd.out; omega
    clear hsub
    go_enter Try.func14, Try.ntmps14
    go_wp2_with fail
    rw [← HW1.out]
    refine HRT.out.mono ?_
    rintro e w2 ⟨rfl, hb2⟩
    have HB12 := Lib.hid hb2
    clear k0 k1 k2 k3 k4
    obtain ⟨j0, j1, j2, j3, j4⟩ := HCells.out w2 hb2
    clear hb2
    go_wp2_with fail
    go_loopg [6] T (fun g j wr => ∃ k : Nat, j = .int .u32 (k : Int) ∧ k + g = T ∧ Hid (Below w1.heap.size w1 wr) ∧ Hid (∀ j, j < k → (B j : Int) = ((0 : Nat) : Int) → (F j && G j) = true))
    case atStart => exact ⟨0, rfl, by omega, HB12, Lib.hid fun j h => absurd h (by omega)⟩
    case round =>
      obtain ⟨k, rfl, hkg, HB, HO⟩ := hrel
      obtain ⟨j0, j1, j2, j3, j4⟩ := HCells.out wr HB.out
      by_cases hk : k < T
      · have hkN : (k : Int) < (T : Int) := by omega
        have HCk := Lib.hid (HCO.out k)
        have HFk := Lib.hid (HIF.out k)
        have HGk := Lib.hid (HIS.out k)
        by_cases hb : (B k : Int) = ((0 : Nat) : Int)
        · rw [hb] at HCk
          have HX := Lib.hid hb
          clear hb
          go_wp2_with fail
          go_quiet ((go_at_call 18; exact Calls.quiet_of_same (HCk.out _)))
          have HB2 := Lib.hid (bel_drewN HB.out nq)
          clear j0 j1 j2 j3 j4
          obtain ⟨j0, j1, j2, j3, j4⟩ := HCells.out _ HB2.out
          cases hf : F k with
          | false =>
            rw [hf] at HFk
            have HST := Lib.hid (HSTOP.out k hk HX.out (by rw [hf]; rfl))
            clear hf
            go_wp2_with fail
            refine (HFk.out _ HB2.out).mono ?_
            rintro e w5 ⟨rfl, hb5⟩
            have HB5 := Lib.hid (below_then HB2.out hb5)
            clear j0 j1 j2 j3 j4
            obtain ⟨j0, j1, j2, j3, j4⟩ := HCells.out _ HB5.out
            clear hb5
            go_wp2_with fail
            refine (HGk.out _ HB5.out).mono ?_
            rintro e w6 ⟨rfl, hb6⟩
            have HB6 := Lib.hid (below_then HB1.out (below_then HB5.out hb6))
            clear hb6
            go_wp2
            go_ret
            exact ⟨ret_i64 HST.out.symm, HB6.out⟩
          | true =>
            rw [hf] at HFk
            cases hg : G k with
            | false =>
              rw [hg] at HGk
              have HST := Lib.hid (HSTOP.out k hk HX.out (by rw [hf, hg]; rfl))
              clear hf hg
              go_wp2_with fail
              refine (HFk.out _ HB2.out).mono ?_
              rintro e w5 ⟨rfl, hb5⟩
              have HB5 := Lib.hid (below_then HB2.out hb5)
              clear j0 j1 j2 j3 j4
              obtain ⟨j0, j1, j2, j3, j4⟩ := HCells.out _ HB5.out
              clear hb5
              go_wp2_with fail
              refine (HGk.out _ HB5.out).mono ?_
              rintro e w6 ⟨rfl, hb6⟩
              have HB6 := Lib.hid (below_then HB1.out (below_then HB5.out hb6))
              clear hb6
              go_wp2
              go_ret
              exact ⟨ret_i64 HST.out.symm, HB6.out⟩
            | true =>
              rw [hg] at HGk
              have HFG := Lib.hid (And.intro hf hg)
              clear hf hg
              go_wp2_with fail
              refine (HFk.out _ HB2.out).mono ?_
              rintro e w5 ⟨rfl, hb5⟩
              have HB5 := Lib.hid (below_then HB2.out hb5)
              clear j0 j1 j2 j3 j4
              obtain ⟨j0, j1, j2, j3, j4⟩ := HCells.out _ HB5.out
              clear hb5
              go_wp2_with fail
              refine (HGk.out _ HB5.out).mono ?_
              rintro e w6 ⟨rfl, hb6⟩
              have HB6 := Lib.hid (below_then HB5.out hb6)
              clear hb6
              go_wp2
              go_roundg (gk - 1)
              case measure => omega
              case rel => exact ⟨k + 1, by go_num, by omega, HB6, Lib.hid fun j hj hbj => by
                by_cases e : j = k
                · subst e; rw [HFG.out.1, HFG.out.2]; rfl
                · exact HO.out j (by omega) hbj⟩
        · obtain ⟨x, hx⟩ : ∃ x : Int, x = (B k : Int) := ⟨_, rfl⟩
          have HX := Lib.hid hb
          rw [← hx] at HCk hb
          have hne : (x != ((0 : Nat) : Int)) = true := by simpa using hb
          clear hx
          go_wp2_with fail
          go_quiet ((go_at_call 18; exact Calls.quiet_of_same (HCk.out _)))
          have HB2 := Lib.hid (bel_drewN HB.out nq)
          go_wp2
          go_roundg (gk - 1)
          case measure => omega
          case rel => exact ⟨k + 1, by go_num, by omega, HB2, Lib.hid fun j hj hbj => by
            by_cases e : j = k
            · subst e; exact absurd hbj HX.out
            · exact HO.out j (by omega) hbj⟩
      · obtain rfl : k = T := by omega
        have HF1 := Lib.hid (below_then HB1.out HB.out)
        go_wp2
        go_ret
        exact ⟨ret_i64 (HEND.out HO.out).symm, HF1.out⟩
  · obtain rfl : more = (M : Int) := by have := HMd.out; omega
    have hmb : decide (N < M) = false := decide_eq_false (by omega)
    have hmb2 : decide ((N : Int) < (M : Int)) = false := decide_eq_false (by omega)
    have hmb3 : ¬ N < M := by omega
    go_enter Try.func14, Try.ntmps14
    go_wp2_with fail
    rw [← HW1.out]
    refine HRT.out.mono ?_
    rintro e w2 ⟨rfl, hb2⟩
    have HB12 := Lib.hid hb2
    clear k0 k1 k2 k3 k4
    obtain ⟨j0, j1, j2, j3, j4⟩ := HCells.out w2 hb2
    clear hb2
    go_wp2_with fail
    go_loopg [6] T (fun g j wr => ∃ k : Nat, j = .int .u32 (k : Int) ∧ k + g = T ∧ Hid (Below w1.heap.size w1 wr) ∧ Hid (∀ j, j < k → (B j : Int) = (D : Int) → (F j && G j) = true))
    case atStart => exact ⟨0, rfl, by omega, HB12, Lib.hid fun j h => absurd h (by omega)⟩
    case round =>
      obtain ⟨k, rfl, hkg, HB, HO⟩ := hrel
      obtain ⟨j0, j1, j2, j3, j4⟩ := HCells.out wr HB.out
      by_cases hk : k < T
      · have hkN : (k : Int) < (T : Int) := by omega
        have HCk := Lib.hid (HCO.out k)
        have HFk := Lib.hid (HIF.out k)
        have HGk := Lib.hid (HIS.out k)
        by_cases hb : (B k : Int) = (D : Int)
        · rw [hb] at HCk
          have HX := Lib.hid hb
          clear hb
          go_wp2_with fail
          go_quiet ((go_at_call 18; exact Calls.quiet_of_same (HCk.out _)))
          have HB2 := Lib.hid (bel_drewN HB.out nq)
          clear j0 j1 j2 j3 j4
          obtain ⟨j0, j1, j2, j3, j4⟩ := HCells.out _ HB2.out
          cases hf : F k with
          | false =>
            rw [hf] at HFk
            have HST := Lib.hid (HSTOP.out k hk HX.out (by rw [hf]; rfl))
            clear hf
            go_wp2_with fail
            refine (HFk.out _ HB2.out).mono ?_
            rintro e w5 ⟨rfl, hb5⟩
            have HB5 := Lib.hid (below_then HB2.out hb5)
            clear j0 j1 j2 j3 j4
            obtain ⟨j0, j1, j2, j3, j4⟩ := HCells.out _ HB5.out
            clear hb5
            go_wp2_with fail
            refine (HGk.out _ HB5.out).mono ?_
            rintro e w6 ⟨rfl, hb6⟩
            have HB6 := Lib.hid (below_then HB1.out (below_then HB5.out hb6))
            clear hb6
            go_wp2
            go_ret
            exact ⟨ret_i64 HST.out.symm, HB6.out⟩
          | true =>
            rw [hf] at HFk
            cases hg : G k with
            | false =>
              rw [hg] at HGk
              have HST := Lib.hid (HSTOP.out k hk HX.out (by rw [hf, hg]; rfl))
              clear hf hg
              go_wp2_with fail
              refine (HFk.out _ HB2.out).mono ?_
              rintro e w5 ⟨rfl, hb5⟩
              have HB5 := Lib.hid (below_then HB2.out hb5)
              clear j0 j1 j2 j3 j4
              obtain ⟨j0, j1, j2, j3, j4⟩ := HCells.out _ HB5.out
              clear hb5
              go_wp2_with fail
              refine (HGk.out _ HB5.out).mono ?_
              rintro e w6 ⟨rfl, hb6⟩
              have HB6 := Lib.hid (below_then HB1.out (below_then HB5.out hb6))
              clear hb6
              go_wp2
              go_ret
              exact ⟨ret_i64 HST.out.symm, HB6.out⟩
            | true =>
              rw [hg] at HGk
              have HFG := Lib.hid (And.intro hf hg)
              clear hf hg
              go_wp2_with fail
              refine (HFk.out _ HB2.out).mono ?_
              rintro e w5 ⟨rfl, hb5⟩
              have HB5 := Lib.hid (below_then HB2.out hb5)
              clear j0 j1 j2 j3 j4
              obtain ⟨j0, j1, j2, j3, j4⟩ := HCells.out _ HB5.out
              clear hb5
              go_wp2_with fail
              refine (HGk.out _ HB5.out).mono ?_
              rintro e w6 ⟨rfl, hb6⟩
              have HB6 := Lib.hid (below_then HB5.out hb6)
              clear hb6
              go_wp2
              go_roundg (gk - 1)
              case measure => omega
              case rel => exact ⟨k + 1, by go_num, by omega, HB6, Lib.hid fun j hj hbj => by
                by_cases e : j = k
                · subst e; rw [HFG.out.1, HFG.out.2]; rfl
                · exact HO.out j (by omega) hbj⟩
        · obtain ⟨x, hx⟩ : ∃ x : Int, x = (B k : Int) := ⟨_, rfl⟩
          have HX := Lib.hid hb
          rw [← hx] at HCk hb
          have hne : (x != (D : Int)) = true := by simpa using hb
          clear hx
          go_wp2_with fail
          go_quiet ((go_at_call 18; exact Calls.quiet_of_same (HCk.out _)))
          have HB2 := Lib.hid (bel_drewN HB.out nq)
          go_wp2
          go_roundg (gk - 1)
          case measure => omega
          case rel => exact ⟨k + 1, by go_num, by omega, HB2, Lib.hid fun j hj hbj => by
            by_cases e : j = k
            · subst e; exact absurd hbj HX.out
            · exact HO.out j (by omega) hbj⟩
      · obtain rfl : k = T := by omega
        have HF1 := Lib.hid (below_then HB1.out HB.out)
        go_wp2
        go_ret
        exact ⟨ret_i64 (HEND.out HO.out).symm, HF1.out⟩
end
end Go.Proofs.Ytgkglkcnnebddaa
