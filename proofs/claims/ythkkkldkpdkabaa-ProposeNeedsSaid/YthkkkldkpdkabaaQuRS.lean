/- Layer 8: the document's some. -/
import Derived.Test.YthkkkldkpdkabaaQuRG
namespace Go.Proofs.Ythkkkldkpdkabaa
open Go.RowKit Go.Lib Go.Shelf

theorem sites_cells {w : World} {q : Qm} {A : Option Addr} {n c : Nat} (hq : Qi w q A n c) (hr : q.right = 0) (hk : q.kind = 3) (second : Bool) :
    ∃ b o, A = some ⟨b, o, none⟩ ∧ b < w.heap.size ∧ n = q.n ∧ ∀ k, k < q.n → w.cell? ⟨b, o + k, none⟩ = some (.int .i64 (q.part second k : Int)) := by
  obtain ⟨hnc, hn12, hn1⟩ := q.n_cast hr
  obtain ⟨hln, hall⟩ : (q.sites.length : Int) = q.nodes ∧ ∀ x ∈ q.sites, 0 ≤ x ∧ x < 12 := by
    rcases (q.right_cases hr).2.2 with ⟨h, _⟩ | ⟨h, _⟩ | ⟨_, h⟩
    · omega
    · omega
    · exact h
  have hl := hq.len
  obtain ⟨b, o, rfl, hb, hc⟩ := hq.rd.2.2 (by omega)
  refine ⟨b, o, rfl, hb, by omega, fun k hkn => ?_⟩
  have hkl : k < q.sites.length := by omega
  rw [hc k hkl]
  have hx := hall q.sites[k] (List.getElem_mem hkl)
  unfold Qm.part
  rw [if_pos hk]
  simp only [List.getD, List.getElem?_eq_getElem hkl, Option.getD_some]
  congr 2
  omega
set_option maxRecDepth 100000 in
set_option maxHeartbeats 4000000 in
theorem some_any (q : Qm) (s i : Nat) (A : Option Addr) (n c : Nat) (w : World) (hq : Qi w q A n c) (hr : q.right = 0) (hk : q.kind = 3) (hi : i < q.n) :
    Calls Try.prog 55 #[qV q (.slice A n c), .int .u32 (s : Int), .int .i64 (i : Int)] w fun e w' => e = .returned (.bool (q.someAt false s i)) ∧ Below w.heap.size w w' := by
  obtain ⟨hnc, hn12, hn1⟩ := q.n_cast hr
  obtain ⟨b, o, rfl, hb, hnn, hc⟩ := sites_cells hq hr hk false
  obtain ⟨w1, HW1, HB1, HK1⟩ := boxed q.kind q.nodes q.one q.two (some ⟨b, o, none⟩) n c w
  have HC1 : Hid (∀ k, k < q.n → w1.cell? ⟨b, o + k, none⟩ = some (.int .i64 (q.part false k : Int))) := Lib.hid fun k hk => (HB1.out.cell (p := ⟨b, o + k, none⟩) hb).trans (hc k hk)
  obtain ⟨R, hR⟩ : ∃ R, R = q.someAt false s i := ⟨_, rfl⟩
  rw [← hR]
  unfold Qm.someAt at hR
  have HR := Lib.hid hR
  obtain ⟨P, hP⟩ : ∃ P : Nat → Nat, P = q.part false := ⟨_, rfl⟩
  rw [← hP] at HC1 HR
  have hcap := hq.cap
  have HCells : Hid (∀ W2, Below w1.heap.size w1 W2 → _) := Lib.hid fun W2 hb => QB.cells q.kind q.nodes q.one q.two (some ⟨b, o, none⟩) n c (HK1.out.below hb HK1.out.lt)
  have HCK : Hid (∀ W2, Below w1.heap.size w1 W2 → ∀ k, k < q.n → W2.cell? ⟨b, o + k, none⟩ = some (.int .i64 (P k : Int))) := Lib.hid fun W2 hb2 k hk => (hb2.cell (p := ⟨b, o + k, none⟩) (by have := HB1.out.size; show b < _; omega)).trans (HC1.out k hk)
  clear hR hq hr hk hP hc
  unfold qV at *
  obtain ⟨k0, k1, k2, k3, k4⟩ := HK1.out.cells
  generalize q.n = N at *
  obtain ⟨kd, nd, on, tw, l⟩ := q
  dsimp only at *
  subst hnc
  subst hnn
  rw [HW1.out] at k0 k1 k2 k3 k4
  clear HK1
  go_enter Try.func55, Try.ntmps55
  go_wp2_with fail
  rw [← HW1.out] at k0 k1 k2 k3 k4 ⊢
  clear k0 k1 k2 k3 k4
  go_loopg [7] n (fun g j wr => ∃ k : Nat, j = .int .i64 (k : Int) ∧ k + g = n ∧ Hid (Below w1.heap.size w1 wr) ∧ Hid (∀ j, j < k → ¬ (P j = P i ∧ s.testBit j = true)))
  case atStart => exact ⟨0, rfl, by omega, Lib.hid (Below.refl _ _), Lib.hid fun j h => absurd h (by omega)⟩
  case round =>
    obtain ⟨k, rfl, hkg, HB, HO⟩ := hrel
    obtain ⟨j0, j1, j2, j3, j4⟩ := HCells.out wr HB.out
    by_cases hk : k < n
    · have hkN : (k : Int) < (n : Int) := by omega
      have hiN : (i : Int) < (n : Int) := by omega
      have ck := HCK.out wr HB.out k hk
      have ci := HCK.out wr HB.out i hi
      have HH : Hid (∀ W, Calls Try.prog 23 #[.int .u32 (s : Int), .int .i64 (k : Int)] W fun e w' => e = .returned (.bool (s.testBit k)) ∧ w' = W) := Lib.hid (fun W => (has_any s k (by omega) W).mono fun _ _ h => ⟨h.1, h.2.symm⟩)
      by_cases hp : P k = P i
      · rw [hp] at ck
        have HP := Lib.hid hp
        clear hp
        generalize P i = x at *
        cases hb2 : s.testBit k with
        | true =>
          rw [hb2] at HH
          have HT := Lib.hid hb2
          clear hb2
          go_wp2_with fail
          go_quiet ((go_at_call 23; exact Calls.quiet_of_same (HH.out _)))
          go_wp2
          go_ret
          refine ⟨ret_bool ?_, ?_⟩
          · rw [HR.out, decide_eq_true]
            exact ⟨k, hk, HP.out, HT.out⟩
          · exact below_then HB1.out (bel_drewN HB.out _)
        | false =>
          rw [hb2] at HH
          have HT := Lib.hid hb2
          clear hb2
          go_wp2_with fail
          go_quiet ((go_at_call 23; exact Calls.quiet_of_same (HH.out _)))
          go_wp2
          go_roundg (gk - 1)
          case measure => omega
          case rel => exact ⟨k + 1, by go_num, by omega, Lib.hid (bel_drewN HB.out _), Lib.hid fun j hj hpj => by
            by_cases e : j = k
            · subst e; rw [HT.out] at hpj; exact absurd hpj.2 (by simp)
            · exact HO.out j (by omega) hpj⟩
      · have hpi : ¬ (P k : Int) = (P i : Int) := by omega
        have HP := Lib.hid hp
        clear hp
        obtain ⟨x, hx⟩ : ∃ x : Int, x = (P i : Int) := ⟨_, rfl⟩
        obtain ⟨y, hy⟩ : ∃ y : Int, y = (P k : Int) := ⟨_, rfl⟩
        rw [← hy] at ck hpi
        rw [← hx] at ci hpi
        have hpb : (y == x) = false := by rw [beq_eq_false_iff_ne]; exact hpi
        have hpd : decide (y = x) = false := decide_eq_false hpi
        clear hy hx
        go_wp2_with fail
        go_quiet (fail)
        go_wp2
        go_roundg (gk - 1)
        case measure => omega
        case rel => exact ⟨k + 1, by go_num, by omega, Lib.hid (bel_drewN HB.out _), Lib.hid fun j hj hpj => by
          by_cases e : j = k
          · subst e; exact absurd hpj.1 HP.out
          · exact HO.out j (by omega) hpj⟩
    · obtain rfl : k = n := by omega
      have HF1 := Lib.hid (below_then HB1.out HB.out)
      go_wp2
      go_ret
      refine ⟨ret_bool ?_, HF1.out⟩
      rw [HR.out, decide_eq_false]
      rintro ⟨j, hj, hpj⟩
      exact HO.out j hj hpj
end Go.Proofs.Ythkkkldkpdkabaa
