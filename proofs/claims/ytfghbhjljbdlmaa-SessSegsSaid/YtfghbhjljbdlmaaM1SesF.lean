/- Of the proofs of layer 4, merged: SesF. -/
import Derived.Test.YtfghbhjljbdlmaaM1SesE

/- Parse and Bytes at everything; Same. -/
namespace Go.Proofs.Ytfghbhjljbdlmaa
open Go.RowKit Go.Maps

theorem sparse_any (A : Option Addr) (n c : Nat) (l : List UInt8) (w : World) (hc : n ≤ c) (hn : n ≤ 140737488355328) (hm : c ≤ 9223372036854775807) (h : Rd w w.heap.size A n l) :
    Calls Try.prog 38 #[.slice A n c] w fun e w' => ∃ A' n' c', e = .returned (.tuple #[sgV (parseS l).1 (.slice A' n' c'), .int .i64 ((parseS l).2 : Int)]) ∧ n' ≤ c' ∧ c' ≤ 9223372036854775807 ∧ Rd w' w'.heap.size A' n' (parseS l).1.body ∧ (0 < n' → ∀ b o, A' = some ⟨b, o, none⟩ → w.heap.size < b) ∧ Below w.heap.size w w' := by
  have hbad : ∀ E, parseS l = (Sg.zero, E) → ((getF l = .error E) ∨ (∃ f k, getF l = .ok (f, k) ∧ E = 11 ∧ (k < l.length ∨ (k = l.length ∧ f.1 ≠ 3 ∧ f.1 ≠ 4)))) → Calls Try.prog 38 #[.slice A n c] w fun e w' => ∃ A' n' c', e = .returned (.tuple #[sgV (parseS l).1 (.slice A' n' c'), .int .i64 ((parseS l).2 : Int)]) ∧ n' ≤ c' ∧ c' ≤ 9223372036854775807 ∧ Rd w' w'.heap.size A' n' (parseS l).1.body ∧ (0 < n' → ∀ b o, A' = some ⟨b, o, none⟩ → w.heap.size < b) ∧ Below w.heap.size w w' := by
    intro E hp hx
    rw [hp]
    refine (sparse_bad A n c l E w hc hn hm h hx).mono ?_
    rintro e w' ⟨rfl, hb⟩
    exact ⟨none, 0, 0, rfl, Nat.le_refl _, by omega, Rd.nil _ _ _, fun h => absurd h (by omega), hb⟩
  cases hg : getF l with
  | error e => exact hbad e (by unfold parseS; rw [hg]) (.inl hg)
  | ok x =>
    obtain ⟨f, k⟩ := x
    have hk := (getF_le hg).2.1
    by_cases hcs : k < l.length ∨ (f.1 ≠ 3 ∧ f.1 ≠ 4)
    · refine hbad 11 (by unfold parseS; rw [hg]; simp only; rw [if_pos hcs]) (.inr ⟨f, k, hg, rfl, ?_⟩)
      rcases hcs with h1 | h1
      · exact .inl h1
      · by_cases h2 : k < l.length
        · exact .inl h2
        · exact .inr ⟨by omega, h1⟩
    · have hkl : k = l.length := by omega
      subst hkl
      refine sparse_ok A n c l f w hc hn hm h hg ?_
      by_cases h3 : f.1 = 3
      · exact .inl h3
      · right
        by_cases h4 : f.1 = 4
        · exact h4
        · exact absurd (.inr ⟨h3, h4⟩) hcs

set_option maxRecDepth 100000 in
set_option maxHeartbeats 1000000 in
theorem sbytes_bad (s : Sg) (hr : s.right = false) (A : Option Addr) (n c : Nat) (w : World) (hn : s.body.length = n) :
    Calls Try.prog 36 #[sgV s (.slice A n c)] w fun e w' => e = .returned (.tuple #[.slice none 0 0, .int .i64 2]) ∧ Below w.heap.size w w' := by
  obtain ⟨W1, hW1⟩ : ∃ W1, W1 = w.alloc (.cells (sgA s (.slice A n c)) 60) := ⟨_, rfl⟩
  have hb1 : Below w.heap.size w W1 := by rw [hW1]; exact (Below.refl _ _).alloc (Nat.le_refl _) _
  have hk1 : Bk W1 w.heap.size 60 (sgA s (.slice A n c)) := by rw [hW1]; exact Bk.new w 60 _
  have HR := right_any s A n c W1 hn
  rw [hr] at HR
  have k0 : W1.cell? ⟨w.heap.size, 0, none⟩ = some (.int .u64 (s.life : Int)) := hk1.cell 0
  have k1 : W1.cell? ⟨w.heap.size, 1, none⟩ = some (.int .u64 (s.seq : Int)) := hk1.cell 1
  have k2 : W1.cell? ⟨w.heap.size, 2, none⟩ = some (.bool s.ack) := hk1.cell 2
  have k3 : W1.cell? ⟨w.heap.size, 3, none⟩ = some (.slice A n c) := hk1.cell 3
  have HB1 := Lib.hid hb1
  have HW1 := Lib.hid hW1
  have HR := Lib.hid HR
  unfold sgV at HR ⊢
  unfold sgA at HW1
  obtain ⟨sl, ss, sa, sb⟩ := s
  dsimp only at HR HW1 k0 k1 k2 k3 ⊢
  clear hb1 hk1 hW1 hr hn
  go_enter Try.func36, Try.ntmps36
  go_wp2_with fail
  rw [← HW1.out]
  refine HR.out.mono ?_
  rintro e w2 ⟨rfl, hb2⟩
  have HB2 := Lib.hid (below_then HB1.out hb2)
  clear hb2 k0 k1 k2 k3
  go_wp2
  go_ret2
  exact ⟨rfl, HB2.out⟩
end Go.Proofs.Ytfghbhjljbdlmaa
