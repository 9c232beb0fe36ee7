/- Plain: how many frames are whole within so many bytes. -/
import Derived.Test.YtbkbmmpcjpkkaaaFrameP
namespace Go.Proofs.Ytbkbmmpcjpkkaaa

/-- How many bytes the first i frames have. -/
def preF (fs : List Fr) (i : Nat) : Nat := ((fs.take i).flatMap putF).length
theorem preF_zero (fs : List Fr) : preF fs 0 = 0 := by simp [preF]
theorem preF_succ (fs : List Fr) (i : Nat) (h : i < fs.length) : preF fs (i + 1) = preF fs i + (10 + fs[i].2.length) := by
  unfold preF
  rw [List.take_succ_eq_append_getElem h, List.flatMap_append, List.length_append]
  simp [putF_len]
theorem preF_all (fs : List Fr) : preF fs fs.length = (fs.flatMap putF).length := by unfold preF; rw [List.take_length]
theorem preF_cons (f : Fr) (fs : List Fr) (i : Nat) : preF (f :: fs) (i + 1) = 10 + f.2.length + preF fs i := by
  unfold preF
  rw [List.take_succ_cons, List.flatMap_cons, List.length_append, putF_len]
theorem preF_mono (fs : List Fr) (i j : Nat) (h : i ≤ j) (hj : j ≤ fs.length) : preF fs i ≤ preF fs j := by
  induction j with
  | zero => have : i = 0 := by omega
            subst this; exact Nat.le_refl _
  | succ j ih =>
    by_cases e : i = j + 1
    · subst e; exact Nat.le_refl _
    · have h1 := ih (by omega) (by omega)
      have h2 := preF_succ fs j (by omega)
      omega
theorem preF_small (fs : List Fr) (i : Nat) (hi : i ≤ fs.length) (hall : ∀ j (hj : j < i), (fs[j]'(by omega)).2.length ≤ 1024) : preF fs i ≤ i * 1034 := by
  induction i with
  | zero => rw [preF_zero]; exact Nat.zero_le _
  | succ i ih =>
    have h1 := ih (by omega) fun j hj => hall j (by omega)
    have h2 := preF_succ fs i (by omega)
    have h3 := hall i (by omega)
    rw [Nat.succ_mul]
    omega

/-- As many as fit: told by where each one ends. -/
theorem wholeF_is : ∀ (fs : List Fr) (c N : Nat), N ≤ fs.length → (∀ i, i < N → preF fs (i + 1) ≤ c) → (N = fs.length ∨ c < preF fs (N + 1)) → wholeF fs c = (N, preF fs N) := by
  intro fs
  induction fs with
  | nil =>
    intro c N h _ _
    have : N = 0 := by simpa using h
    subst this
    rfl
  | cons f fs ih =>
    intro c N h h1 h2
    unfold wholeF
    cases N with
    | zero =>
      have hc : c < preF (f :: fs) (0 + 1) := by
        rcases h2 with h2 | h2
        · simp at h2
        · exact h2
      rw [preF_cons, preF_zero] at hc
      rw [if_neg (by omega), preF_zero]
    | succ N =>
      have h0 := h1 0 (by omega)
      rw [preF_cons, preF_zero] at h0
      have hh := ih (c - (10 + f.2.length)) N (by simpa using h) (fun i hi => by have := h1 (i + 1) (by omega); rw [preF_cons] at this; omega) (by
        rcases h2 with h2 | h2
        · exact .inl (by simpa using h2)
        · rw [preF_cons] at h2; exact .inr (by omega))
      rw [if_pos (by omega), hh, preF_cons]
      exact Prod.ext (Nat.add_comm 1 N) rfl
end Go.Proofs.Ytbkbmmpcjpkkaaa
