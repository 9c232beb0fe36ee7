/- Plain mathematics of the document's own reading of a number: the leading bytes from 128 on, and their number. -/
import Derived.Test.YtgippbbbfpkhhaaGets
namespace Go.Proofs.Ytgippbbbfpkhhaa

/-- The number of bytes that each have 128 added, the lowest first. -/
def valU : List UInt8 → Nat
  | [] => 0
  | c :: r => c.toNat - 128 + 128 * valU r

theorem valU_snoc (l : List UInt8) (c : UInt8) : valU (l ++ [c]) = valU l + 128 ^ l.length * (c.toNat - 128) := by
  induction l with
  | nil => simp [valU]
  | cons d r ih =>
    show d.toNat - 128 + 128 * valU (r ++ [c]) = d.toNat - 128 + 128 * valU r + 128 ^ (r.length + 1) * (c.toNat - 128)
    rw [ih, Nat.mul_add, Nat.pow_succ, Nat.mul_comm (128 ^ r.length) 128, Nat.mul_assoc]
    omega

theorem take_succ_at {l : List UInt8} {k : Nat} (h : k < l.length) : l.take (k + 1) = l.take k ++ [l[k]] := by
  rw [List.take_succ_eq_append_getElem h]

/-- Behind k bytes, each of them from 128 on: what is told, or that there are too many. -/
def Lead (s : List UInt8) (k : Nat) : Prop :=
  (k ≤ 9 ∧ uu 0 s = lift k (valU (s.take k)) (uu k (s.drop k)) ∧ valU (s.take k) < 128 ^ k) ∨ (k = 10 ∧ uu 0 s = .error 11)

theorem Lead.zero (s : List UInt8) : Lead s 0 := .inl ⟨by omega, by simp [valU, lift_zero], by simp [valU]⟩

theorem Lead.step {s : List UInt8} {k : Nat} (h : Lead s k) (hk : k < 10) (hl : k < s.length) (h128 : 128 ≤ s[k].toNat) : Lead s (k + 1) := by
  rcases h with ⟨h9, hu, hv⟩ | ⟨rfl, _⟩
  · have hd : s.drop k = s[k] :: s.drop (k + 1) := List.drop_eq_getElem_cons hl
    rw [hd] at hu
    have hc := s[k].toNat_lt
    by_cases hk9 : k = 9
    · subst hk9
      exact .inr ⟨rfl, step_form hu (.inl ⟨rfl, by omega⟩)⟩
    · refine .inl ⟨by omega, ?_, ?_⟩
      · rw [take_succ_at hl, valU_snoc, List.length_take, Nat.min_eq_left (by omega)]
        exact step_more hu (by omega) (by omega)
      · rw [take_succ_at hl, valU_snoc, List.length_take, Nat.min_eq_left (by omega)]
        exact acc_lt hv (by omega)
  · omega

theorem Lead.ten {s : List UInt8} (h : Lead s 10) : uu 0 s = .error 11 := by
  rcases h with ⟨h9, _⟩ | ⟨_, h⟩
  · omega
  · exact h
theorem Lead.short {s : List UInt8} {k : Nat} (h : Lead s k) (hk : k < 10) (hl : s.length ≤ k) : uu 0 s = .error 10 := by
  rcases h with ⟨h9, hu, _⟩ | ⟨rfl, _⟩
  · rw [List.drop_eq_nil_of_le hl] at hu
    exact step_end hu
  · omega
theorem Lead.form {s : List UInt8} {k : Nat} (h : Lead s k) (hk : k < 10) (hl : k < s.length) (hf : (k = 9 ∧ 1 < s[k].toNat) ∨ (0 < k ∧ s[k].toNat = 0)) : uu 0 s = .error 11 := by
  rcases h with ⟨h9, hu, _⟩ | ⟨rfl, _⟩
  · have hd : s.drop k = s[k] :: s.drop (k + 1) := List.drop_eq_getElem_cons hl
    rw [hd] at hu
    exact step_form hu hf
  · omega
theorem Lead.last {s : List UInt8} {k : Nat} (h : Lead s k) (hk : k < 10) (hl : k < s.length) (hf : ¬ ((k = 9 ∧ 1 < s[k].toNat) ∨ (0 < k ∧ s[k].toNat = 0))) (h128 : s[k].toNat < 128) :
    uu 0 s = .ok (s[k].toNat * 128 ^ k + valU (s.take k), k + 1) ∧ s[k].toNat * 128 ^ k + valU (s.take k) < 18446744073709551616 := by
  rcases h with ⟨h9, hu, _⟩ | ⟨rfl, _⟩
  · have hd : s.drop k = s[k] :: s.drop (k + 1) := List.drop_eq_getElem_cons hl
    rw [hd] at hu
    have h1 := step_last hu hf h128
    have e : valU (s.take k) + 128 ^ k * s[k].toNat = s[k].toNat * 128 ^ k + valU (s.take k) := by rw [Nat.mul_comm, Nat.add_comm]
    rw [e] at h1
    exact ⟨h1, uu0_lt h1⟩
  · omega

/-- One byte more of the sum, from above. -/
theorem fold_step {s : List UInt8} {v j tot : Nat} (hl : j < s.length) (h : v * 128 ^ (j + 1) + valU (s.take (j + 1)) = tot) : (v * 128 + (s[j].toNat - 128)) * 128 ^ j + valU (s.take j) = tot := by
  rw [take_succ_at hl, valU_snoc, List.length_take, Nat.min_eq_left (by omega)] at h
  rw [← h, Nat.pow_succ, Nat.add_mul, Nat.mul_comm (128 ^ j) 128, ← Nat.mul_assoc, Nat.mul_comm (s[j].toNat - 128)]
  omega
theorem fold_le {s : List UInt8} {v j tot : Nat} (h : v * 128 ^ (j + 1) + valU (s.take (j + 1)) = tot) : v * 128 ≤ tot := by
  have h1 : v * 128 ≤ v * 128 ^ (j + 1) := by
    have : 128 ^ 1 ≤ 128 ^ (j + 1) := Nat.pow_le_pow_right (by decide) (by omega)
    exact Nat.mul_le_mul_left v (by simpa using this)
  omega
theorem fold_le0 {s : List UInt8} {v j tot : Nat} (h : v * 128 ^ j + valU (s.take j) = tot) : v ≤ tot := by
  have h1 : v * 1 ≤ v * 128 ^ j := Nat.mul_le_mul_left v (Nat.pow_pos (by decide))
  omega

/-- The first k bytes are from 128 on. -/
def Big (s : List UInt8) (k : Nat) : Prop := ∀ (j : Nat) (c : UInt8), j < k → s[j]? = some c → 128 ≤ c.toNat
theorem Big.zero (s : List UInt8) : Big s 0 := fun _ _ h => absurd h (by omega)
theorem Big.step {s : List UInt8} {k : Nat} (h : Big s k) (hl : k < s.length) (h128 : 128 ≤ s[k].toNat) : Big s (k + 1) := by
  intro j c hj hc
  by_cases hjk : j = k
  · subst hjk
    rw [List.getElem?_eq_getElem hl] at hc
    obtain rfl := Option.some.inj hc
    exact h128
  · exact h j c (by omega) hc
theorem Big.at_ {s : List UInt8} {k : Nat} (h : Big s k) (j : Nat) (hj : j < k) (hl : j < s.length) : 128 ≤ s[j].toNat := h j _ hj (List.getElem?_eq_getElem hl)
end Go.Proofs.Ytgippbbbfpkhhaa
