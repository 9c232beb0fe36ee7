/- Layer 12, plain: the holes. No program is named here. -/
import Derived.Test.YtnomddhgcdoifaaRlP
namespace Go.Proofs.Ytnomddhgcdoifaa
open Go.RowKit

section
variable {p : Rl} {M s : Nat}
theorem hol_len (p : Rl) (M s : Nat) : (p.hol M s).length ≤ M := by unfold Rl.hol; rw [List.length_take]; omega
theorem hol_start (p : Rl) (M : Nat) : p.hol M (p.ap + 1) = [] := by unfold Rl.hol; simp
theorem hol_low (p : Rl) (M : Nat) {s : Nat} (h : s ≤ p.ap + 1) : p.hol M s = [] := by unfold Rl.hol; rw [show s - (p.ap + 1) = 0 by omega]; simp
theorem hol_succ (h : p.ap + 1 ≤ s) : p.hol M (s + 1) = (((List.range' (p.ap + 1) (s - (p.ap + 1))).filter fun x => !p.has x) ++ (if p.has s = true then [] else [s])).take M := by
  unfold Rl.hol
  rw [show s + 1 - (p.ap + 1) = (s - (p.ap + 1)) + 1 by omega, List.range'_1_concat, List.filter_append, show p.ap + 1 + (s - (p.ap + 1)) = s by omega]
  congr 2
  by_cases hh : p.has s = true
  · rw [if_pos hh]; simp [hh]
  · rw [if_neg hh]; simp [hh]
theorem hol_add (h : p.ap + 1 ≤ s) (hn : p.has s = false) (hl : (p.hol M s).length < M) : p.hol M (s + 1) = p.hol M s ++ [s] := by
  rw [hol_succ h, if_neg (by rw [hn]; decide)]
  unfold Rl.hol at hl ⊢
  rw [List.length_take] at hl
  rw [List.take_of_length_le (by rw [List.length_append]; simp; omega), List.take_of_length_le (by omega)]
theorem hol_kept (h : p.ap + 1 ≤ s) (hn : p.has s = true) : p.hol M (s + 1) = p.hol M s := by
  rw [hol_succ h, if_pos hn, List.append_nil]
  rfl
theorem hol_full (h : p.ap + 1 ≤ s) (hl : M ≤ (p.hol M s).length) : ∀ k, p.hol M (s + k) = p.hol M s
  | 0 => rfl
  | k + 1 => by
    have ih := hol_full h hl k
    rw [show s + (k + 1) = (s + k) + 1 by omega, hol_succ (by omega)]
    have hl2 : M ≤ (p.hol M (s + k)).length := by rw [ih]; exact hl
    unfold Rl.hol at ih hl2 ⊢
    rw [List.length_take] at hl2
    rw [List.take_append_of_le_length (by omega)]
    exact ih
theorem hol_full' {t : Nat} (h : p.ap + 1 ≤ s) (hl : M ≤ (p.hol M s).length) (ht : s ≤ t) : p.hol M t = p.hol M s := by
  have := hol_full h hl (t - s)
  rwa [show s + (t - s) = t by omega] at this
end
/-- The greatest, by what stands above the applied slot. -/
theorem top_of {p : Rl} (hr : Rise p.row) : p.top = ((p.row.drop (findE (p.ap + 1) p.row)).getLast?.map (·.slot)).getD p.ap := by
  unfold Rl.top
  have hle := findE_le (p.ap + 1) p.row
  by_cases h : findE (p.ap + 1) p.row = p.row.length
  · rw [List.drop_of_length_le (by omega)]
    by_cases h0 : p.row.length = 0
    · rw [List.eq_nil_of_length_eq_zero h0]; simp
    · rw [List.getLast?_eq_getElem?, List.getElem?_eq_getElem (by omega)]
      have := findE_lt (s := p.ap + 1) (l := p.row) (i := p.row.length - 1) (by omega) (by omega)
      simp
      omega
  · rw [List.getLast?_eq_getElem?, List.getLast?_eq_getElem?, List.getElem?_drop, List.length_drop, show findE (p.ap + 1) p.row + (p.row.length - findE (p.ap + 1) p.row - 1) = p.row.length - 1 by omega, List.getElem?_eq_getElem (by omega)]
    have := findE_ge (s := p.ap + 1) (l := p.row) (i := p.row.length - 1) (by omega) hr (by omega)
    simp
    omega
/-- What stands from a slot on. -/
structure AbvL (p : Rl) (T : Nat) (L : List En) : Prop where
  mem : ∀ x, T ≤ x → p.has x = true → ∃ j, ∃ hj : j < L.length, L[j].slot = x
  has : ∀ j (hj : j < L.length), p.has L[j].slot = true
  rise : ∀ i j (hi : i < L.length) (hj : j < L.length), i < j → L[i].slot < L[j].slot
  low : ∀ j (hj : j < L.length), T ≤ L[j].slot ∧ L[j].slot < 18446744073709551615
  len : L.length ≤ 4096
theorem abvL {p : Rl} (hok : p.Ok) (T : Nat) : AbvL p T (p.row.drop (findE T p.row)) := by
  refine ⟨fun x hx hh => ?_, fun j hj => ?_, fun i j hi hj hij => Rise.at (hok.rise.sublist (List.drop_sublist _ _)) hi hj hij, fun j hj => ?_, by rw [List.length_drop]; have := hok.len; omega⟩
  · obtain ⟨hk, he⟩ := hasE_at hh
    have hle : findE T p.row ≤ findE x p.row := by
      by_cases hc : findE x p.row < findE T p.row
      · have := findE_lt (s := T) (l := p.row) hk hc
        omega
      · omega
    generalize findE x p.row = k at *
    refine ⟨k - findE T p.row, by rw [List.length_drop]; omega, ?_⟩
    rw [List.getElem_drop]
    rw [← he]
    congr 2
    omega
  · unfold Rl.has
    rw [hasE_iff hok.rise]
    exact ⟨_, (List.drop_sublist _ _).subset (List.getElem_mem hj), rfl⟩
  · have hmem := (List.drop_sublist _ _).subset (List.getElem_mem hj)
    refine ⟨?_, (hok.slot _ hmem).2⟩
    rw [List.length_drop] at hj
    rw [List.getElem_drop]
    exact findE_ge (by omega) hok.rise (by omega)
/-- Behind the last one: the holes are whole. -/
theorem hol_end {p : Rl} {M T sl : Nat} {L : List En} (hT : T = p.ap + 1) (hL : L = p.row.drop (findE T p.row)) (hok : p.Ok) (hs : (L.length = 0 ∧ sl = T) ∨ (0 < L.length ∧ ∃ hi : L.length - 1 < L.length, sl = L[L.length - 1].slot + 1)) : p.hol M sl = p.hol M p.top := by
  have ht := top_of hok.rise
  have ha := abvL hok T
  rw [← hT, ← hL] at ht
  rw [← hL] at ha
  rcases hs with ⟨h0, rfl⟩ | ⟨h0, hi, rfl⟩
  · rw [List.eq_nil_of_length_eq_zero h0] at ht
    simp at ht
    rw [hol_low p M (by omega), hol_low p M (by omega)]
  · rw [List.getLast?_eq_getElem?, List.getElem?_eq_getElem hi] at ht
    simp at ht
    rw [ht]
    exact hol_kept (by have := (ha.low _ hi).1; omega) (ha.has _ hi)
end Go.Proofs.Ytnomddhgcdoifaa
