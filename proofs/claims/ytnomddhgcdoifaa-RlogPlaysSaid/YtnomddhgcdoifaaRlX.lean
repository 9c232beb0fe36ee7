/- Layer 12, plain: what is kept, behind a Learn. No program is named here. -/
import Derived.Test.YtnomddhgcdoifaaRlR
namespace Go.Proofs.Ytnomddhgcdoifaa
open Go.RowKit

theorem rise_at : ∀ (l : List En), Rise l → ∀ i (hi : i < l.length), i ≤ l[i].slot
  | [], _, i, hi => by simp at hi
  | e :: r, hr, 0, hi => Nat.zero_le _
  | e :: r, hr, i + 1, hi => by
    have h := hr.at (i := i) (j := i + 1) (by omega) hi (by omega)
    have := rise_at (e :: r) hr i (by omega)
    omega
theorem rise_len {l : List En} (hr : Rise l) {b : Nat} (h : ∀ e ∈ l, e.slot < b) : l.length ≤ b := by
  by_cases h0 : l.length = 0
  · omega
  · have h1 := rise_at l hr (l.length - 1) (by omega)
    have h2 := h _ (List.getElem_mem (show l.length - 1 < l.length by omega))
    omega
section
variable {p : Rl} {s x n : Nat} {v : List UInt8}
theorem has_iff (hok : p.Ok) : p.has x = true ↔ ∃ e ∈ p.row, e.slot = x := hasE_iff hok.rise
theorem has_ins (hok : p.Ok) (hn : p.has s = false) : (Rl.mk p.ap (insE ⟨s, v⟩ p.row)).has x = true ↔ p.has x = true ∨ x = s := by
  unfold Rl.has at hn ⊢
  show hasE x (insE ⟨s, v⟩ p.row) = true ↔ _
  rw [hasE_iff (hok.rise.ins (e := ⟨s, v⟩) hn), hasE_iff hok.rise]
  constructor
  · rintro ⟨e, he, rfl⟩
    rcases mem_insE.1 he with rfl | he
    · exact .inr rfl
    · exact .inl ⟨e, he, rfl⟩
  · rintro (⟨e, he, rfl⟩ | rfl)
    · exact ⟨e, mem_insE.2 (.inr he), rfl⟩
    · exact ⟨_, mem_insE.2 (.inl rfl), rfl⟩
/-- A new one. -/
theorem learn_new (_h0 : s ≠ 0) (h1 : s < 18446744073709551615) (h2 : v.length ≤ 100) (h3 : p.has s = false) (h4 : p.ap < s) (h5 : p.row.length < 4096) : p.learn s v = (0, ⟨p.ap, insE ⟨s, v⟩ p.row⟩) := by
  unfold Rl.learn
  rw [if_neg (by omega), if_neg (by omega), if_neg (by rw [h3]; decide), if_neg (by omega), if_neg (by omega)]
/-- Nothing, or a new one. -/
theorem learn_or (p : Rl) (s : Nat) (v : List UInt8) : (p.learn s v).2 = p ∨ (s ≠ 0 ∧ s ≠ 18446744073709551615 ∧ v.length ≤ 100 ∧ p.has s = false ∧ p.ap < s ∧ p.row.length < 4096 ∧ p.learn s v = (0, ⟨p.ap, insE ⟨s, v⟩ p.row⟩)) := by
  unfold Rl.learn
  split
  · exact .inl rfl
  rename_i h1
  split
  · exact .inl rfl
  rename_i h2
  split
  · split <;> exact .inl rfl
  rename_i h3
  split
  · exact .inl rfl
  rename_i h4
  split
  · exact .inl rfl
  rename_i h5
  exact .inr ⟨by omega, by omega, by omega, by simpa using h3, by omega, by omega, rfl⟩
theorem has_pos (hok : p.Ok) (h : p.has x = true) : 1 ≤ x ∧ x < 18446744073709551615 := by
  obtain ⟨e, he, rfl⟩ := (has_iff hok).1 h
  exact hok.slot e he
theorem next_eq (hok : p.Ok) (hl : p.row.length < 4096) (h1 : p.ap < n) (h2 : ∀ x, p.ap < x → x < n → p.has x = true) (h3 : p.has n = false) : p.next = n := by
  have ha := abvL hok (p.ap + 1)
  obtain ⟨f1, f2, f3, f4, f5⟩ := runL_facts 4096 (p.ap + 1) (p.row.drop (findE (p.ap + 1) p.row))
  unfold Rl.next Rl.run
  have hll : (p.row.drop (findE (p.ap + 1) p.row)).length < 4096 := by rw [List.length_drop]; omega
  generalize (runL (p.ap + 1) 4096 (p.row.drop (findE (p.ap + 1) p.row))).length = k at *
  generalize p.row.drop (findE (p.ap + 1) p.row) = L at *
  -- each slot of the run is kept
  have hk1 : ∀ j, j < k → p.has (p.ap + 1 + j) = true := fun j hj => by
    have := ha.has j (by omega)
    rw [f3 j (by omega) hj] at this
    exact this
  have hk2 : p.has (p.ap + 1 + k) = false := by
    cases hh : p.has (p.ap + 1 + k) with
    | false => rfl
    | true =>
      exfalso
      obtain ⟨j, hj, he⟩ := ha.mem _ (by omega) hh
      by_cases hjk : j < k
      · have := f3 j hj hjk; omega
      · rcases f4 with h | h | ⟨hn, h⟩
        · omega
        · omega
        · by_cases e : j = k
          · subst e; exact h he
          · have h6 := ha.rise k j hn hj (by omega)
            by_cases hk0 : k = 0
            · subst hk0
              have := (ha.low 0 hn).1
              omega
            · have h7 := ha.rise (k - 1) k (by omega) hn (by omega)
              have h8 := f3 (k - 1) (by omega) (by omega)
              omega
  by_cases hlt : p.ap + 1 + k < n
  · have := h2 (p.ap + 1 + k) (by omega) hlt
    rw [hk2] at this; cases this
  · by_cases hgt : n < p.ap + 1 + k
    · have := hk1 (n - (p.ap + 1)) (by omega)
      rw [show p.ap + 1 + (n - (p.ap + 1)) = n by omega, h3] at this
      cases this
    · omega
theorem top_ge (p : Rl) : p.ap ≤ p.top := by unfold Rl.top; omega
theorem top_kept (hok : p.Ok) (h : p.ap < p.top) : p.has p.top = true := by
  unfold Rl.top at h ⊢
  by_cases h0 : p.row = []
  · rw [h0] at h; simp at h
  · obtain ⟨e, he⟩ : ∃ e, p.row.getLast? = some e := Option.isSome_iff_exists.1 (by simpa using h0)
    rw [he] at h ⊢
    simp at h ⊢
    rw [show max p.ap e.slot = e.slot by omega]
    exact (has_iff hok).2 ⟨e, List.mem_of_getLast? he, rfl⟩
theorem top_all (hok : p.Ok) (h : p.has x = true) : x ≤ p.top := by
  obtain ⟨e, he, rfl⟩ := (has_iff hok).1 h
  obtain ⟨i, hi, rfl⟩ := List.getElem_of_mem he
  unfold Rl.top
  rw [List.getLast?_eq_getElem?, List.getElem?_eq_getElem (by omega)]
  simp
  by_cases e : i = p.row.length - 1
  · subst e; omega
  · have := hok.rise.at (i := i) (j := p.row.length - 1) hi (by omega) (by omega)
    omega
theorem top_eq (hok : p.Ok) (h1 : p.ap ≤ n) (h2 : n = p.ap ∨ p.has n = true) (h3 : ∀ x, p.has x = true → x ≤ n) : p.top = n := by
  have a := top_ge p
  by_cases hlt : p.ap < p.top
  · have := h3 _ (top_kept hok hlt)
    rcases h2 with h2 | h2
    · omega
    · have := top_all hok h2; omega
  · rcases h2 with h2 | h2
    · omega
    · have := top_all hok h2; omega
theorem mem_hol (p : Rl) {M s x : Nat} (h : s ≤ p.ap + 1 + M) : x ∈ p.hol M s ↔ p.ap < x ∧ x < s ∧ p.has x = false := by
  unfold Rl.hol
  rw [List.take_of_length_le (by
    refine Nat.le_trans (List.length_filter_le _ _) ?_
    rw [List.length_range']; omega), List.mem_filter, List.mem_range'_1]
  simp only [Bool.not_eq_true']
  constructor
  · rintro ⟨h1, h2⟩; exact ⟨by omega, by omega, h2⟩
  · rintro ⟨h1, h2, h3⟩; exact ⟨by omega, h3⟩
theorem hol_rise (p : Rl) (M s : Nat) : (p.hol M s).Pairwise (· < ·) := by
  unfold Rl.hol
  refine List.Pairwise.sublist (List.take_sublist _ _) (List.Pairwise.sublist List.filter_sublist ?_)
  exact List.pairwise_lt_range'
end
/-- All slots below a number. -/
structure Sm (b : Nat) (p : Rl) : Prop where
  slot : ∀ e ∈ p.row, e.slot < b
  ap : p.ap < b
theorem Sm.new {b : Nat} (h : 0 < b) : Sm b Rl.new := ⟨by simp [Rl.new], h⟩
theorem Sm.learn {b : Nat} {p : Rl} (h : Sm b p) {s : Nat} (hs : s < b) (v : List UInt8) : Sm b (p.learn s v).2 := by
  rcases learn_or p s v with e | ⟨_, _, _, _, _, _, e⟩
  · rw [e]; exact h
  · rw [e]
    refine ⟨fun x hx => ?_, h.ap⟩
    rcases mem_insE.1 hx with rfl | hx
    · exact hs
    · exact h.slot x hx
theorem Sm.apply {b : Nat} {p : Rl} (h : Sm b p) : Sm b p.apply := by
  unfold Rl.apply
  split
  · rename_i hh
    obtain ⟨h1, h2⟩ := Rl.at_mem hh
    have := h.slot _ h1
    exact ⟨h.slot, by show p.ap + 1 < b; omega⟩
  · exact h
theorem Sm.len {b : Nat} {p : Rl} (h : Sm b p) (hok : p.Ok) : p.row.length ≤ b := rise_len hok.rise h.slot
theorem Sm.top {b : Nat} {p : Rl} (h : Sm b p) (hok : p.Ok) : p.top < b := by
  by_cases e : p.ap < p.top
  · obtain ⟨x, hx, e2⟩ := (has_iff hok).1 (top_kept hok e)
    have := h.slot x hx
    omega
  · have := top_ge p
    have := h.ap
    omega
/-- The holes filled: so many. -/
structure Filled (p q : Rl) (H : List Nat) (i : Nat) : Prop where
  ap : q.ap = p.ap
  has : ∀ x, q.has x = true ↔ p.has x = true ∨ ∃ j, ∃ hj : j < H.length, j < i ∧ H[j] = x
  sm : Sm 60 q
theorem Filled.start {p : Rl} (h : Sm 60 p) (H : List Nat) : Filled p p H 0 := ⟨rfl, fun x => ⟨.inl, fun h => by rcases h with h | ⟨j, _, h, _⟩; exact h; omega⟩, h⟩
section
variable {p q : Rl} {i : Nat}
theorem Filled.at_ (h : Filled p q (p.hol 1000 p.top) i) (hp : Sm 60 p) (hpo : p.Ok) (hqo : q.Ok) (hi : i < (p.hol 1000 p.top).length) :
    p.ap < (p.hol 1000 p.top)[i] ∧ (p.hol 1000 p.top)[i] < p.top ∧ q.next = (p.hol 1000 p.top)[i] ∧ q.learn (p.hol 1000 p.top)[i] [] = (0, ⟨q.ap, insE ⟨(p.hol 1000 p.top)[i], []⟩ q.row⟩) ∧ Filled p ⟨q.ap, insE ⟨(p.hol 1000 p.top)[i], []⟩ q.row⟩ (p.hol 1000 p.top) (i + 1) := by
  have htop := hp.top hpo
  have hmem := fun x => mem_hol p (M := 1000) (s := p.top) (x := x) (by omega)
  have hrise := fun a b ha hb hab => (List.pairwise_iff_getElem.1 (hol_rise p 1000 p.top)) a b ha hb hab
  generalize p.hol 1000 p.top = H at *
  obtain ⟨h1, h2, h3⟩ := (hmem H[i]).1 (List.getElem_mem hi)
  have hqn : q.has H[i] = false := by
    cases hh : q.has H[i] with
    | false => rfl
    | true =>
      rcases (h.has _).1 hh with h4 | ⟨j, hj, hji, he⟩
      · rw [h3] at h4; cases h4
      · have := hrise j i hj hi hji; omega
  have hlen := h.sm.len hqo
  have hap := h.ap
  refine ⟨h1, h2, next_eq hqo (by omega) (by omega) (fun x hx1 hx2 => ?_) hqn, learn_new (by omega) (by omega) (by simp) hqn (by omega) (by omega), ⟨hap, fun x => ?_, ⟨fun e he => ?_, h.sm.ap⟩⟩⟩
  · rw [h.has]
    cases hh : p.has x with
    | true => exact .inl rfl
    | false =>
      right
      obtain ⟨j, hj, he⟩ := List.getElem_of_mem ((hmem x).2 ⟨by omega, by omega, hh⟩)
      refine ⟨j, hj, ?_, he⟩
      by_cases hji : j < i
      · exact hji
      · by_cases e : j = i
        · subst e; omega
        · have := hrise i j hi hj (by omega); omega
  · rw [has_ins hqo hqn, h.has]
    constructor
    · rintro ((h4 | ⟨j, hj, hji, he⟩) | rfl)
      · exact .inl h4
      · exact .inr ⟨j, hj, by omega, he⟩
      · exact .inr ⟨i, hi, by omega, rfl⟩
    · rintro (h4 | ⟨j, hj, hji, he⟩)
      · exact .inl (.inl h4)
      · by_cases e : j = i
        · subst e; exact .inr he.symm
        · exact .inl (.inr ⟨j, hj, by omega, he⟩)
  · rcases mem_insE.1 he with rfl | he
    · show H[i] < 60; omega
    · exact h.sm.slot e he
/-- All filled: nothing lacks up to the top. -/
theorem Filled.done (h : Filled p q (p.hol 1000 p.top) (p.hol 1000 p.top).length) (hp : Sm 60 p) (hpo : p.Ok) (hqo : q.Ok) :
    q.hol 1000 q.top = [] ∧ q.next = p.top + 1 ∧ q.ap ≤ p.top ∧ (∀ x, q.ap < x → x ≤ p.top → q.has x = true) ∧ q.has (p.top + 1) = false ∧ p.top < 60 := by
  have htop := hp.top hpo
  have hmem := fun x => mem_hol p (M := 1000) (s := p.top) (x := x) (by omega)
  generalize p.hol 1000 p.top = H at *
  have hap := h.ap
  have hge := top_ge p
  have hall : ∀ x, q.ap < x → x ≤ p.top → q.has x = true := fun x h1 h2 => by
    rw [h.has]
    cases hh : p.has x with
    | true => exact .inl rfl
    | false =>
      by_cases e : x = p.top
      · subst e
        have := top_kept hpo (by omega)
        rw [hh] at this; cases this
      · right
        obtain ⟨j, hj, he⟩ := List.getElem_of_mem ((hmem x).2 ⟨by omega, by omega, hh⟩)
        exact ⟨j, hj, hj, he⟩
  have hle : ∀ x, q.has x = true → x ≤ p.top := fun x hx => by
    rcases (h.has x).1 hx with h4 | ⟨j, hj, _, rfl⟩
    · exact top_all hpo h4
    · have := ((hmem H[j]).1 (List.getElem_mem hj)).2.1; omega
  have hno : q.has (p.top + 1) = false := by
    cases hh : q.has (p.top + 1) with
    | false => rfl
    | true => have := hle _ hh; omega
  have htq : q.top = p.top := top_eq hqo (by omega) (by
    by_cases e : p.top = q.ap
    · exact .inl e
    · exact .inr (hall _ (by omega) (Nat.le_refl _))) hle
  have hlen := h.sm.len hqo
  refine ⟨?_, next_eq hqo (by omega) (by omega) (fun x h1 h2 => hall x h1 (by omega)) hno, by omega, hall, hno, htop⟩
  refine List.eq_nil_iff_forall_not_mem.2 fun x hx => ?_
  obtain ⟨h1, h2, h3⟩ := (mem_hol q (by omega)).1 hx
  rw [hall x h1 (by omega)] at h3
  cases h3
/-- As many as may be applied. -/
theorem rest_end {p : Rl} {i t : Nat} (h1 : ∀ j, j < i → p.has (p.ap + 1 + j) = true) (h2 : i < 300 → p.has (p.ap + 1 + i) = false) (hi : i ≤ 300) (ha : p.ap ≤ t) (ht : t < p.ap + 300) (hk : ∀ x, p.ap < x → x ≤ t → p.has x = true) (hn : p.has (t + 1) = false) : p.ap + i = t := by
  by_cases hlt : p.ap + i < t
  · have := h2 (by omega)
    rw [hk _ (by omega) (by omega)] at this; cases this
  · by_cases hgt : t < p.ap + i
    · have := h1 (t - p.ap) (by omega)
      rw [show p.ap + 1 + (t - p.ap) = t + 1 by omega, hn] at this; cases this
    · omega
end
end Go.Proofs.Ytnomddhgcdoifaa
