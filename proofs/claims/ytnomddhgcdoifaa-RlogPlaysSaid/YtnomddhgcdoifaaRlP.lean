/- Layer 12, plain: entries by rising slots; the log. No program is named here. -/
import Derived.Test.YtnomddhgcdoifaaFlat
namespace Go.Proofs.Ytnomddhgcdoifaa
open Go.RowKit

structure En where
  slot : Nat
  val : List UInt8
structure Rl where
  ap : Nat
  row : List En
/-- How many stand below a slot. -/
def findE (s : Nat) (l : List En) : Nat := (l.takeWhile fun e => decide (e.slot < s)).length
/-- A slot's entry stands there. -/
def hasE (s : Nat) (l : List En) : Bool := decide ((l[findE s l]?).map (·.slot) = some s)
def Rise (l : List En) : Prop := l.Pairwise fun u v => u.slot < v.slot

theorem findE_cons (s : Nat) (e : En) (r : List En) : findE s (e :: r) = if e.slot < s then findE s r + 1 else 0 := by
  unfold findE
  by_cases h : e.slot < s
  · rw [List.takeWhile_cons_of_pos (by simpa using h), if_pos h]; rfl
  · rw [List.takeWhile_cons_of_neg (by simpa using h), if_neg h]; rfl
theorem findE_le (s : Nat) : ∀ l : List En, findE s l ≤ l.length
  | [] => by simp [findE]
  | e :: r => by
    rw [findE_cons]
    have := findE_le s r
    split <;> simp <;> omega
theorem findE_lt {s : Nat} : ∀ {l : List En} {i : Nat} (hi : i < l.length), i < findE s l → l[i].slot < s
  | e :: r, i, hi, h => by
    rw [findE_cons] at h
    split at h
    · rename_i he
      match i, hi with
      | 0, _ => exact he
      | i + 1, hi =>
        have hi' : i < r.length := by simpa using hi
        exact findE_lt (l := r) hi' (by omega)
    · omega
theorem findE_ge {s : Nat} : ∀ {l : List En} {i : Nat} (hi : i < l.length), Rise l → findE s l ≤ i → s ≤ l[i].slot
  | e :: r, i, hi, hs, h => by
    rw [findE_cons] at h
    have h0 := List.pairwise_cons.1 hs
    split at h
    · match i, hi with
      | i + 1, hi => exact findE_ge (l := r) (by simpa using hi) h0.2 (by omega)
    · rename_i he
      match i, hi with
      | 0, _ => show s ≤ e.slot; omega
      | i + 1, hi =>
        have hi' : i < r.length := by simpa using hi
        have := h0.1 r[i] (List.getElem_mem hi')
        show s ≤ r[i].slot
        omega
theorem Rise.at {l : List En} (h : Rise l) {i j : Nat} (hi : i < l.length) (hj : j < l.length) (hij : i < j) : l[i].slot < l[j].slot := (List.pairwise_iff_getElem.1 h) i j hi hj hij
theorem findE_unique {s i : Nat} {l : List En} (hs : Rise l) (hi : i ≤ l.length) (h1 : ∀ k (hk : k < l.length), k < i → l[k].slot < s) (h2 : ∀ k (hk : k < l.length), i ≤ k → s ≤ l[k].slot) : i = findE s l := by
  have hle := findE_le s l
  by_cases h : i < findE s l
  · have := findE_lt (l := l) (i := i) (by omega) h
    have := h2 i (by omega) (Nat.le_refl _)
    omega
  · by_cases h' : findE s l < i
    · have := findE_ge (l := l) (i := findE s l) (by omega) hs (Nat.le_refl _)
      have := h1 (findE s l) (by omega) h'
      omega
    · omega
theorem hasE_at {s : Nat} {l : List En} (h : hasE s l = true) : ∃ hk : findE s l < l.length, l[findE s l].slot = s := by
  unfold hasE at h
  have h := of_decide_eq_true h
  by_cases hk : findE s l < l.length
  · rw [List.getElem?_eq_getElem hk] at h
    exact ⟨hk, by simpa using h⟩
  · rw [List.getElem?_eq_none (by omega)] at h
    simp at h
theorem hasE_of {l : List En} (hr : Rise l) {s k : Nat} (hk : k < l.length) (he : l[k].slot = s) : findE s l = k ∧ hasE s l = true := by
  have e : k = findE s l := findE_unique hr (by omega) (fun i hi hik => by have := hr.at hi hk hik; omega) fun i hi hik => by
    by_cases e : i = k
    · subst e; omega
    · have := hr.at hk hi (by omega); omega
  refine ⟨e.symm, ?_⟩
  unfold hasE
  rw [← e, List.getElem?_eq_getElem hk]
  simp [he]
theorem hasE_iff {s : Nat} {l : List En} (hr : Rise l) : hasE s l = true ↔ ∃ e ∈ l, e.slot = s := by
  constructor
  · intro h
    obtain ⟨hk, he⟩ := hasE_at h
    exact ⟨_, List.getElem_mem hk, he⟩
  · rintro ⟨e, he, hs⟩
    obtain ⟨k, hk, rfl⟩ := List.getElem_of_mem he
    exact (hasE_of hr hk hs).2
theorem hasE_not {s : Nat} {l : List En} (hr : Rise l) : hasE s l = false ↔ ∀ e ∈ l, e.slot ≠ s := by
  rw [← Bool.not_eq_true, hasE_iff hr]
  exact ⟨fun h e he hs => h ⟨e, he, hs⟩, fun h ⟨e, he, hs⟩ => h e he hs⟩
theorem Rise.one {l : List En} (hr : Rise l) {a b : En} (ha : a ∈ l) (hb : b ∈ l) (h : a.slot = b.slot) : a = b := by
  obtain ⟨i, hi, rfl⟩ := List.getElem_of_mem ha
  obtain ⟨j, hj, rfl⟩ := List.getElem_of_mem hb
  by_cases e1 : i < j
  · have := hr.at hi hj e1; omega
  · by_cases e2 : j < i
    · have := hr.at hj hi e2; omega
    · have : i = j := by omega
      subst this; rfl
/-- What is put in at its place. -/
def insE (e : En) (l : List En) : List En := l.take (findE e.slot l) ++ e :: l.drop (findE e.slot l)
theorem mem_insE {e x : En} {l : List En} : x ∈ insE e l ↔ x = e ∨ x ∈ l := by
  unfold insE
  rw [List.mem_append, List.mem_cons]
  conv => rhs; rw [← List.take_append_drop (findE e.slot l) l, List.mem_append]
  constructor
  · rintro (h | h | h)
    · exact .inr (.inl h)
    · exact .inl h
    · exact .inr (.inr h)
  · rintro (h | h | h)
    · exact .inr (.inl h)
    · exact .inl h
    · exact .inr (.inr h)
theorem insE_len (e : En) (l : List En) : (insE e l).length = l.length + 1 := by
  unfold insE
  have := findE_le e.slot l
  rw [List.length_append, List.length_cons, List.length_take, List.length_drop]
  omega
theorem Rise.ins {e : En} {l : List En} (hr : Rise l) (hn : hasE e.slot l = false) : Rise (insE e l) := by
  unfold insE Rise
  have hno := (hasE_not hr).1 hn
  refine List.pairwise_append.2 ⟨hr.sublist (List.take_sublist _ _), List.pairwise_cons.2 ⟨fun x hx => ?_, hr.sublist (List.drop_sublist _ _)⟩, fun x hx y hy => ?_⟩
  · obtain ⟨i, hi, rfl⟩ := List.getElem_of_mem hx
    rw [List.length_drop] at hi
    rw [List.getElem_drop]
    have h1 := findE_ge (s := e.slot) (l := l) (i := findE e.slot l + i) (by omega) hr (by omega)
    have h2 := hno _ (List.getElem_mem (show findE e.slot l + i < l.length by omega))
    omega
  · obtain ⟨i, hi, rfl⟩ := List.getElem_of_mem hx
    rw [List.length_take] at hi
    rw [List.getElem_take]
    have h1 := findE_lt (s := e.slot) (l := l) (i := i) (by omega) (by omega)
    rcases List.mem_cons.1 hy with rfl | hy
    · exact h1
    · obtain ⟨j, hj, rfl⟩ := List.getElem_of_mem hy
      rw [List.length_drop] at hj
      rw [List.getElem_drop]
      have h2 := findE_ge (s := e.slot) (l := l) (i := findE e.slot l + j) (by omega) hr (by omega)
      omega
/-- What stands above a slot. -/
def aboveE (u : Nat) (l : List En) : List En := l.drop (findE (u + 1) l)
theorem mem_above {u : Nat} {l : List En} (hr : Rise l) {x : En} : x ∈ aboveE u l ↔ x ∈ l ∧ u < x.slot := by
  unfold aboveE
  constructor
  · intro h
    refine ⟨(List.drop_sublist _ _).subset h, ?_⟩
    obtain ⟨i, hi, rfl⟩ := List.getElem_of_mem h
    rw [List.length_drop] at hi
    rw [List.getElem_drop]
    have h1 := findE_ge (s := u + 1) (l := l) (i := findE (u + 1) l + i) (by omega) hr (by omega)
    omega
  · rintro ⟨h, hu⟩
    obtain ⟨i, hi, rfl⟩ := List.getElem_of_mem h
    have h1 : findE (u + 1) l ≤ i := by
      by_cases h : i < findE (u + 1) l
      · have := findE_lt (l := l) hi h; omega
      · omega
    refine List.mem_iff_getElem.2 ⟨i - findE (u + 1) l, by rw [List.length_drop]; omega, ?_⟩
    rw [List.getElem_drop]
    congr 1
    omega
theorem Rise.above {u : Nat} {l : List En} (hr : Rise l) : Rise (aboveE u l) := hr.sublist (List.drop_sublist _ _)
theorem find_succ {u : Nat} {l : List En} (hr : Rise l) : findE (u + 1) l = if hasE u l = true then findE u l + 1 else findE u l := by
  symm
  have hle := findE_le u l
  split
  · rename_i h
    obtain ⟨hk, he⟩ := hasE_at h
    refine findE_unique hr (by omega) (fun k hk2 hk3 => ?_) fun k hk2 hk3 => ?_
    · by_cases e : k = findE u l
      · subst e; omega
      · have := hr.at hk2 hk (by omega); omega
    · have := hr.at hk hk2 (by omega); omega
  · rename_i h
    have hno := (hasE_not hr).1 (by simpa using h)
    refine findE_unique hr hle (fun k hk2 hk3 => ?_) fun k hk2 hk3 => ?_
    · have := findE_lt hk2 hk3; omega
    · have := findE_ge hk2 hr hk3
      have := hno _ (List.getElem_mem hk2)
      omega
/-- One behind the other from a slot on, at most so many. -/
def runL (s : Nat) : Nat → List En → List En
  | 0, _ => []
  | _ + 1, [] => []
  | m + 1, e :: r => if e.slot = s then e :: runL (s + 1) m r else []
theorem runL_take : ∀ (m s : Nat) (l : List En) (n : Nat), n ≤ m → n ≤ l.length → (∀ j (hj : j < l.length), j < n → l[j].slot = s + j) → (n = m ∨ n = l.length ∨ ∃ hn : n < l.length, l[n].slot ≠ s + n) → runL s m l = l.take n
  | 0, s, l, n, h1, h2, h3, h4 => by
    obtain rfl : n = 0 := by omega
    rw [runL]; simp
  | m + 1, s, [], n, h1, h2, h3, h4 => by rw [runL]; simp
  | m + 1, s, e :: r, 0, h1, h2, h3, h4 => by
    have he : e.slot ≠ s := by
      rcases h4 with h4 | h4 | ⟨hn, h4⟩
      · omega
      · simp at h4
      · simpa using h4
    rw [runL, if_neg he]; simp
  | m + 1, s, e :: r, n + 1, h1, h2, h3, h4 => by
    have he : e.slot = s := h3 0 (by simp) (by omega)
    have h3' : ∀ j (hj : j < r.length), j < n → r[j].slot = s + 1 + j := fun j hj hjn => by
      have : r[j].slot = s + (j + 1) := h3 (j + 1) (by simpa using hj) (by omega)
      omega
    have h4' : n = m ∨ n = r.length ∨ ∃ hn : n < r.length, r[n].slot ≠ s + 1 + n := by
      rcases h4 with h4 | h4 | ⟨hn, h4⟩
      · exact .inl (by omega)
      · exact .inr (.inl (by simpa using h4))
      · have hn' : n < r.length := by simpa using hn
        have h4 : r[n].slot ≠ s + (n + 1) := h4
        exact .inr (.inr ⟨hn', by omega⟩)
    rw [runL, if_pos he, List.take_succ_cons, runL_take m (s + 1) r n (by omega) (by simpa using h2) h3' h4']
theorem runL_facts : ∀ (m s : Nat) (l : List En), (runL s m l).length ≤ m ∧ (runL s m l).length ≤ l.length ∧ (∀ j (hj : j < l.length), j < (runL s m l).length → l[j].slot = s + j) ∧ ((runL s m l).length = m ∨ (runL s m l).length = l.length ∨ ∃ hn : (runL s m l).length < l.length, l[(runL s m l).length].slot ≠ s + (runL s m l).length) ∧ runL s m l = l.take (runL s m l).length
  | 0, s, l => by simp [runL]
  | m + 1, s, [] => by simp [runL]
  | m + 1, s, e :: r => by
    obtain ⟨h1, h2, h3, h4, h5⟩ := runL_facts m (s + 1) r
    rw [runL]
    split
    · rename_i he
      refine ⟨by simp; omega, by simp; omega, fun j hj hjn => ?_, ?_, ?_⟩
      · match j, hj with
        | 0, _ => simpa using he
        | j + 1, hj =>
          have := h3 j (by simpa using hj) (by simpa using hjn)
          simp
          omega
      · rcases h4 with h4 | h4 | ⟨hn, h4⟩
        · exact .inl (by simp; omega)
        · exact .inr (.inl (by simp; omega))
        · refine .inr (.inr ⟨by simp; omega, ?_⟩)
          simp
          omega
      · rw [List.length_cons, List.take_succ_cons, ← h5]
    · rename_i he
      exact ⟨by simp, by simp, fun j hj h => by simp at h, .inr (.inr ⟨by simp, by simpa using he⟩), by simp⟩

def Rl.at_ (p : Rl) (s : Nat) : En := p.row.getD (findE s p.row) ⟨0, []⟩
def Rl.has (p : Rl) (s : Nat) : Bool := hasE s p.row
def Rl.learn (p : Rl) (s : Nat) (v : List UInt8) : Int × Rl :=
  if s = 0 ∨ s = 18446744073709551615 then (2, p)
  else if 100 < v.length then (3, p)
  else if p.has s = true then (if (p.at_ s).val = v then (0, p) else (120, p))
  else if s ≤ p.ap then (0, p)
  else if 4096 ≤ p.row.length then (5, p)
  else (0, { p with row := insE ⟨s, v⟩ p.row })
def Rl.apply (p : Rl) : Rl := if p.has (p.ap + 1) = true then { p with ap := p.ap + 1 } else p
def Rl.told (p : Rl) : En × Bool := if p.has (p.ap + 1) = true then (p.at_ (p.ap + 1), true) else (⟨0, []⟩, false)
def Rl.run (p : Rl) (s m : Nat) : List En := runL s m (p.row.drop (findE s p.row))
def Rl.next (p : Rl) : Nat := p.ap + 1 + (p.run (p.ap + 1) 4096).length
def Rl.top (p : Rl) : Nat := max p.ap ((p.row.getLast?.map (·.slot)).getD 0)
def Rl.hol (p : Rl) (m s : Nat) : List Nat := ((List.range' (p.ap + 1) (s - (p.ap + 1))).filter fun x => !p.has x).take m
def Rl.trim (p : Rl) (u : Nat) : Nat × Rl := (findE (min u p.ap + 1) p.row, { p with row := aboveE (min u p.ap) p.row })
def Rl.install (p : Rl) (u : Nat) : Bool × Rl := if u ≤ p.ap ∨ u = 18446744073709551615 then (false, p) else (true, ⟨u, aboveE u p.row⟩)
def Rl.new : Rl := ⟨0, []⟩
structure Rl.Ok (p : Rl) : Prop where
  ap : p.ap < 18446744073709551615
  rise : Rise p.row
  len : p.row.length ≤ 4096
  slot : ∀ e ∈ p.row, 1 ≤ e.slot ∧ e.slot < 18446744073709551615
  val : ∀ e ∈ p.row, e.val.length ≤ 100
theorem Rl.Ok.new : Rl.new.Ok := ⟨by simp [Rl.new], by simp [Rl.new, Rise], by simp [Rl.new], by simp [Rl.new], by simp [Rl.new]⟩
theorem Rl.at_eq {p : Rl} {s : Nat} (h : p.has s = true) : ∃ hk : findE s p.row < p.row.length, p.at_ s = p.row[findE s p.row] ∧ (p.at_ s).slot = s := by
  obtain ⟨hk, he⟩ := hasE_at h
  have : p.at_ s = p.row[findE s p.row] := by unfold Rl.at_; simp [List.getD, hk]
  exact ⟨hk, this, by rw [this]; exact he⟩
theorem Rl.at_mem {p : Rl} {s : Nat} (h : p.has s = true) : p.at_ s ∈ p.row ∧ (p.at_ s).slot = s := by
  obtain ⟨hk, e1, e2⟩ := Rl.at_eq h
  exact ⟨by rw [e1]; exact List.getElem_mem hk, e2⟩
theorem Rl.Ok.learn {p : Rl} (h : p.Ok) (s : Nat) (hs : s ≤ 18446744073709551615) (v : List UInt8) : (p.learn s v).2.Ok := by
  unfold Rl.learn
  split
  · exact h
  rename_i h1
  split
  · exact h
  rename_i h2
  split
  · split <;> exact h
  rename_i h3
  split
  · exact h
  rename_i h4
  split
  · exact h
  rename_i h5
  refine ⟨h.ap, h.rise.ins (by simpa [Rl.has] using h3), by rw [insE_len]; show p.row.length + 1 ≤ 4096; omega, fun e he => ?_, fun e he => ?_⟩
  · rcases mem_insE.1 he with rfl | he
    · exact ⟨by show 1 ≤ s; omega, by show s < _; omega⟩
    · exact h.slot e he
  · rcases mem_insE.1 he with rfl | he
    · show v.length ≤ 100; omega
    · exact h.val e he
theorem Rl.Ok.apply {p : Rl} (h : p.Ok) : p.apply.Ok := by
  unfold Rl.apply
  split
  · rename_i h1
    obtain ⟨h2, h3⟩ := Rl.at_mem h1
    have := (h.slot _ h2).2
    exact ⟨by show p.ap + 1 < _; omega, h.rise, h.len, h.slot, h.val⟩
  · exact h
theorem Rl.Ok.cutTo {p : Rl} (h : p.Ok) (a u : Nat) (ha : a < 18446744073709551615) : Rl.Ok ⟨a, aboveE u p.row⟩ :=
  ⟨ha, h.rise.above, by show (aboveE u p.row).length ≤ 4096; unfold aboveE; rw [List.length_drop]; have := h.len; omega, fun e he => h.slot e ((mem_above h.rise).1 he).1, fun e he => h.val e ((mem_above h.rise).1 he).1⟩
theorem Rl.Ok.trim {p : Rl} (h : p.Ok) (u : Nat) : (p.trim u).2.Ok := h.cutTo p.ap _ h.ap
theorem Rl.Ok.install {p : Rl} (h : p.Ok) (u : Nat) (hu : u ≤ 18446744073709551615) : (p.install u).2.Ok := by
  unfold Rl.install
  split
  · exact h
  · exact h.cutTo u u (by omega)
end Go.Proofs.Ytnomddhgcdoifaa
