/- Layer 13, plain: clients that are remembered; the table. No program is named here. -/
import Derived.Test.YtgippbbbfpkhhaaSesP
namespace Go.Proofs.Ytgippbbbfpkhhaa
open Go.RowKit

structure Cl where
  id : Nat
  num : Nat
  busy : Bool
  rep : List UInt8
structure Tb where
  most : Nat
  row : List Cl
  nb : Int
  na : Int
def Cl.none : Cl := ⟨0, 0, false, []⟩
/-- Where a client stands. -/
def findC (id : Nat) (l : List Cl) : Option Nat := l.findIdx? fun c => c.id == id
/-- The first client that is not under way. -/
def freeC (l : List Cl) : Option Nat := l.findIdx? fun c => !c.busy
def useC (k : Nat) (c : Cl) (l : List Cl) : List Cl := l.eraseIdx k ++ [c]
def Tb.at_ (t : Tb) (k : Nat) : Cl := t.row.getD k Cl.none
def Tb.new (most : Nat) : Tb := ⟨most, [], 0, 0⟩
def more1 (x : Int) : Int := IntKind.i64.wrap (x + 1)
structure Bg where
  kind : Nat
  rep : List UInt8
  err : Int
  tb : Tb
def Tb.fresh (t : Tb) (id num : Nat) (l : List Cl) : Bg := ⟨1, [], 0, { t with row := l ++ [⟨id, num, true, []⟩], nb := more1 t.nb }⟩
def Tb.begin (t : Tb) (id num : Nat) : Bg :=
  if num = 0 then ⟨0, [], 2, t⟩
  else match findC id t.row with
    | some k =>
      if num < (t.at_ k).num then ⟨0, [], 70, t⟩
      else if (t.at_ k).num < num then t.fresh id num (t.row.eraseIdx k)
      else if (t.at_ k).busy then ⟨3, [], 0, { t with row := useC k (t.at_ k) t.row }⟩
      else ⟨2, (t.at_ k).rep, 0, { t with row := useC k (t.at_ k) t.row, na := more1 t.na }⟩
    | none =>
      if t.row.length < t.most then t.fresh id num t.row
      else match freeC t.row with
        | some k => t.fresh id num (t.row.eraseIdx k)
        | none => ⟨0, [], 130, t⟩
def Tb.ended (t : Tb) (id num : Nat) (rep : List UInt8) : Int × Tb :=
  if 200 < rep.length then (3, t)
  else match findC id t.row with
    | some k => if (t.at_ k).num = num ∧ (t.at_ k).busy = true then (0, { t with row := useC k ⟨id, num, false, rep⟩ t.row }) else (4, t)
    | none => (4, t)
structure Cl.Ok (c : Cl) : Prop where
  id : c.id < 18446744073709551616
  num : 0 < c.num ∧ c.num < 18446744073709551616
  rep : c.rep.length ≤ 200
  busy : c.busy = true → c.rep = []
def i64R (x : Int) : Prop := -9223372036854775808 ≤ x ∧ x ≤ 9223372036854775807
structure Tb.Ok (t : Tb) : Prop where
  most : 1 ≤ t.most ∧ t.most ≤ 64
  len : t.row.length ≤ t.most
  ids : (t.row.map (·.id)).Nodup
  each : ∀ c ∈ t.row, c.Ok
  nb : i64R t.nb
  na : i64R t.na

theorem more1_in (x : Int) : i64R (more1 x) := by
  unfold more1 i64R
  rw [IntKind.wrap_i64]
  omega
section
variable {l : List Cl} {id k : Nat} {c : Cl}
theorem findC_some (h : findC id l = some k) : ∃ hk : k < l.length, l[k].id = id := by
  unfold findC at h
  rw [List.findIdx?_eq_some_iff_getElem] at h
  obtain ⟨hk, h1, _⟩ := h
  exact ⟨hk, by simpa using h1⟩
theorem findC_none (h : findC id l = none) : ∀ c ∈ l, c.id ≠ id := by
  unfold findC at h
  rw [List.findIdx?_eq_none_iff] at h
  intro c hc e
  have := h c hc
  simp [e] at this
theorem freeC_some (h : freeC l = some k) : ∃ hk : k < l.length, l[k].busy = false ∧ ∀ j (hj : j < k), l[j].busy = true := by
  unfold freeC at h
  rw [List.findIdx?_eq_some_iff_getElem] at h
  obtain ⟨hk, h1, h2⟩ := h
  refine ⟨hk, by simpa using h1, fun j hj => ?_⟩
  have := h2 j hj
  simpa using this
theorem freeC_none (h : freeC l = none) : ∀ c ∈ l, c.busy = true := by
  unfold freeC at h
  rw [List.findIdx?_eq_none_iff] at h
  intro c hc
  have := h c hc
  simpa using this
theorem Tb.at_eq (t : Tb) (h : k < t.row.length) : t.at_ k = t.row[k] := by unfold Tb.at_; simp [List.getD, h]
/-- A client is cut out: all others. -/
theorem erase_others (hn : (l.map (·.id)).Nodup) (hk : k < l.length) : l.eraseIdx k = l.filter fun c => !(c.id == l[k].id) := by
  induction l generalizing k with
  | nil => simp at hk
  | cons x r ih =>
    rw [List.map_cons, List.nodup_cons] at hn
    obtain ⟨h1, h2⟩ := hn
    have h1' : ∀ c ∈ r, c.id ≠ x.id := fun c hc e => h1 (by rw [← e]; exact List.mem_map_of_mem hc)
    cases k with
    | zero =>
      simp only [List.eraseIdx_cons_zero, List.getElem_cons_zero, List.filter_cons, beq_self_eq_true, Bool.not_true, Bool.false_eq_true, if_false]
      exact (List.filter_eq_self.2 fun c hc => by simpa using h1' c hc).symm
    | succ k =>
      have hk' : k < r.length := by simpa using hk
      have hx : x.id ≠ r[k].id := fun e => h1' _ (List.getElem_mem hk') e.symm
      simp only [List.eraseIdx_cons_succ, List.getElem_cons_succ, List.filter_cons]
      rw [if_pos (by simpa using hx), ih h2 hk']
theorem erase_nodup (hn : (l.map (·.id)).Nodup) (k : Nat) : ((l.eraseIdx k).map (·.id)).Nodup := hn.sublist ((List.eraseIdx_sublist l k).map _)
theorem erase_id (hn : (l.map (·.id)).Nodup) (hk : k < l.length) : ∀ c ∈ l.eraseIdx k, c.id ≠ l[k].id := by
  rw [erase_others hn hk]
  intro c hc
  simpa using (List.mem_filter.1 hc).2
theorem push_nodup (hn : (l.map (·.id)).Nodup) (hc : ∀ x ∈ l, x.id ≠ c.id) : ((l ++ [c]).map (·.id)).Nodup := by
  rw [List.map_append, List.nodup_append]
  refine ⟨hn, by simp, fun a ha b hb e => ?_⟩
  obtain ⟨x, hx, rfl⟩ := List.mem_map.1 ha
  simp only [List.map_cons, List.map_nil, List.mem_singleton] at hb
  exact hc x hx (e.trans hb)
theorem mem_use {x : Cl} (hx : x ∈ useC k c l) : x = c ∨ x ∈ l := by
  unfold useC at hx
  rcases List.mem_append.1 hx with h | h
  · exact .inr ((List.eraseIdx_sublist _ _).subset h)
  · exact .inl (List.mem_singleton.1 h)
theorem use_len (hk : k < l.length) : (useC k c l).length = l.length := by
  unfold useC
  rw [List.length_append, List.length_eraseIdx_of_lt hk]
  simp
  omega
theorem use_nodup (hn : (l.map (·.id)).Nodup) (hk : k < l.length) (hc : c.id = l[k].id) : ((useC k c l).map (·.id)).Nodup :=
  push_nodup (erase_nodup hn k) fun x hx => by rw [hc]; exact erase_id hn hk x hx
end
theorem Tb.Ok.new {m : Nat} (h : 1 ≤ m ∧ m ≤ 64) : (Tb.new m).Ok := ⟨h, Nat.zero_le _, List.nodup_nil, fun _ h => (List.not_mem_nil h).elim, ⟨by show (_ : Int) ≤ 0; decide, by show (0 : Int) ≤ _; decide⟩, ⟨by show (_ : Int) ≤ 0; decide, by show (0 : Int) ≤ _; decide⟩⟩
theorem Tb.Ok.fresh {t : Tb} (h : t.Ok) {id num : Nat} (hi : id < 18446744073709551616) (hn : 0 < num ∧ num < 18446744073709551616) {l : List Cl} (hl : l.length < t.most) (hs : l.Sublist t.row) (hne : ∀ c ∈ l, c.id ≠ id) : (t.fresh id num l).tb.Ok :=
  ⟨h.most, by simp only [Tb.fresh, List.length_append, List.length_singleton]; omega, push_nodup (h.ids.sublist (hs.map _)) hne, fun c hc => by
    rcases List.mem_append.1 hc with hc | hc
    · exact h.each c (hs.subset hc)
    · rw [List.mem_singleton.1 hc]
      exact ⟨hi, hn, by simp, fun _ => rfl⟩, more1_in _, h.na⟩
theorem Tb.Ok.use {t : Tb} (h : t.Ok) {k : Nat} {c : Cl} (hk : k < t.row.length) (hc : c.Ok) (hid : c.id = t.row[k].id) (na : Int) (hna : i64R na) : Tb.Ok { t with row := useC k c t.row, na := na } :=
  ⟨h.most, by show (useC k c t.row).length ≤ _; rw [use_len hk]; exact h.len, use_nodup h.ids hk hid, fun x hx => by
    rcases mem_use hx with rfl | hx
    · exact hc
    · exact h.each x hx, h.nb, hna⟩
theorem Tb.Ok.begin {t : Tb} (h : t.Ok) {id num : Nat} (hi : id < 18446744073709551616) (hn : num < 18446744073709551616) : (t.begin id num).tb.Ok := by
  unfold Tb.begin
  split
  · exact h
  · split
    · rename_i k hk
      obtain ⟨hlt, hid⟩ := findC_some hk
      have hc := h.each _ (List.getElem_mem hlt)
      have hlen := h.len
      rw [Tb.at_eq _ hlt]
      split
      · exact h
      · split
        · exact h.fresh hi ⟨by omega, hn⟩ (by rw [List.length_eraseIdx_of_lt hlt]; omega) (List.eraseIdx_sublist _ _) (fun c hc => hid ▸ erase_id h.ids hlt c hc)
        · split
          · exact h.use hlt hc rfl t.na h.na
          · exact h.use hlt hc rfl _ (more1_in _)
    · rename_i hk
      split
      · exact h.fresh hi ⟨by omega, hn⟩ (by assumption) (List.Sublist.refl _) (findC_none hk)
      · split
        · rename_i k hf
          obtain ⟨hlt, _⟩ := freeC_some hf
          have hlen := h.len
          exact h.fresh hi ⟨by omega, hn⟩ (by rw [List.length_eraseIdx_of_lt hlt]; omega) (List.eraseIdx_sublist _ _) (fun c hc => findC_none hk c ((List.eraseIdx_sublist _ _).subset hc))
        · exact h
theorem Tb.Ok.ended {t : Tb} (h : t.Ok) {id num : Nat} {rep : List UInt8} : (t.ended id num rep).2.Ok := by
  unfold Tb.ended
  split
  · exact h
  · split
    · rename_i k hk
      obtain ⟨hlt, hid⟩ := findC_some hk
      have hc := h.each _ (List.getElem_mem hlt)
      rw [Tb.at_eq _ hlt]
      split
      · rename_i he
        exact h.use hlt ⟨by rw [← hid]; exact hc.id, by rw [← he.1]; exact hc.num, by dsimp only; omega, fun e => by cases e⟩ hid.symm t.na h.na
      · exact h
    · exact h
theorem Tb.begin_len (t : Tb) (id num : Nat) : (t.begin id num).rep.length ≤ 200 ∨ ¬ t.Ok := by
  by_cases h : t.Ok
  · refine .inl ?_
    unfold Tb.begin Tb.fresh
    split
    · exact Nat.zero_le _
    · split
      · rename_i k hk
        obtain ⟨hlt, hid⟩ := findC_some hk
        have hc := h.each _ (List.getElem_mem hlt)
        rw [Tb.at_eq _ hlt]
        split
        · exact Nat.zero_le _
        · split
          · exact Nat.zero_le _
          · split
            · exact Nat.zero_le _
            · exact hc.rep
      · split
        · exact Nat.zero_le _
        · split
          · exact Nat.zero_le _
          · exact Nat.zero_le _
  · exact .inr h
/-! ### places -/
/-- The map that a closure builds. -/
def PlaceOk (L : List (Nat × Int)) (l : List Cl) : Prop := L.length ≤ l.length ∧ ∀ id, getK L id = (findC id l).map fun k => (k : Int)
theorem PlaceOk.nil : PlaceOk [] [] := ⟨Nat.le_refl _, fun _ => rfl⟩
theorem getK_put {β : Type} (k : Nat) (v : β) (L : List (Nat × β)) (j : Nat) : getK (putK k v L) j = if j = k then some v else getK L j := by
  unfold putK
  have h1 : ∀ (M : List (Nat × β)), (∀ p ∈ M, p.1 ≠ k) → getK (insK (k, v) M) j = if j = k then some v else getK M j := by
    intro M
    induction M with
    | nil =>
      intro _
      unfold insK getK
      by_cases h : j = k
      · subst h; simp
      · rw [if_neg h]; simp [show (k == j) = false by simpa using fun e : k = j => h e.symm]
    | cons p r ih =>
      intro hp
      unfold insK
      split
      · unfold getK
        by_cases h : j = k
        · subst h; simp
        · rw [if_neg h, List.find?_cons_of_neg (by simpa using fun e : k = j => h e.symm)]
      · unfold getK at ih ⊢
        have h0 := hp p (List.mem_cons_self ..)
        by_cases h : p.1 = j
        · rw [List.find?_cons_of_pos (by simpa using h), List.find?_cons_of_pos (by simpa using h), if_neg (fun e => h0 (h.trans e))]
        · rw [List.find?_cons_of_neg (by simpa using h), List.find?_cons_of_neg (by simpa using h)]
          exact ih fun q hq => hp q (List.mem_cons_of_mem _ hq)
  rw [h1 _ fun p hp => by
    have := (List.mem_filter.1 hp).2
    simpa using this]
  by_cases h : j = k
  · rw [if_pos h, if_pos h]
  · rw [if_neg h, if_neg h]
    unfold getK delK
    congr 1
    induction L with
    | nil => rfl
    | cons p r ih =>
      by_cases hp : p.1 = k
      · rw [List.filter_cons_of_neg (by simpa using hp), List.find?_cons_of_neg (by simpa using fun e : p.1 = j => h (e.symm.trans hp))]
        exact ih
      · rw [List.filter_cons_of_pos (by simpa using hp)]
        by_cases hj : p.1 = j
        · rw [List.find?_cons_of_pos (by simpa using hj), List.find?_cons_of_pos (by simpa using hj)]
        · rw [List.find?_cons_of_neg (by simpa using hj), List.find?_cons_of_neg (by simpa using hj)]
          exact ih
theorem putK_len {β : Type} (k : Nat) (v : β) (L : List (Nat × β)) : (putK k v L).length ≤ L.length + 1 := by
  unfold putK
  rw [insK_len]
  have : (delK k L).length ≤ L.length := List.length_filter_le _ _
  omega
theorem findC_push (id : Nat) (l : List Cl) (c : Cl) (h : ∀ x ∈ l, x.id ≠ c.id) : findC id (l ++ [c]) = if id = c.id then some l.length else findC id l := by
  unfold findC
  rw [List.findIdx?_append]
  by_cases hi : id = c.id
  · rw [if_pos hi]
    have h0 : l.findIdx? (fun x => x.id == id) = none := by
      rw [List.findIdx?_eq_none_iff]
      intro x hx
      simpa [hi] using h x hx
    rw [h0]
    simp [hi, List.findIdx?_cons]
  · rw [if_neg hi]
    simp [List.findIdx?_cons, show (c.id == id) = false by simpa using fun e : c.id = id => hi e.symm]
theorem PlaceOk.push {L : List (Nat × Int)} {l : List Cl} (h : PlaceOk L l) (c : Cl) (hc : ∀ x ∈ l, x.id ≠ c.id) : PlaceOk (putK c.id (l.length : Int) L) (l ++ [c]) :=
  ⟨by have := putK_len c.id (l.length : Int) L; have := h.1; simp; omega, fun id => by
    rw [getK_put, findC_push id l c hc, h.2]
    by_cases hi : id = c.id
    · rw [if_pos hi, if_pos hi]; rfl
    · rw [if_neg hi, if_neg hi]⟩
end Go.Proofs.Ytgippbbbfpkhhaa
