/- Layer 13, plain: what is remembered of a client, by its ID. No program is named here. -/
import Derived.Test.YtonkohbmknopmaaOnP
namespace Go.Proofs.Ytonkohbmknopmaa
open Go.RowKit

def getC (l : List Cl) (id : Nat) : Option Cl := l.find? fun c => c.id == id
theorem getC_of {l : List Cl} {id k : Nat} (h : findC id l = some k) : ∃ hk : k < l.length, getC l id = some l[k] := by
  unfold findC at h
  rw [List.findIdx?_eq_some_iff_getElem] at h
  obtain ⟨hk, h1, h2⟩ := h
  exact ⟨hk, List.find?_eq_some_iff_getElem.2 ⟨h1, k, hk, rfl, fun j hj => by simpa using h2 j hj⟩⟩
theorem getC_no {l : List Cl} {id : Nat} (h : findC id l = none) : getC l id = none := by
  unfold getC
  rw [List.find?_eq_none]
  intro c hc
  simpa using findC_none h c hc
theorem getC_none {l : List Cl} {id : Nat} (h : getC l id = none) : ∀ c ∈ l, c.id ≠ id := by
  unfold getC at h
  rw [List.find?_eq_none] at h
  intro c hc
  simpa using h c hc
theorem getC_id {l : List Cl} {id : Nat} {c : Cl} (h : getC l id = some c) : c.id = id ∧ c ∈ l := by
  unfold getC at h
  exact ⟨by simpa using List.find?_some h, List.mem_of_find?_eq_some h⟩
theorem getC_mem {l : List Cl} (hn : (l.map (·.id)).Nodup) {c : Cl} (h : c ∈ l) : getC l c.id = some c := by
  induction l with
  | nil => exact (List.not_mem_nil h).elim
  | cons x r ih =>
    rw [List.map_cons, List.nodup_cons] at hn
    unfold getC at ih ⊢
    rcases List.mem_cons.1 h with rfl | h
    · rw [List.find?_cons_of_pos (by simp)]
    · have : x.id ≠ c.id := fun e => hn.1 (by rw [e]; exact List.mem_map_of_mem h)
      rw [List.find?_cons_of_neg (by simpa using this)]
      exact ih hn.2 h
theorem getC_push (l : List Cl) (c : Cl) (j : Nat) (h : ∀ x ∈ l, x.id ≠ c.id) : getC (l ++ [c]) j = if j = c.id then some c else getC l j := by
  unfold getC
  rw [List.find?_append]
  by_cases hj : j = c.id
  · subst hj
    rw [if_pos rfl, List.find?_eq_none.2 (fun x hx => by simpa using h x hx)]
    simp
  · rw [if_neg hj]
    simp [show (c.id == j) = false by simpa using fun e : c.id = j => hj e.symm]
theorem getC_erase {l : List Cl} (hn : (l.map (·.id)).Nodup) {k : Nat} (hk : k < l.length) (j : Nat) : getC (l.eraseIdx k) j = if j = l[k].id then none else getC l j := by
  rw [erase_others hn hk]
  unfold getC
  rw [List.find?_filter]
  by_cases hj : j = l[k].id
  · rw [if_pos hj, List.find?_eq_none]
    intro c _
    intro h1
    have h2 : ¬ c.id = l[k].id ∧ c.id = j := by simpa using h1
    exact h2.1 (h2.2.trans hj)
  · rw [if_neg hj]
    congr 1
    funext c
    by_cases h : c.id = j
    · simp [h, hj]
    · simp [h]
theorem getC_use {l : List Cl} (hn : (l.map (·.id)).Nodup) {k : Nat} (hk : k < l.length) {c : Cl} (hc : c.id = l[k].id) (j : Nat) : getC (useC k c l) j = if j = c.id then some c else getC l j := by
  unfold useC
  rw [getC_push _ _ _ (fun x hx => by rw [hc]; exact erase_id hn hk x hx), getC_erase hn hk]
  by_cases hj : j = c.id
  · rw [if_pos hj, if_pos hj]
  · rw [if_neg hj, if_neg hj, if_neg (by rw [← hc]; exact hj)]
/-- What a Begin does, where there is room. -/
inductive BeginGet (t : Tb) (id num : Nat) : Bg → Prop
  | arg (h : num = 0) : BeginGet t id num ⟨0, [], 2, t⟩
  | old (c : Cl) (h0 : num ≠ 0) (h : getC t.row id = some c) (h1 : num < c.num) : BeginGet t id num ⟨0, [], 70, t⟩
  | new (t' : Tb) (h0 : num ≠ 0) (h : ∀ c, getC t.row id = some c → c.num < num) (hm : t'.most = t.most) (hg : ∀ j, getC t'.row j = if j = id then some ⟨id, num, true, []⟩ else getC t.row j) : BeginGet t id num ⟨1, [], 0, t'⟩
  | busy (c : Cl) (t' : Tb) (h0 : num ≠ 0) (h : getC t.row id = some c) (h1 : num = c.num) (hb : c.busy = true) (hm : t'.most = t.most) (hg : ∀ j, getC t'.row j = getC t.row j) : BeginGet t id num ⟨3, [], 0, t'⟩
  | again (c : Cl) (t' : Tb) (h0 : num ≠ 0) (h : getC t.row id = some c) (h1 : num = c.num) (hb : c.busy = false) (hm : t'.most = t.most) (hg : ∀ j, getC t'.row j = getC t.row j) : BeginGet t id num ⟨2, c.rep, 0, t'⟩
theorem begin_get {t : Tb} (hok : t.Ok) (id num : Nat) (hroom : getC t.row id = none → t.row.length < t.most) : BeginGet t id num (t.begin id num) := by
  by_cases h0 : num = 0
  · unfold Tb.begin
    rw [if_pos h0]
    exact .arg h0
  cases hf : findC id t.row with
  | none =>
    have hg := getC_no hf
    have hr := hroom hg
    have : t.begin id num = t.fresh id num t.row := by unfold Tb.begin; simp only [if_neg h0, hf, if_pos hr]
    rw [this]
    exact .new _ h0 (fun c hc => by rw [hg] at hc; cases hc) rfl fun j => getC_push _ _ _ (findC_none hf)
  | some k =>
    obtain ⟨hk, hg⟩ := getC_of hf
    have hid := (getC_id hg).1
    have hat := Tb.at_eq t hk
    by_cases h1 : num < t.row[k].num
    · have : t.begin id num = ⟨0, [], 70, t⟩ := by unfold Tb.begin; simp only [if_neg h0, hf, hat, if_pos h1]
      rw [this]
      exact .old _ h0 hg h1
    · by_cases h2 : t.row[k].num < num
      · have : t.begin id num = t.fresh id num (t.row.eraseIdx k) := by unfold Tb.begin; simp only [if_neg h0, hf, hat, if_neg h1, if_pos h2]
        rw [this]
        refine .new _ h0 (fun c hc => by rw [hg] at hc; injection hc with hc; rw [← hc]; exact h2) rfl fun j => ?_
        exact getC_use (c := ⟨id, num, true, []⟩) hok.ids hk hid.symm j
      · have h3 : num = t.row[k].num := by omega
        have hgu : ∀ j, getC (useC k t.row[k] t.row) j = getC t.row j := fun j => by
          rw [getC_use hok.ids hk rfl]
          by_cases hj : j = t.row[k].id
          · rw [if_pos hj, hj, hid, hg]
          · rw [if_neg hj]
        cases hb : t.row[k].busy with
        | true =>
          have : t.begin id num = ⟨3, [], 0, { t with row := useC k t.row[k] t.row }⟩ := by unfold Tb.begin; simp only [if_neg h0, hf, hat, if_neg h1, if_neg h2, hb, if_true]
          rw [this]
          exact .busy _ _ h0 hg h3 hb rfl hgu
        | false =>
          have : t.begin id num = ⟨2, t.row[k].rep, 0, { t with row := useC k t.row[k] t.row, na := more1 t.na }⟩ := by unfold Tb.begin; simp [if_neg h0, hf, hat, if_neg h1, if_neg h2, hb]
          rw [this]
          exact .again _ _ h0 hg h3 hb rfl hgu
inductive EndGet (t : Tb) (id num : Nat) (rep : List UInt8) : Int × Tb → Prop
  | done (c : Cl) (t' : Tb) (h : getC t.row id = some c) (h1 : num = c.num) (hb : c.busy = true) (hl : rep.length ≤ 200) (hm : t'.most = t.most) (hg : ∀ j, getC t'.row j = if j = id then some ⟨id, num, false, rep⟩ else getC t.row j) : EndGet t id num rep (0, t')
  | bad (r : Int) (hr : r ≠ 0) (h : rep.length ≤ 200 → ∀ c, getC t.row id = some c → ¬ (num = c.num ∧ c.busy = true)) : EndGet t id num rep (r, t)
theorem end_get {t : Tb} (hok : t.Ok) (id num : Nat) (rep : List UInt8) : EndGet t id num rep (t.ended id num rep) := by
  by_cases hl : 200 < rep.length
  · have : t.ended id num rep = (3, t) := by unfold Tb.ended; rw [if_pos hl]
    rw [this]
    exact .bad 3 (by decide) fun h => by omega
  cases hf : findC id t.row with
  | none =>
    have : t.ended id num rep = (4, t) := by unfold Tb.ended; simp only [if_neg hl, hf]
    rw [this]
    exact .bad 4 (by decide) fun _ c hc => by rw [getC_no hf] at hc; cases hc
  | some k =>
    obtain ⟨hk, hg⟩ := getC_of hf
    have hid := (getC_id hg).1
    have hat := Tb.at_eq t hk
    by_cases h1 : t.row[k].num = num ∧ t.row[k].busy = true
    · have : t.ended id num rep = (0, { t with row := useC k ⟨id, num, false, rep⟩ t.row }) := by unfold Tb.ended; simp only [if_neg hl, hf, hat, if_pos h1]
      rw [this]
      exact .done _ _ hg h1.1.symm h1.2 (by omega) rfl fun j => getC_use (c := ⟨id, num, false, rep⟩) hok.ids hk hid.symm j
    · have : t.ended id num rep = (4, t) := by unfold Tb.ended; simp only [if_neg hl, hf, hat, if_neg h1]
      rw [this]
      exact .bad 4 (by decide) fun _ c hc => by
        rw [hg] at hc
        injection hc with hc
        rw [← hc]
        exact fun h => h1 ⟨h.1.symm, h.2⟩
theorem nodup_len : ∀ (n : Nat) (l : List Nat), l.Nodup → (∀ x ∈ l, x < n) → l.length ≤ n
  | 0, l, _, h => by
    cases l with
    | nil => exact Nat.le_refl _
    | cons x r => exact absurd (h x (List.mem_cons_self ..)) (by omega)
  | n + 1, l, hn, h => by
    have h1 := nodup_len n (l.erase n) (hn.erase n) fun x hx => by
      have h2 := (hn.mem_erase_iff).1 hx
      have := h x h2.2
      have := h2.1
      omega
    have : l.length ≤ (l.erase n).length + 1 := by
      rw [List.length_erase]
      split <;> omega
    omega
/-- The law's own words of nine clients. -/
structure Nine (t : Tb) (la : Nat → Nat) (dn : Nat → Bool) (rl : Nat → List UInt8) : Prop where
  most : t.most = 64
  far : ∀ j, 9 ≤ j → getC t.row j = none
  near : ∀ j, j < 9 → (la j = 0 ∧ getC t.row j = none) ∨ (0 < la j ∧ getC t.row j = some ⟨j, la j, !dn j, if dn j then rl j else []⟩)
theorem Nine.room {t : Tb} {la : Nat → Nat} {dn : Nat → Bool} {rl : Nat → List UInt8} (h : Nine t la dn rl) (hok : t.Ok) : t.row.length < t.most := by
  have h1 := nodup_len 9 _ hok.ids fun x hx => by
    obtain ⟨c, hc, rfl⟩ := List.mem_map.1 hx
    have := getC_mem hok.ids hc
    by_cases h9 : c.id < 9
    · exact h9
    · rw [h.far _ (by omega)] at this; cases this
  rw [List.length_map] at h1
  rw [h.most]
  omega
theorem Nine.start (la : Nat → Nat) (dn : Nat → Bool) (rl : Nat → List UInt8) (h : ∀ j, la j = 0) : Nine (Tb.new 64) la dn rl := ⟨rfl, fun _ _ => rfl, fun j _ => .inl ⟨h j, rfl⟩⟩
/-- What the law's switch sees of a Begin. -/
inductive SwB (la : Nat → Nat) (dn : Nat → Bool) (rl : Nat → List UInt8) (c num : Nat) : Bg → Prop
  | arg (t') (h : num = 0) (hn : Nine t' la dn rl) : SwB la dn rl c num ⟨0, [], 2, t'⟩
  | old (t') (h0 : num ≠ 0) (h : num < la c) (hn : Nine t' la dn rl) : SwB la dn rl c num ⟨0, [], 70, t'⟩
  | new (t') (h0 : num ≠ 0) (h : la c < num) (hn : Nine t' (fun j => if j = c then num else la j) (fun j => if j = c then false else dn j) rl) : SwB la dn rl c num ⟨1, [], 0, t'⟩
  | again (t') (h0 : num ≠ 0) (h : num = la c) (hd : dn c = true) (hn : Nine t' la dn rl) : SwB la dn rl c num ⟨2, rl c, 0, t'⟩
  | busy (t') (h0 : num ≠ 0) (h : num = la c) (hd : dn c = false) (hn : Nine t' la dn rl) : SwB la dn rl c num ⟨3, [], 0, t'⟩
theorem Nine.same {t t' : Tb} {la : Nat → Nat} {dn : Nat → Bool} {rl : Nat → List UInt8} (h : Nine t la dn rl) (hm : t'.most = t.most) (hg : ∀ j, getC t'.row j = getC t.row j) : Nine t' la dn rl :=
  ⟨hm.trans h.most, fun j hj => by rw [hg]; exact h.far j hj, fun j hj => by rw [hg]; exact h.near j hj⟩
theorem Nine.begin {t : Tb} {la : Nat → Nat} {dn : Nat → Bool} {rl : Nat → List UInt8} (h : Nine t la dn rl) (hok : t.Ok) (c : Nat) (hc : c < 9) (num : Nat) : SwB la dn rl c num (t.begin c num) := by
  have hb := begin_get hok c num fun _ => h.room hok
  have hcc := h.near c hc
  generalize t.begin c num = b at hb
  cases hb with
  | arg h0 => exact .arg _ h0 h
  | old x h0 hx h1 =>
    rcases hcc with ⟨_, h2⟩ | ⟨_, h2⟩
    · rw [h2] at hx; cases hx
    · rw [h2] at hx; injection hx with hx; rw [← hx] at h1; exact .old _ h0 h1 h
  | new t' h0 hx hm hg =>
    refine .new _ h0 ?_ ⟨hm.trans h.most, fun j hj => by rw [hg, if_neg (by omega)]; exact h.far j hj, fun j hj => ?_⟩
    · rcases hcc with ⟨h2, _⟩ | ⟨_, h2⟩
      · omega
      · exact hx _ h2
    · rw [hg]
      by_cases hjc : j = c
      · rw [if_pos hjc, if_pos hjc, if_pos hjc]
        exact .inr ⟨by omega, by rw [hjc]; rfl⟩
      · rw [if_neg hjc, if_neg hjc, if_neg hjc]
        exact h.near j hj
  | busy x t' h0 hx h1 hb hm hg =>
    rcases hcc with ⟨_, h2⟩ | ⟨_, h2⟩
    · rw [h2] at hx; cases hx
    · rw [h2] at hx; injection hx with hx; rw [← hx] at h1 hb
      exact .busy _ h0 h1 (by simpa using hb) (h.same hm hg)
  | again x t' h0 hx h1 hb hm hg =>
    rcases hcc with ⟨_, h2⟩ | ⟨_, h2⟩
    · rw [h2] at hx; cases hx
    · rw [h2] at hx; injection hx with hx; rw [← hx] at h1 hb
      have hd : dn c = true := by simpa using hb
      have : x.rep = rl c := by rw [← hx]; simp [hd]
      rw [this]
      exact .again _ h0 h1 hd (h.same hm hg)
/-- And of an End. -/
inductive SwE (la : Nat → Nat) (dn : Nat → Bool) (rl : Nat → List UInt8) (c num : Nat) (rep : List UInt8) : Int × Tb → Prop
  | done (t') (h0 : 0 < la c) (h : num = la c) (hd : dn c = false) (hl : rep.length ≤ 200) (hn : Nine t' la (fun j => if j = c then true else dn j) (fun j => if j = c then rep else rl j)) : SwE la dn rl c num rep (0, t')
  | bad (r) (t') (hr : r ≠ 0) (h : ¬ (0 < la c ∧ num = la c ∧ dn c = false ∧ rep.length ≤ 200)) (hn : Nine t' la dn rl) : SwE la dn rl c num rep (r, t')
theorem Nine.ended {t : Tb} {la : Nat → Nat} {dn : Nat → Bool} {rl : Nat → List UInt8} (h : Nine t la dn rl) (hok : t.Ok) (c : Nat) (hc : c < 9) (num : Nat) (rep : List UInt8) : SwE la dn rl c num rep (t.ended c num rep) := by
  have hb := end_get hok c num rep
  have hcc := h.near c hc
  generalize t.ended c num rep = b at hb
  cases hb with
  | done x t' hx h1 hb hl hm hg =>
    rcases hcc with ⟨_, h2⟩ | ⟨h3, h2⟩
    · rw [h2] at hx; cases hx
    · rw [h2] at hx; injection hx with hx; rw [← hx] at h1 hb
      have hd : dn c = false := by simpa using hb
      refine .done _ h3 h1 hd hl ⟨hm.trans h.most, fun j hj => by rw [hg, if_neg (by omega)]; exact h.far j hj, fun j hj => ?_⟩
      rw [hg]
      by_cases hjc : j = c
      · subst hjc
        rw [if_pos rfl]
        refine .inr ⟨h3, ?_⟩
        simp only [if_true]
        have h1' : num = la j := h1
        rw [h1']
        rfl
      · rw [if_neg hjc]
        have := h.near j hj
        simp only [if_neg hjc]
        exact this
  | bad r hr hx =>
    refine .bad _ _ hr (fun hh => ?_) h
    obtain ⟨a1, a2, a3, a4⟩ := hh
    rcases hcc with ⟨h2, _⟩ | ⟨_, h2⟩
    · omega
    · exact hx a4 _ h2 ⟨a2, by simp [a3]⟩
end Go.Proofs.Ytonkohbmknopmaa
