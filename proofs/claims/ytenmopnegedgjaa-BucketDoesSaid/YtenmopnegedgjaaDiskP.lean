/- Plain: a disk: what was synced, what waits, how many acts go well, whether the power is gone. -/
import Derived.Test.YtenmopnegedgjaaWords
namespace Go.Proofs.Ytenmopnegedgjaa

structure Dk where
  safe : List (List UInt8)
  waits : List (Nat × List UInt8)
  left : Int
  down : Bool

/-- The first n bytes of b, laid over s. -/
def lay (n : Nat) (b s : List UInt8) : List UInt8 := b.take n ++ s.drop n
def clip (k : Int) : Nat := (min (max k 0) 32).toNat
/-- What waits, all of it there. -/
def syncS (s : List (List UInt8)) (ws : List (Nat × List UInt8)) : List (List UInt8) := ws.foldl (fun s w => s.set w.1 w.2) s
/-- What waits, so much of each there as is kept. -/
def crashS : List (List UInt8) → List (Nat × List UInt8) → List Int → List (List UInt8)
  | s, [], _ => s
  | s, _ :: _, [] => s
  | s, w :: ws, k :: ks => crashS (s.set w.1 (lay (clip k) w.2 (s.getD w.1 []))) ws ks
/-- What a sector has. -/
def seen (s : List (List UInt8)) (ws : List (Nat × List UInt8)) (i : Nat) : List UInt8 := ws.foldl (fun x w => if w.1 = i then w.2 else x) (s.getD i [])

/-- May an act be done? -/
def Dk.act (d : Dk) : Bool × Dk :=
  if d.down then (false, d) else if d.left = 0 then (false, { d with down := true }) else if 0 < d.left then (true, { d with left := d.left - 1 }) else (true, d)
def Dk.write (d : Dk) (a : Int) (b : List UInt8) : Int × Dk :=
  if d.down then (6, d) else if a < 0 ∨ (d.safe.length : Int) ≤ a ∨ b.length ≠ 32 then (30, d)
  else if d.act.1 then (0, { d.act.2 with waits := d.waits ++ [(a.toNat, b)] }) else (6, d.act.2)
def Dk.sync (d : Dk) : Int × Dk := if d.act.1 then (0, { d.act.2 with safe := syncS d.safe d.waits, waits := [] }) else (6, d.act.2)
def Dk.read (d : Dk) (a : Int) : List UInt8 × Int :=
  if d.down then ([], 6) else if a < 0 ∨ (d.safe.length : Int) ≤ a then ([], 30) else (seen d.safe d.waits a.toNat, 0)
def Dk.arm (d : Dk) (n : Int) : Dk := { d with left := if n < 0 then -1 else n }
def Dk.crash (d : Dk) (ks : List Int) : Dk := { safe := crashS d.safe d.waits ks, waits := [], left := -1, down := false }
def Dk.new (n : Nat) : Dk := { safe := List.replicate n (List.replicate 32 0), waits := [], left := -1, down := false }

/-- All sectors have 32 bytes, each write that waits goes to one. -/
structure Dk.Ok (d : Dk) : Prop where
  rows : ∀ s ∈ d.safe, s.length = 32
  waits : ∀ w ∈ d.waits, w.1 < d.safe.length ∧ w.2.length = 32
  left : -1 ≤ d.left

theorem clip_le (k : Int) : clip k ≤ 32 := by unfold clip; omega
theorem lay_len (n : Nat) (b s : List UInt8) (hb : b.length = 32) (hs : s.length = 32) (hn : n ≤ 32) : (lay n b s).length = 32 := by
  unfold lay
  rw [List.length_append, List.length_take, List.length_drop, hb, hs]
  omega
theorem lay_at (n : Nat) (b s : List UInt8) (hb : b.length = 32) (hn : n ≤ 32) (k : Nat) : (lay n b s)[k]? = if k < n then b[k]? else s[k]? := by
  unfold lay
  have hl : (b.take n).length = n := by rw [List.length_take, hb]; omega
  by_cases h : k < n
  · rw [if_pos h, List.getElem?_append_left (by omega), List.getElem?_take_of_lt h]
  · rw [if_neg h, List.getElem?_append_right (by omega), hl, List.getElem?_drop, Nat.add_sub_cancel' (by omega)]

theorem rows_getD {s : List (List UInt8)} (h : ∀ x ∈ s, x.length = 32) {i : Nat} (hi : i < s.length) : (s.getD i []).length = 32 := by
  have e : s.getD i [] = s[i] := by simp [List.getD, hi]
  rw [e]
  exact h _ (List.getElem_mem hi)
theorem rows_set {s : List (List UInt8)} (h : ∀ x ∈ s, x.length = 32) (i : Nat) {b : List UInt8} (hb : b.length = 32) : ∀ x ∈ s.set i b, x.length = 32 := by
  intro x hx
  rcases List.mem_or_eq_of_mem_set hx with hx | hx
  · exact h x hx
  · rw [hx]; exact hb
theorem syncS_len (ws : List (Nat × List UInt8)) : ∀ s, (syncS s ws).length = s.length := by
  induction ws with
  | nil => intro s; rfl
  | cons w ws ih => intro s; show (syncS (s.set w.1 w.2) ws).length = _; rw [ih, List.length_set]
theorem syncS_rows (ws : List (Nat × List UInt8)) : ∀ s : List (List UInt8), (∀ x ∈ s, x.length = 32) → (∀ w ∈ ws, w.2.length = 32) → ∀ x ∈ syncS s ws, x.length = 32 := by
  induction ws with
  | nil => intro s h _; exact h
  | cons w ws ih => intro s h hw; exact ih _ (rows_set h _ (hw w (List.mem_cons_self ..))) fun x hx => hw x (List.mem_cons_of_mem _ hx)
theorem crashS_nil (s : List (List UInt8)) (ks : List Int) : crashS s [] ks = s := by cases ks <;> rfl
theorem crashS_len (ws : List (Nat × List UInt8)) : ∀ (s : List (List UInt8)) (ks : List Int), (crashS s ws ks).length = s.length := by
  induction ws with
  | nil => intro s ks; rw [crashS_nil]
  | cons w ws ih =>
    intro s ks
    cases ks with
    | nil => rfl
    | cons k ks => show (crashS _ ws ks).length = _; rw [ih, List.length_set]
theorem crashS_rows (ws : List (Nat × List UInt8)) : ∀ (s : List (List UInt8)) (ks : List Int), (∀ x ∈ s, x.length = 32) → (∀ w ∈ ws, w.1 < s.length ∧ w.2.length = 32) → ∀ x ∈ crashS s ws ks, x.length = 32 := by
  induction ws with
  | nil => intro s ks h _; rw [crashS_nil]; exact h
  | cons w ws ih =>
    intro s ks h hw
    cases ks with
    | nil => exact h
    | cons k ks =>
      obtain ⟨h1, h2⟩ := hw w (List.mem_cons_self ..)
      exact ih _ ks (rows_set h _ (lay_len _ _ _ h2 (rows_getD h h1) (clip_le k))) fun x hx => by
        rw [List.length_set]
        exact hw x (List.mem_cons_of_mem _ hx)

/-- Each byte behind a crash is what it was, or what one of the writes that waited had there. -/
theorem crashS_from (ws : List (Nat × List UInt8)) : ∀ (s : List (List UInt8)) (ks : List Int), (∀ x ∈ s, x.length = 32) → (∀ w ∈ ws, w.1 < s.length ∧ w.2.length = 32) → ∀ i k, k < 32 → i < s.length →
    ((crashS s ws ks).getD i [])[k]? = (s.getD i [])[k]? ∨ ∃ w ∈ ws, w.1 = i ∧ ((crashS s ws ks).getD i [])[k]? = w.2[k]? := by
  induction ws with
  | nil => intro s ks _ _ i k _ _; rw [crashS_nil]; exact .inl rfl
  | cons w ws ih =>
    intro s ks h hw i k hk hi
    cases ks with
    | nil => exact .inl rfl
    | cons kk ks =>
      obtain ⟨h1, h2⟩ := hw w (List.mem_cons_self ..)
      have hrow := lay_len (clip kk) _ _ h2 (rows_getD h h1) (clip_le kk)
      rcases ih (s.set w.1 (lay (clip kk) w.2 (s.getD w.1 []))) ks (rows_set h _ hrow) (fun x hx => by rw [List.length_set]; exact hw x (List.mem_cons_of_mem _ hx)) i k hk (by rw [List.length_set]; exact hi) with h3 | ⟨v, hv, h3, h4⟩
      · show ((crashS (s.set w.1 _) ws ks).getD i [])[k]? = _ ∨ ∃ v ∈ w :: ws, v.1 = i ∧ ((crashS (s.set w.1 _) ws ks).getD i [])[k]? = _
        by_cases e : w.1 = i
        · subst e
          have e2 : (s.set w.1 (lay (clip kk) w.2 (s.getD w.1 []))).getD w.1 [] = lay (clip kk) w.2 (s.getD w.1 []) := by simp [List.getD, h1]
          rw [e2, lay_at _ _ _ h2 (clip_le kk)] at h3
          by_cases hc : k < clip kk
          · rw [if_pos hc] at h3
            exact .inr ⟨w, List.mem_cons_self .., rfl, h3⟩
          · rw [if_neg hc] at h3
            exact .inl h3
        · have e2 : (s.set w.1 (lay (clip kk) w.2 (s.getD w.1 []))).getD i [] = s.getD i [] := by simp [List.getD, List.getElem?_set_ne e]
          rw [e2] at h3
          exact .inl h3
      · exact .inr ⟨v, List.mem_cons_of_mem _ hv, h3, h4⟩
end Go.Proofs.Ytenmopnegedgjaa
