/- Layer 7's laws, plain: a line: both sides, what is under way each way, what came out. No program is named here. -/
import Derived.Test.YtfdlhefbbhblnaaSesP
namespace Go.Proofs.Ytfdlhefbbhblnaa
open Go.RowKit Go.Maps

/-- What holds of a line, whatever happened. -/
structure LnOk (ls : List (List UInt8)) (sx : Sd) (ry : Rc) (to bk : List Sg) (out : List (List UInt8)) : Prop where
  bods : ∀ b ∈ ls, b.length ≤ 1000
  len : ls.length ≤ 60
  life : sx.life = 5
  came : sx.came + sx.queue.length = ls.length
  queue : sx.queue.map (·.1) = ls.drop sx.came
  rlife : ry.life = 5 ∨ (ry.life = 0 ∧ ry.came = 0 ∧ ry.early = [])
  le : sx.came ≤ ry.came
  rle : ry.came ≤ ls.length
  early : ∀ p ∈ ry.early, 1 ≤ p.1 ∧ p.1 ≤ ls.length ∧ p.2 = ls.getD (p.1 - 1) []
  outs : out = ls.take ry.came
  tos : ∀ s ∈ to, ∃ k, k < ls.length ∧ s = ⟨5, k + 1, false, ls.getD k []⟩
  bks : ∀ s ∈ bk, ∃ k, k ≤ ry.came ∧ s = ⟨5, k, true, []⟩

theorem getD_len {ls : List (List UInt8)} (h : ∀ b ∈ ls, b.length ≤ 1000) (k : Nat) : (ls.getD k []).length ≤ 1000 := by
  by_cases hk : k < ls.length
  · simp only [List.getD, List.getElem?_eq_getElem hk, Option.getD_some]
    exact h _ (List.getElem_mem hk)
  · have e : ls[k]? = none := List.getElem?_eq_none (by omega)
    unfold List.getD
    rw [e]
    simp
theorem takeK_ls (ls : List (List UInt8)) : ∀ (L : List (Nat × List UInt8)) (c : Nat), (∀ p ∈ L, 1 ≤ p.1 ∧ p.1 ≤ ls.length ∧ p.2 = ls.getD (p.1 - 1) []) → c ≤ ls.length →
    c ≤ (takeK c L).2.1 ∧ (takeK c L).2.1 ≤ ls.length ∧ ls.take c ++ (takeK c L).1 = ls.take (takeK c L).2.1 ∧ ∀ p ∈ (takeK c L).2.2, p ∈ L
  | [], c, _, hc => by simp [takeK, hc]
  | (k, v) :: r, c, h, hc => by
    unfold takeK
    by_cases e : k = c + 1
    · have hk := h (k, v) (by simp)
      rw [if_pos e]
      dsimp only at hk ⊢
      have hcl : c < ls.length := by omega
      obtain ⟨h1, h2, h3, h4⟩ := takeK_ls ls r (c + 1) (fun p hp => h p (by simp [hp])) (by omega)
      refine ⟨by omega, h2, ?_, fun p hp => List.mem_cons_of_mem _ (h4 p hp)⟩
      rw [← h3, List.take_succ_eq_append_getElem hcl, hk.2.2, e]
      simp only [List.getD, Nat.add_sub_cancel, List.getElem?_eq_getElem hcl, Option.getD_some, List.append_assoc, List.cons_append, List.nil_append]
    · rw [if_neg e]
      simp [hc]
theorem outQ_mem (life span T : Nat) : ∀ (l : List (List UInt8 × Nat)) (c : Nat) (s : Sg), s ∈ outQ life span T c l → ∃ i, ∃ h : i < l.length, s = ⟨life, c + i + 1, false, l[i].1⟩
  | [], c, s, h => by simp [outQ] at h
  | q :: r, c, s, h => by
    unfold outQ at h
    rcases List.mem_append.1 h with h | h
    · split at h
      · rw [List.mem_singleton.1 h]
        exact ⟨0, by simp, rfl⟩
      · simp at h
    · obtain ⟨i, hi, e⟩ := outQ_mem life span T r (c + 1) s h
      refine ⟨i + 1, by simpa using hi, ?_⟩
      rw [e]
      simp
      omega
theorem Sd.tickS_bods (s : Sd) : s.tickS.queue.map (·.1) = s.queue.map (·.1) := by
  unfold Sd.tickS
  simp only [List.map_append, List.map_map]
  have : (fun q => (updQ s.span (s.tick + 1) q).1) = fun q : List UInt8 × Nat => q.1 := funext fun q => updQ_body _ _ _
  rw [show ((fun x : List UInt8 × Nat => x.1) ∘ updQ s.span (s.tick + 1)) = fun q : List UInt8 × Nat => q.1 from this, ← List.map_append, List.take_append_drop]
section
variable {ls : List (List UInt8)} {sx : Sd} {ry : Rc} {to bk : List Sg} {out : List (List UInt8)}
theorem LnOk.sub (h : LnOk ls sx ry to bk out) {to' bk' : List Sg} (h1 : ∀ s ∈ to', s ∈ to) (h2 : ∀ s ∈ bk', s ∈ bk) : LnOk ls sx ry to' bk' out :=
  { h with tos := fun s hs => h.tos s (h1 s hs), bks := fun s hs => h.bks s (h2 s hs) }
theorem LnOk.tick (h : LnOk ls sx ry to bk out) : LnOk ls sx.tickS ry (to ++ sx.out) bk out := by
  refine { h with came := by rw [Sd.tickS_len]; exact h.came, queue := by rw [Sd.tickS_bods]; exact h.queue, tos := fun s hs => ?_ }
  rcases List.mem_append.1 hs with hs | hs
  · exact h.tos s hs
  · unfold Sd.out at hs
    obtain ⟨i, hi, e⟩ := outQ_mem _ _ _ _ _ _ hs
    have hiq : i < sx.queue.length := by rw [List.length_take] at hi; omega
    refine ⟨sx.came + i, by have := h.came; omega, ?_⟩
    rw [e, h.life]
    congr 1
    have hq := h.queue
    have h1 : (sx.queue.map (·.1))[i]? = (ls.drop sx.came)[i]? := by rw [hq]
    rw [List.getElem?_map, List.getElem?_eq_getElem hiq, List.getElem?_drop] at h1
    simp only [List.getD, ← h1, Option.map_some, Option.getD_some, List.getElem_take]
/-- A piece arrives. -/
theorem LnOk.piece (h : LnOk ls sx ry to bk out) {s : Sg} (hs : ∃ k, k < ls.length ∧ s = ⟨5, k + 1, false, ls.getD k []⟩) :
    ry.refuse s = 0 ∧ s.Ok ∧ s.right = true ∧ LnOk ls sx (ry.hear s).2 to (bk ++ [(ry.hear s).2.ack]) (out ++ (ry.hear s).1) := by
  obtain ⟨k, hk, rfl⟩ := hs
  have hlen := h.len
  have hb := getD_len h.bods k
  have hr : Sg.right ⟨5, k + 1, false, ls.getD k []⟩ = true := by unfold Sg.right; simp only [Bool.false_eq_true, if_false, Bool.and_eq_true, decide_eq_true_eq]; exact ⟨by omega, hb⟩
  have hlf : ¬ 5 < ry.life := by rcases h.rlife with e | e <;> omega
  refine ⟨?_, ⟨by show 5 < _; omega, by show k + 1 < _; omega⟩, hr, ?_⟩
  · unfold Rc.refuse
    rw [if_neg (by rw [hr]; simp), if_neg (by simp), if_neg hlf]
  -- behind the turn
  obtain ⟨r1, hr1⟩ : ∃ r1, r1 = ry.turn ⟨5, k + 1, false, ls.getD k []⟩ := ⟨_, rfl⟩
  have t : r1.life = 5 ∧ r1.came = ry.came ∧ r1.early = ry.early := by
    rw [hr1]
    unfold Rc.turn
    dsimp only
    by_cases e : ry.life < 5
    · rw [if_pos e]
      rcases h.rlife with e2 | e2
      · omega
      · exact ⟨rfl, e2.2.1.symm, e2.2.2.symm⟩
    · rw [if_neg e]
      rcases h.rlife with e2 | e2
      · exact ⟨e2, rfl, rfl⟩
      · omega
  obtain ⟨r2, hr2⟩ : ∃ r2, r2 = r1.keep ⟨5, k + 1, false, ls.getD k []⟩ := ⟨_, rfl⟩
  have u : r2.life = 5 ∧ r2.came = ry.came ∧ ∀ p ∈ r2.early, 1 ≤ p.1 ∧ p.1 ≤ ls.length ∧ p.2 = ls.getD (p.1 - 1) [] := by
    rw [hr2]
    unfold Rc.keep
    dsimp only
    split
    · refine ⟨t.1, t.2.1, fun p hp => ?_⟩
      rcases (insK_mem _ _ _).1 hp with rfl | hp
      · exact ⟨by simp, by simp; omega, by simp⟩
      · exact h.early p (by rw [← t.2.2]; exact hp)
    · exact ⟨t.1, t.2.1, fun p hp => h.early p (by rw [← t.2.2]; exact hp)⟩
  have hh : ry.hear ⟨5, k + 1, false, ls.getD k []⟩ = r2.take := by unfold Rc.hear; rw [hr2, hr1]
  rw [hh]
  obtain ⟨v1, v2, v3, v4⟩ := takeK_ls ls r2.early r2.came u.2.2 (by rw [u.2.1]; exact h.rle)
  unfold Rc.take
  dsimp only
  refine { h with rlife := .inl u.1, le := by have := h.le; have := u.2.1; dsimp only; omega, rle := v2, early := fun p hp => u.2.2 p (v4 p hp), outs := ?_, bks := fun s hs => ?_ }
  · rw [h.outs, ← u.2.1, v3]
  · rcases List.mem_append.1 hs with hs | hs
    · obtain ⟨j, hj, e⟩ := h.bks s hs
      exact ⟨j, by have := u.2.1; dsimp only; omega, e⟩
    · rw [List.mem_singleton.1 hs]
      refine ⟨(takeK r2.came r2.early).2.1, Nat.le_refl _, ?_⟩
      unfold Rc.ack
      dsimp only
      rw [u.1]
/-- An answer arrives. -/
theorem LnOk.answer (h : LnOk ls sx ry to bk out) {s : Sg} (hs : ∃ k, k ≤ ry.came ∧ s = ⟨5, k, true, []⟩) : (sx.hear s).1 = 0 ∧ s.Ok ∧ LnOk ls (sx.hear s).2 ry to bk out := by
  obtain ⟨k, hk, rfl⟩ := hs
  have hlen := h.len
  have hrle := h.rle
  have hcm := h.came
  have hr : Sg.right ⟨5, k, true, []⟩ = true := rfl
  refine ⟨?_, ⟨by show 5 < _; omega, by show k < _; omega⟩, ?_⟩
  · unfold Sd.hear
    rw [if_neg (by rw [hr]; simp), if_neg (by simp), if_neg (by rw [h.life]; simp), if_neg (by dsimp only; omega)]
    split <;> rfl
  · unfold Sd.hear
    rw [if_neg (by rw [hr]; simp), if_neg (by simp), if_neg (by rw [h.life]; simp), if_neg (by dsimp only; omega)]
    dsimp only
    split
    · rename_i hlt
      refine { h with came := ?_, queue := ?_, le := hk }
      · simp; omega
      · simp only [List.map_drop, h.queue, List.drop_drop]
        congr 1
        omega
    · exact h
/-- What is told of it. -/
theorem LnOk.told (h : LnOk ls sx ry to bk out) : out.length = ry.came ∧ out = ls.take out.length ∧ ls.length - sx.queue.length ≤ out.length ∧ sx.queue.length ≤ ls.length := by
  have h1 := h.rle
  have h2 := h.came
  have h3 := h.le
  have e : out.length = ry.came := by rw [h.outs, List.length_take]; omega
  exact ⟨e, by rw [e]; exact h.outs, by omega, by omega⟩
end
/-- What was pushed onto a new sender. -/
def Sd.fed (window span : Nat) (ls : List (List UInt8)) : Sd := ⟨5, window, span, 0, 0, ls.map fun b => (b, 0)⟩
theorem LnOk.start (window span : Nat) (ls : List (List UInt8)) (hb : ∀ b ∈ ls, b.length ≤ 1000) (hl : ls.length ≤ 60) : LnOk ls (Sd.fed window span ls) (Rc.new 8) [] [] [] :=
  ⟨hb, hl, rfl, by simp [Sd.fed], by simp [Sd.fed, Function.comp_def], .inr ⟨rfl, rfl, rfl⟩, Nat.le_refl _, by simp [Rc.new], by simp [Rc.new], by simp [Rc.new], by simp, by simp⟩
theorem Sd.fed_push (window span : Nat) (ls : List (List UInt8)) (b : List UInt8) (hb : b.length ≤ 1000) (hl : ls.length < 128) : (Sd.fed window span ls).push b = (0, Sd.fed window span (ls ++ [b])) := by
  unfold Sd.push Sd.fed
  rw [if_neg (by omega), if_neg (by simp; omega)]
  simp
end Go.Proofs.Ytfdlhefbbhblnaa
