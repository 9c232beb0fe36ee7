/- Layer 7's laws, plain: all pieces come. No program is named here. -/
import Derived.Test.YtjbfhffdnjahfaaSesLp
namespace Go.Proofs.Ytjbfhffdnjahfaa
open Go.RowKit Go.Maps

/-- In how many ticks the first piece that is missing is sent. -/
def Sd.wait (s : Sd) : Nat := match s.queue with
  | [] => 0
  | q :: _ => if q.2 = 0 then 1 else max 1 (q.2 + s.span - s.tick)
/-- How many ticks are left. -/
def Sd.toGo (s : Sd) : Nat := 4 * s.queue.length + s.wait
theorem Sd.wait_le (s : Sd) (hs : s.span ≤ 4) (ht : ∀ q ∈ s.queue, q.2 ≤ s.tick) : s.wait ≤ 4 := by
  unfold Sd.wait
  split
  · omega
  · rename_i q r e
    have := ht q (by rw [e]; simp)
    split <;> omega
theorem hear_tick7 (s : Sd) (m : Sg) : (s.hear m).2.tick = s.tick := by
  unfold Sd.hear
  repeat' split
  all_goals rfl
theorem hear_span7 (s : Sd) (m : Sg) : (s.hear m).2.span = s.span := by
  unfold Sd.hear
  repeat' split
  all_goals rfl
/-- An answer changes nothing, or more are known to have come. -/
theorem hear_or (s : Sd) (m : Sg) : (s.hear m).2 = s ∨ s.came < (s.hear m).2.came := by
  unfold Sd.hear
  repeat' split
  all_goals first
    | exact .inl rfl
    | (rename_i h; exact .inr h)
theorem hear_ge (s : Sd) (m : Sg) : s.came ≤ (s.hear m).2.came := by
  rcases hear_or s m with h | h
  · rw [h]; exact Nat.le_refl _
  · exact Nat.le_of_lt h
/-- What a right answer tells is known from then on. -/
theorem hear_seq (s : Sd) (k : Nat) (hl : s.life = 5) (hk : k ≤ s.came + s.queue.length) : k ≤ (s.hear ⟨5, k, true, []⟩).2.came := by
  unfold Sd.hear
  have hr : Sg.right ⟨5, k, true, []⟩ = true := rfl
  rw [if_neg (by rw [hr]; simp), if_neg (by simp), if_neg (by rw [hl]; simp), if_neg (by dsimp only; omega)]
  dsimp only
  split
  · exact Nat.le_refl _
  · show k ≤ s.came
    omega
/-- The first piece that is missing, where it is due, is sent. -/
theorem out_head (s : Sd) (q : List UInt8 × Nat) (r : List (List UInt8 × Nat)) (hq : s.queue = q :: r) (hw : 1 ≤ s.window) (hd : dueQ s.span (s.tick + 1) q = true) : ⟨s.life, s.came + 1, false, q.1⟩ ∈ s.out := by
  unfold Sd.out
  obtain ⟨k, hk⟩ : ∃ k, s.k = k + 1 := ⟨s.k - 1, by unfold Sd.k; rw [hq]; simp; omega⟩
  rw [hk, hq, List.take_succ_cons]
  unfold outQ
  rw [if_pos hd]
  simp
theorem wait_tick (s : Sd) (q : List UInt8 × Nat) (r : List (List UInt8 × Nat)) (hq : s.queue = q :: r) (hw : 1 ≤ s.window) (hd : dueQ s.span (s.tick + 1) q = false) : s.tickS.wait + 1 ≤ s.wait := by
  unfold dueQ at hd
  have h1 : 0 < q.2 ∧ s.tick + 1 - q.2 < s.span := by simpa using hd
  have h2 : updQ s.span (s.tick + 1) q = q := by
    unfold updQ dueQ
    rw [if_neg (by simp; omega)]
  have h3 : ∃ r', s.tickS.queue = q :: r' := by
    obtain ⟨k, hk⟩ : ∃ k, s.k = k + 1 := ⟨s.k - 1, by unfold Sd.k; rw [hq]; simp; omega⟩
    unfold Sd.tickS
    rw [hk, hq, List.take_succ_cons]
    simp only [List.map_cons, List.cons_append, h2]
    exact ⟨_, rfl⟩
  obtain ⟨r', h3⟩ := h3
  have h4 : s.tickS.wait = max 1 (q.2 + s.span - (s.tick + 1)) := by
    unfold Sd.wait
    rw [h3]
    dsimp only
    rw [if_neg (by omega)]
    rfl
  have h5 : s.wait = max 1 (q.2 + s.span - s.tick) := by
    unfold Sd.wait
    rw [hq]
    dsimp only
    rw [if_neg (by omega)]
  rw [h4, h5]
  omega
theorem wait_pos (s : Sd) (h : 0 < s.queue.length) : 1 ≤ s.wait := by
  unfold Sd.wait
  split
  · rename_i e; rw [e] at h; simp at h
  · split
    · exact Nat.le_refl _
    · omega
/-- A tick, and all that was under way came: fewer ticks are left. sT: the sender behind its tick; s2: behind the answers. -/
theorem toGo_less {s s2 : Sd} {M : Nat} (hw : 1 ≤ s.window) (hs2 : s2.span ≤ 4) (ht2 : ∀ q ∈ s2.queue, q.2 ≤ s2.tick) (hc : s.came + s.queue.length = M) (hc2 : s2.came + s2.queue.length = M) (h0 : 0 < s.queue.length)
    (hcase : s2 = s.tickS ∨ s.came < s2.came) (hdue : ∀ q r, s.queue = q :: r → dueQ s.span (s.tick + 1) q = true → s.came < s2.came) : s2.toGo + 1 ≤ s.toGo := by
  have hp := wait_pos s h0
  have hle := s2.wait_le hs2 ht2
  unfold Sd.toGo
  by_cases hlt : s.came < s2.came
  · omega
  · obtain ⟨q, r, hq⟩ : ∃ q r, s.queue = q :: r := by
      cases hqq : s.queue with
      | nil => rw [hqq] at h0; simp at h0
      | cons q r => exact ⟨q, r, rfl⟩
    have hnd : dueQ s.span (s.tick + 1) q = false := by
      cases hd : dueQ s.span (s.tick + 1) q with
      | false => rfl
      | true => exact absurd (hdue q r hq hd) hlt
    rcases hcase with rfl | h
    · have := wait_tick s q r hq hw hnd
      rw [Sd.tickS_len]
      omega
    · exact absurd h hlt
theorem takeK_ge : ∀ (L : List (Nat × List UInt8)) (c : Nat), c ≤ (takeK c L).2.1
  | [], c => Nat.le_refl _
  | (k, v) :: r, c => by
    unfold takeK
    split
    · have := takeK_ge r (c + 1)
      dsimp only
      omega
    · exact Nat.le_refl _
theorem takeK_has {L : List (Nat × List UInt8)} {c : Nat} (hs : SrtK L) (hk : ∀ p ∈ L, c < p.1) (h : ∃ v, (c + 1, v) ∈ L) : c + 1 ≤ (takeK c L).2.1 := by
  obtain ⟨v, hv⟩ := h
  cases L with
  | nil => simp at hv
  | cons p r =>
    obtain ⟨k, u⟩ := p
    have hkc : k = c + 1 := by
      have h1 := hk (k, u) (by simp)
      rcases List.mem_cons.1 hv with e | e
      · injection e with e _; exact e.symm
      · unfold SrtK at hs
        rw [List.pairwise_cons] at hs
        have h2 := hs.1 _ e
        dsimp only at h1 h2
        omega
    unfold takeK
    rw [if_pos hkc]
    exact takeK_ge r (c + 1)
section
variable {ls : List (List UInt8)} {sx : Sd} {ry : Rc} {to bk : List Sg} {out : List (List UInt8)}
theorem LnOk.came_le (h : LnOk ls sx ry to bk out) (s : Sg) (hs : s.life = 5) : ry.came ≤ (ry.hear s).2.came ∧ (ry.turn s).came = ry.came ∧ (ry.turn s).early = ry.early ∧ (ry.turn s).window = ry.window := by
  have t : (ry.turn s).came = ry.came ∧ (ry.turn s).early = ry.early ∧ (ry.turn s).window = ry.window := by
    unfold Rc.turn
    split
    · rcases h.rlife with e2 | e2
      · omega
      · exact ⟨e2.2.1.symm, e2.2.2.symm, rfl⟩
    · exact ⟨rfl, rfl, rfl⟩
  refine ⟨?_, t⟩
  have hk : ((ry.turn s).keep s).came = ry.came := by
    unfold Rc.keep
    split
    · exact t.1
    · exact t.1
  unfold Rc.hear Rc.take
  dsimp only
  rw [hk]
  exact takeK_ge _ _
/-- The first piece that is missing comes. -/
theorem LnOk.head (h : LnOk ls sx ry to bk out) (hok : ry.Ok) (s : Sg) (hl : s.life = 5) (hq : s.seq = sx.came + 1) (hro : s.Ok) (hr : s.right = true) (ha : s.ack = false) : sx.came + 1 ≤ (ry.hear s).2.came := by
  obtain ⟨h1, h2, h3, h4⟩ := h.came_le s hl
  have hle := h.le
  by_cases e : sx.came < ry.came
  · omega
  have he : ry.came = sx.came := by omega
  have ht := hok.turn (g := s) hro
  have hlen := ht.len
  have hrl := h.rle
  have hln := h.len
  have hkp := ht.keep hr ha (by rw [h2]; omega)
  have hk : ((ry.turn s).keep s).came = ry.came := by
    unfold Rc.keep
    split
    · exact h2
    · exact h2
  have hin : ∃ v, (ry.came + 1, v) ∈ ((ry.turn s).keep s).early := by
    by_cases hw : (ry.turn s).wants s.seq = true
    · refine ⟨s.body, ?_⟩
      unfold Rc.keep
      rw [if_pos hw]
      dsimp only
      rw [insK_mem]
      exact .inl (by rw [hq, he])
    · have hw0 := hw
      unfold Rc.wants at hw
      have hwin := ht.win.1
      rw [if_neg (by omega)] at hw
      cases hg : getK (ry.turn s).early s.seq with
      | none => rw [hg] at hw; simp at hw
      | some v =>
        refine ⟨v, ?_⟩
        have := getK_mem hg
        unfold Rc.keep
        rw [if_neg hw0]
        rw [hq, ← he] at this
        exact this
  unfold Rc.hear Rc.take
  dsimp only
  rw [hk]
  have := takeK_has hkp.srt (c := ry.came) (fun p hp => by have := (hkp.keys p hp).1; omega) hin
  omega
end
end Go.Proofs.Ytjbfhffdnjahfaa
