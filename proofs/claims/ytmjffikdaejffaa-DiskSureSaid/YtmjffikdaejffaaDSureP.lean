/- DiskSure, the plain part: what the disk's states are. -/
import Derived.Test.YtmjffikdaejffaaLawDiskTwice
namespace Go.Proofs.Ytmjffikdaejffaa

theorem act_calm {d : Dk} (h1 : d.down = false) (h2 : d.left = -1) : d.act = (true, d) := by
  unfold Dk.act
  rw [if_neg (by simp [h1]), if_neg (by omega), if_neg (by omega)]
theorem write_calm {d : Dk} (h1 : d.down = false) (h2 : d.left = -1) {a : Nat} {b : List UInt8} (ha : a < d.safe.length) (hb : b.length = 32) : d.write a b = (0, { d with waits := d.waits ++ [(a, b)] }) := by
  unfold Dk.write
  rw [if_neg (by simp [h1]), if_neg (by omega), act_calm h1 h2]
  rfl
theorem sync_calm {d : Dk} (h1 : d.down = false) (h2 : d.left = -1) : d.sync = (0, calm (syncS d.safe d.waits)) := by
  unfold Dk.sync
  rw [act_calm h1 h2]
  simp [calm, h1, h2]
theorem syncS_push (s : List (List UInt8)) (ws : List (Nat × List UInt8)) (x : Nat × List UInt8) : syncS s (ws ++ [x]) = (syncS s ws).set x.1 x.2 := by simp [syncS]

/-- The first loop: the first sectors are written, nothing is sure yet. -/
structure Fill (d : Dk) (rs : List (List UInt8)) : Prop where
  len : d.safe.length = 8
  eq : syncS d.safe d.waits = rs ++ List.replicate (8 - rs.length) (List.replicate 32 0)
  down : d.down = false
  left : d.left = -1
  wl : d.waits.length ≤ rs.length
theorem Fill.start : Fill (Dk.new 8) [] := ⟨rfl, rfl, rfl, rfl, Nat.le_refl _⟩
theorem Fill.write {d : Dk} {rs : List (List UInt8)} (h : Fill d rs) {r : List UInt8} (h8 : rs.length < 8) (hr : r.length = 32) : (d.write rs.length r).1 = 0 ∧ Fill (d.write rs.length r).2 (rs ++ [r]) := by
  rw [write_calm h.down h.left (by rw [h.len]; exact h8) hr]
  refine ⟨rfl, h.len, ?_, h.down, h.left, by have := h.wl; simp; omega⟩
  show syncS d.safe (d.waits ++ [(rs.length, r)]) = _
  rw [syncS_push, h.eq]
  obtain ⟨k, hk⟩ : ∃ k, 8 - rs.length = k + 1 := ⟨7 - rs.length, by omega⟩
  rw [hk, List.replicate_succ, List.set_append_right _ _ (Nat.le_refl _), Nat.sub_self, List.set_cons_zero, List.length_append, List.length_singleton, show 8 - (rs.length + 1) = k by omega]
  simp
theorem Fill.sync {d : Dk} {rs : List (List UInt8)} (h : Fill d rs) (h8 : rs.length = 8) : d.sync = (0, calm rs) := by
  rw [sync_calm h.down h.left, h.eq, h8]
  simp

/-- The second loop: each write that waits stands in the row of its sector. -/
structure Ups (d : Dk) (rs : List (List UInt8)) (L : Nat → List (List UInt8)) (n : Nat) : Prop where
  safe : d.safe = rs
  len : rs.length = 8
  rows : ∀ x ∈ rs, x.length = 32
  down : d.down = false
  left : d.left = -1
  ws : ∀ w ∈ d.waits, w.1 < 8 ∧ w.2.length = 32 ∧ w.2 ∈ L w.1
  wl : d.waits.length ≤ n
theorem Ups.start {rs : List (List UInt8)} (h8 : rs.length = 8) (h : ∀ x ∈ rs, x.length = 32) : Ups (calm rs) rs (fun _ => []) 0 := ⟨rfl, h8, h, rfl, rfl, by simp [calm], Nat.le_refl _⟩
def more (L : Nat → List (List UInt8)) (a : Nat) (b : List UInt8) : Nat → List (List UInt8) := fun i => if i = a then L i ++ [b] else L i
theorem more_same (L : Nat → List (List UInt8)) (a : Nat) (b : List UInt8) : more L a b a = L a ++ [b] := by simp [more]
theorem more_other (L : Nat → List (List UInt8)) (a : Nat) (b : List UInt8) {i : Nat} (h : i ≠ a) : more L a b i = L i := by simp [more, h]
theorem Ups.write {d : Dk} {rs : List (List UInt8)} {L : Nat → List (List UInt8)} {n : Nat} (h : Ups d rs L n) {a : Nat} {b : List UInt8} (ha : a < 8) (hb : b.length = 32) : (d.write a b).1 = 0 ∧ Ups (d.write a b).2 rs (more L a b) (n + 1) := by
  rw [write_calm h.down h.left (by rw [h.safe, h.len]; exact ha) hb]
  refine ⟨rfl, h.safe, h.len, h.rows, h.down, h.left, ?_, by have := h.wl; simp; omega⟩
  intro w hw
  rcases List.mem_append.1 hw with hw | hw
  · obtain ⟨h1, h2, h3⟩ := h.ws w hw
    refine ⟨h1, h2, ?_⟩
    unfold more
    split
    · exact List.mem_append_left _ h3
    · exact h3
  · rw [List.mem_singleton] at hw
    subst hw
    exact ⟨ha, hb, by rw [more_same]; simp⟩
/-- Behind the crash: at each place what was sure, or what one of the writes had there. -/
structure Sures (S rs : List (List UInt8)) (L : Nat → List (List UInt8)) : Prop where
  len : S.length = 8
  rows : ∀ i, i < 8 → (S.getD i []).length = 32
  has : ∀ i k, i < 8 → k < 32 → (S.getD i [])[k]? = (rs.getD i [])[k]? ∨ ∃ b ∈ L i, (S.getD i [])[k]? = b[k]?
theorem Ups.crash {d : Dk} {rs : List (List UInt8)} {L : Nat → List (List UInt8)} {n : Nat} (h : Ups d rs L n) (ks : List Int) : Sures (crashS d.safe d.waits ks) rs L := by
  have hr : ∀ x ∈ d.safe, x.length = 32 := by rw [h.safe]; exact h.rows
  have hw : ∀ w ∈ d.waits, w.1 < d.safe.length ∧ w.2.length = 32 := fun w hw => by
    obtain ⟨h1, h2, _⟩ := h.ws w hw
    rw [h.safe, h.len]
    exact ⟨h1, h2⟩
  have hl : d.safe.length = 8 := by rw [h.safe, h.len]
  refine ⟨by rw [crashS_len, hl], fun i hi => rows_getD (crashS_rows _ _ _ hr hw) (by rw [crashS_len, hl]; exact hi), fun i k hi hk => ?_⟩
  rcases crashS_from d.waits d.safe ks hr hw i k hk (by rw [hl]; exact hi) with h1 | ⟨w, h1, h2, h3⟩
  · rw [h.safe] at h1 ⊢
    exact .inl h1
  · obtain ⟨_, _, h4⟩ := h.ws w h1
    rw [h2] at h4
    exact .inr ⟨w.2, h4, h3⟩
end Go.Proofs.Ytmjffikdaejffaa
