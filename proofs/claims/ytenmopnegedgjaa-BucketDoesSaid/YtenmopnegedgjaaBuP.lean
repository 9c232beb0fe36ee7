/- Layer 15, plain: a bucket, how long to wait. No program is named here. -/
import Derived.Test.YtenmopnegedgjaaBk
import Derived.Test.YtenmopnegedgjaaFoot
namespace Go.Proofs.Ytenmopnegedgjaa

/-- A bucket. -/
structure Bu where
  rate : Nat
  burst : Nat
  level : Nat
structure Bu.Ok (u : Bu) : Prop where
  r : u.rate ≤ 1000000
  b1 : 1 ≤ u.burst
  b : u.burst ≤ 1000000
  l : u.level ≤ u.burst
def rightB (rate burst : Int) : Prop := 0 ≤ rate ∧ rate ≤ 1000000 ∧ 1 ≤ burst ∧ burst ≤ 1000000
instance (r b : Int) : Decidable (rightB r b) := by unfold rightB; infer_instance
def mkB (rate burst : Int) : Bu := ⟨rate.toNat, burst.toNat, burst.toNat⟩
theorem mkB_ok {r b : Int} (h : rightB r b) : (mkB r b).Ok := by
  obtain ⟨h1, h2, h3, h4⟩ := h
  exact ⟨by show r.toNat ≤ 1000000; omega, by show 1 ≤ b.toNat; omega, by show b.toNat ≤ 1000000; omega, Nat.le_refl _⟩
def Bu.lv (u : Bu) (l : Nat) : Bu := ⟨u.rate, u.burst, l⟩
def Bu.tick (u : Bu) (t : Int) : Bu := if t < 1 then u else u.lv (min u.burst (u.level + t.toNat * u.rate))
def Bu.has (u : Bu) (n : Int) : Bool := decide (1 ≤ n) && decide (n ≤ (u.level : Int))
def Bu.take (u : Bu) (n : Int) : Bu := if 1 ≤ n ∧ n ≤ (u.level : Int) then u.lv (u.level - n.toNat) else u
def Bu.wait (u : Bu) (n : Int) : Int := if n < 1 ∨ (u.burst : Int) < n then -1 else if n ≤ (u.level : Int) then 0 else if u.rate = 0 then -1 else (((n.toNat - u.level + u.rate - 1) / u.rate : Nat) : Int)
theorem Bu.Ok.lv {u : Bu} (h : u.Ok) {l : Nat} (hl : l ≤ u.burst) : (u.lv l).Ok := ⟨h.r, h.b1, h.b, hl⟩
theorem Bu.Ok.tick {u : Bu} (h : u.Ok) (t : Int) : (u.tick t).Ok := by
  unfold Bu.tick
  split
  · exact h
  · exact h.lv (Nat.min_le_left _ _)
theorem Bu.Ok.take {u : Bu} (h : u.Ok) (n : Int) : (u.take n).Ok := by
  unfold Bu.take
  split
  · exact h.lv (by have := h.l; omega)
  · exact h
theorem Bu.tick_rate (u : Bu) (t : Int) : (u.tick t).rate = u.rate ∧ (u.tick t).burst = u.burst := by
  unfold Bu.tick
  split
  · exact ⟨rfl, rfl⟩
  · exact ⟨rfl, rfl⟩
theorem Bu.take_rate (u : Bu) (t : Int) : (u.take t).rate = u.rate ∧ (u.take t).burst = u.burst := by
  unfold Bu.take
  split
  · exact ⟨rfl, rfl⟩
  · exact ⟨rfl, rfl⟩
/-- A rounded quotient: the k that is told. -/
theorem ceil_iff (a r k : Nat) (hr : 0 < r) (h1 : k * r < a) (h2 : a ≤ (k + 1) * r) : (a + r - 1) / r = k + 1 := by
  have e : (k + 1) * r = k * r + r := Nat.succ_mul k r
  rw [Nat.div_eq_iff hr]
  refine ⟨?_, ?_⟩ <;> omega
theorem ceil_spec (a r : Nat) (hr : 0 < r) (ha : 0 < a) : ∃ k, (a + r - 1) / r = k + 1 ∧ k * r < a ∧ a ≤ (k + 1) * r := by
  have h1 := Nat.div_add_mod (a - 1) r
  have h2 := Nat.mod_lt (a - 1) hr
  have e : ((a - 1) / r + 1) * r = (a - 1) / r * r + r := Nat.succ_mul _ r
  have e2 : r * ((a - 1) / r) = (a - 1) / r * r := Nat.mul_comm _ _
  have h3 : (a - 1) / r * r < a := by omega
  have h4 : a ≤ ((a - 1) / r + 1) * r := by omega
  exact ⟨(a - 1) / r, ceil_iff a r _ hr h3 h4, h3, h4⟩

/-- What the tries come to. -/
def growB (top w : Nat) : Nat → Nat
  | 0 => w
  | k + 1 => growB top (min (2 * w) top) k
theorem growB_succ (top : Nat) : ∀ (k w : Nat), growB top w (k + 1) = min (2 * growB top w k) top
  | 0, _ => rfl
  | k + 1, w => by
    show growB top (min (2 * w) top) (k + 1) = _
    rw [growB_succ top k]
    rfl
theorem growB_le (top w : Nat) (h : w ≤ top) : ∀ k, growB top w k ≤ top
  | 0 => h
  | k + 1 => by rw [growB_succ]; exact Nat.min_le_right _ _
theorem growB_ge (top w : Nat) (h : w ≤ top) : ∀ k, w ≤ growB top w k
  | 0 => Nat.le_refl _
  | k + 1 => by
    rw [growB_succ]
    have := growB_ge top w h k
    omega
theorem growB_mono (top w : Nat) (h : w ≤ top) (k : Nat) : growB top w k ≤ growB top w (k + 1) := by
  rw [growB_succ]
  have := growB_le top w h k
  omega
theorem growB_stay (top w k : Nat) (h : growB top w k = top) : ∀ j, growB top w (k + j) = top
  | 0 => h
  | j + 1 => by
    rw [← Nat.add_assoc, growB_succ, growB_stay top w k h j]
    omega
/-- The base as it counts, the most as it counts. -/
def baseB (base : Int) : Nat := (min base 4611686018427387904).toNat
def topB (base most : Int) : Nat := (min (max base most) 4611686018427387904).toNat
theorem baseB_le (base most : Int) : baseB base ≤ topB base most := by unfold baseB topB; omega
theorem topB_le (base most : Int) : topB base most ≤ 4611686018427387904 := by unfold topB; omega
def triesB (base most tries : Int) : Nat := growB (topB base most) (baseB base) (tries - 1).toNat
theorem triesB_le (base most tries : Int) : triesB base most tries ≤ topB base most := growB_le _ _ (baseB_le _ _) _
theorem triesB_ge (base most tries : Int) : baseB base ≤ triesB base most tries := growB_ge _ _ (baseB_le _ _) _
/-- What is waited of W. -/
def halfB (W own : Nat) : Nat := W - W / 2 + own % (W / 2 + 1)
def backB (base most tries : Int) (own : Nat) : Int := if base < 1 ∨ tries < 1 then 0 else ((halfB (triesB base most tries) own : Nat) : Int)
theorem halfB_le (W own : Nat) : halfB W own ≤ W := by
  unfold halfB
  have := Nat.mod_lt own (show 0 < W / 2 + 1 by omega)
  omega
theorem halfB_ge (W own : Nat) : W - W / 2 ≤ halfB W own := Nat.le_add_right _ _
end Go.Proofs.Ytenmopnegedgjaa
