/- Layer 14: when each of four nodes was heard (BeatUp). -/
import Derived.Test.YtmdjdnibblebcaaDoorBtW
namespace Go.Proofs.YtmdjdnibblebcaaDoor
open Go.RowKit

abbrev h4 (f : Nat → Int) : Array Value := #[.int .i64 (f 0), .int .i64 (f 1), .int .i64 (f 2), .int .i64 (f 3)]
def updI (f : Nat → Int) (k : Nat) (x : Int) : Nat → Int := fun i => if i = k then x else f i
theorem h4_set (f : Nat → Int) (k : Nat) (hk : k < 4) (x : Int) : (h4 f).setIfInBounds k (.int .i64 x) = h4 (updI f k x) := by
  have : k = 0 ∨ k = 1 ∨ k = 2 ∨ k = 3 := by omega
  rcases this with rfl | rfl | rfl | rfl <;> rfl
theorem h4_at (f : Nat → Int) (k : Nat) (hk : k < 4) : (h4 f)[k]? = some (.int .i64 (f k)) := by
  have : k = 0 ∨ k = 1 ∨ k = 2 ∨ k = 3 := by omega
  rcases this with rfl | rfl | rfl | rfl <;> rfl
/-- What is known of each node. -/
structure UpP (N : Nat) (v : Vw) (f : Nat → Int) (now : Nat) : Prop where
  n : v.n = 4
  me : v.me = 3
  pat : v.pat = N
  each : ∀ k, k < 3 → (f k = -1 ∧ v.since k = N) ∨ ∃ t : Nat, f k = (t : Int) ∧ t ≤ now ∧ v.since k = min (now - t) N
theorem UpP.tick {N : Nat} {v : Vw} {f : Nat → Int} {now : Nat} (h : UpP N v f now) : UpP N v.tick f (now + 1) := by
  refine ⟨h.n, h.me, h.pat, fun k hk => ?_⟩
  have e := Vw.tick_since v k (by rw [h.n]; omega)
  rw [if_neg (by rw [h.me]; omega), h.pat] at e
  rcases h.each k hk with ⟨h1, h2⟩ | ⟨t, h1, h2, h3⟩
  · exact .inl ⟨h1, by rw [e, h2]; omega⟩
  · exact .inr ⟨t, h1, by omega, by rw [e, h3]; omega⟩
theorem UpP.hear {N : Nat} {v : Vw} {f : Nat → Int} {now : Nat} (h : UpP N v f now) (j : Nat) : UpP N (v.hearI j) (updI f j now) now := by
  have hl := Vw.Like.hearI v j
  refine ⟨by rw [hl.n]; exact h.n, by rw [hl.me]; exact h.me, by rw [hl.pat]; exact h.pat, fun k hk => ?_⟩
  have e := Vw.hearI_since v j k (by rw [h.n]; omega)
  unfold updI
  by_cases hkj : k = j
  · rw [if_pos hkj]
    rw [if_pos (by omega)] at e
    exact .inr ⟨now, rfl, Nat.le_refl _, by rw [e]; omega⟩
  · rw [if_neg hkj]
    rw [if_neg (by omega)] at e
    rw [e]
    exact h.each k hk
/-- Whether a node is up, as the law says it. -/
theorem UpP.up {N : Nat} {v : Vw} {f : Nat → Int} {now : Nat} (h : UpP N v f now) (ok : v.Ok) (k : Nat) (hk : k < 4) :
    v.up.testBit k = (decide (k = 3) || (decide (f k ≥ 0) && decide ((now : Int) - f k < N))) := by
  rw [Vw.up_bit, h.n, h.pat]
  by_cases h3 : k = 3
  · subst h3
    have e1 : v.since 3 = 0 := by have := ok.own; rwa [h.me] at this
    have e2 := ok.p1
    rw [h.pat] at e2
    rw [e1]
    simp
    omega
  · have hN := ok.p1
    rw [h.pat] at hN
    rcases h.each k (by omega) with ⟨h1, h2⟩ | ⟨t, h1, h2, h4⟩
    · rw [h1, h2]; simp [h3]
    · rw [h1, h4]
      rw [Bool.eq_iff_iff]
      simp [h3]
      omega
theorem bit_u32 (x j : Nat) (hx : x < 4294967296) : bits .and .u32 ((x : Int) / 2 ^ j) 1 = if x.testBit j then 1 else 0 := by
  have h1 : ((x : Int) / 2 ^ j) = ((x / 2 ^ j : Nat) : Int) := by simp
  have h2 : x / 2 ^ j ≤ x := Nat.div_le_self _ _
  rw [h1, show (1 : Int) = ((1 : Nat) : Int) from rfl, and_u32 _ _ (by omega) (by omega), Nat.and_one_is_mod]
  rw [Nat.testBit_eq_decide_div_mod_eq]
  by_cases h : x / 2 ^ j % 2 = 1
  · rw [h]; simp
  · have : x / 2 ^ j % 2 = 0 := by omega
    rw [this]; simp
end Go.Proofs.YtmdjdnibblebcaaDoor
