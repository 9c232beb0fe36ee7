/- More of what was lent: it reads as the bytes; the parts of what Fixed tells. -/
import Derived.Test.YtgippbbbfpkhhaaLent
import Derived.Test.YtgippbbbfpkhhaaFixed2
import Derived.Test.YtgippbbbfpkhhaaTexts
import Derived.Test.YtgippbbbfpkhhaaBk
namespace Go.Proofs.Ytgippbbbfpkhhaa
open Go.RowKit
theorem lent_cap {w : World} {g cap base n : Nat} {l : List UInt8} (hx : w.ownsRow base 5 1 (.slice (some ⟨g, 0, none⟩) (n + 2) cap) (n + 2) (u8s (l ++ [91, 92]))) : n + 2 ≤ cap ∧ cap ≤ 9223372036854775807 := by
  obtain ⟨A, c, hv, h1, h2⟩ := own_shape hx
  injection hv with _ _ hc
  unfold maxLen at h2
  omega
theorem lent_own {w : World} {g cap base n : Nat} {l : List UInt8} (hl : l.length = n) (hx : w.ownsRow base 5 1 (.slice (some ⟨g, 0, none⟩) (n + 2) cap) (n + 2) (u8s (l ++ [91, 92]))) : w.ownsRow base 5 1 (.slice (some ⟨g, 0, none⟩) n cap) n (u8s l) := by
  refine ⟨by rw [u8s_len, hl, Nat.mul_one], ?_⟩
  rcases hx.2 with ⟨h', _⟩ | ⟨g', cap', cur, hv, hb, hh, h1, h2, h3, h4⟩
  · cases h'
  · injection hv with hv _ hc
    injection hv with hv
    injection hv with hg
    subst hg hc
    refine .inr ⟨g, cap, cur, rfl, hb, hh, by omega, h2, h3, ?_⟩
    have e : cur.toList.take (n * 1) = (cur.toList.take ((n + 2) * 1)).take (n * 1) := by rw [List.take_take, Nat.min_eq_left (by omega)]
    rw [e, h4, u8s_append, Nat.mul_one]
    have := List.take_left (l₁ := u8s l) (l₂ := u8s [91, 92])
    rwa [u8s_len, hl] at this
theorem lent_rd {w : World} {g cap base n : Nat} {l : List UInt8} (hl : l.length = n) (hx : w.ownsRow base 5 1 (.slice (some ⟨g, 0, none⟩) (n + 2) cap) (n + 2) (u8s (l ++ [91, 92]))) : Rd w w.heap.size (some ⟨g, 0, none⟩) n l := by
  refine ⟨hl, fun _ => ⟨g, 0, rfl, (hx.lt g rfl).2, fun j hj => ?_⟩⟩
  rw [Nat.zero_add, hx.cellAt j (by omega), u8s_at _ _ (by simp; omega)]
  simp [List.getElem_append_left hj]
theorem fixAt_form (l : List UInt8) (a : Int) (hl : l.length ≤ 9223372036854775807) : ∃ (v to e : Nat), fixAt l a = ((v : Int), (to : Int), (e : Int)) ∧ v < 4294967296 ∧ to ≤ l.length ∧ e ≤ 10 := by
  unfold fixAt
  by_cases h1 : a < 0 ∨ (l.length : Int) < a
  · rw [if_pos h1]; exact ⟨0, 0, 2, rfl, by omega, by omega, by omega⟩
  · rw [if_neg h1]
    by_cases h2 : (l.length : Int) - a < 4
    · rw [if_pos h2]; exact ⟨0, 0, 10, rfl, by omega, by omega, by omega⟩
    · rw [if_neg h2]
      obtain ⟨k, rfl⟩ := Int.eq_ofNat_of_zero_le (show 0 ≤ a by omega)
      refine ⟨_, k + 4, 0, rfl, ?_, by omega, by omega⟩
      have := be_lt ((l.drop ((k : Int)).toNat).take 4)
      rw [List.length_take, List.length_drop, Nat.min_eq_left (by simp; omega)] at this
      exact this
theorem unzig_bd (v : Nat) (h : v < 18446744073709551616) : -9223372036854775808 ≤ unzig v ∧ unzig v ≤ 9223372036854775807 := by
  unfold unzig
  split <;> omega
theorem txtAt_form (l : List UInt8) (a most : Int) (hl : l.length ≤ 9223372036854775807) : ∃ (t : List UInt8) (to e : Nat), txtAt l a most = (t, (to : Int), (e : Int)) ∧ t.length ≤ l.length ∧ to ≤ l.length ∧ e ≤ 11 := by
  obtain ⟨v, to, e, hu, _, hto, he⟩ := uintAt_form l a hl
  unfold txtAt
  rw [hu]
  by_cases h1 : (e : Int) ≠ 0
  · rw [if_pos h1]; exact ⟨[], 0, e, rfl, by simp, by omega, by omega⟩
  · rw [if_neg h1]
    by_cases h2 : max most 0 < (v : Int)
    · rw [if_pos h2]; exact ⟨[], 0, 3, rfl, by simp, by omega, by omega⟩
    · rw [if_neg h2]
      by_cases h3 : (l.length : Int) - (to : Int) < (v : Int)
      · rw [if_pos h3]; exact ⟨[], 0, 10, rfl, by simp, by omega, by omega⟩
      · rw [if_neg h3]
        refine ⟨_, to + v, 0, rfl, by rw [List.length_take, List.length_drop]; omega, by omega, by omega⟩

/-- What reads below a block that has turned reads on. -/
theorem Rd.grown_below {w w' : World} {n g : Nat} {A : Option Addr} {l : List UInt8} (h : Rd w g A n l) (hg : w.grownBy w' (some g)) (hlt : g ≤ w.heap.size) : Rd w' g A n l :=
  h.keep fun p hp => World.cell?_of_block (hg.block p.block (by omega) (fun e => by injection e with e; omega))
end Go.Proofs.Ytgippbbbfpkhhaa
