/- Layer 8, plain: which nodes may be gone. No program is named here. -/
import Derived.Test.YthkkkldkpdkabaaQuN
namespace Go.Proofs.Ythkkkldkpdkabaa

theorem bit_or_pow {y n i : Nat} : (y ||| 2 ^ n).testBit i = (y.testBit i || decide (n = i)) := by rw [Nat.testBit_or, Nat.testBit_two_pow]
theorem bitsN_or_pow {k y n : Nat} (h : k ≤ n) : bitsN k (y ||| 2 ^ n) = bitsN k y := bitsN_congr fun i hi => by rw [bit_or_pow, decide_eq_false (by omega), Bool.or_false]
/-- To any set of few nodes there is one of just so many that has them all. -/
theorem bits_ext (n : Nat) : ∀ x m, bitsN n x ≤ m → m ≤ n → ∃ y, y < 2 ^ n ∧ bitsN n y = m ∧ ∀ i, i < n → x.testBit i = true → y.testBit i = true := by
  induction n with
  | zero => exact fun x m _ h => ⟨0, by simp, by have : m = 0 := by omega
                                                 subst this; rfl, fun i hi => absurd hi (by omega)⟩
  | succ n ih =>
    intro x m h1 h2
    have hd : bitsN (n + 1) x = bitsN n x + if x.testBit n = true then 1 else 0 := rfl
    rw [hd] at h1
    have hp : 2 ^ (n + 1) = 2 ^ n + 2 ^ n := by rw [Nat.pow_succ]; omega
    by_cases e : x.testBit n = true
    · rw [if_pos e] at h1
      obtain ⟨y, hy, hb, hs⟩ := ih x (m - 1) (by omega) (by omega)
      refine ⟨y ||| 2 ^ n, ?_, ?_, fun i hi hx => ?_⟩
      · exact Nat.or_lt_two_pow (by omega) (by rw [hp]; have := Nat.two_pow_pos n; omega)
      · show bitsN n (y ||| 2 ^ n) + (if (y ||| 2 ^ n).testBit n = true then 1 else 0) = m
        rw [bitsN_or_pow (Nat.le_refl _), hb, if_pos (by rw [bit_or_pow]; simp)]
        omega
      · rw [bit_or_pow]
        by_cases hin : n = i
        · rw [decide_eq_true hin, Bool.or_true]
        · rw [hs i (by omega) hx, Bool.true_or]
    · rw [if_neg e] at h1
      by_cases hm : m ≤ n
      · obtain ⟨y, hy, hb, hs⟩ := ih x m (by omega) hm
        have hyn : y.testBit n = false := Nat.testBit_lt_two_pow hy
        refine ⟨y, by omega, ?_, fun i hi hx => ?_⟩
        · show bitsN n y + (if y.testBit n = true then 1 else 0) = m
          rw [hb, if_neg (by rw [hyn]; simp)]
          omega
        · by_cases hin : i = n
          · subst hin; exact absurd hx e
          · exact hs i (by omega) hx
      · refine ⟨2 ^ (n + 1) - 1, by have := Nat.two_pow_pos (n + 1); omega, ?_, fun i hi _ => by rw [all_bit]; exact decide_eq_true hi⟩
        rw [bitsN_full fun i hi => by rw [all_bit]; exact decide_eq_true hi]
        omega
theorem compl_bit (g i : Nat) (hg : g < 4294967296) (hi : i < 32) : (4294967295 - g).testBit i = !(g.testBit i) := by
  have := Nat.testBit_two_pow_sub_succ (x := g) (n := 32) (by omega) i
  rw [decide_eq_true hi, Bool.true_and] at this
  rw [← this]
  congr 1
  omega
/-- The nodes that are left. -/
theorem left_bit (q : Qm) (hn : q.n ≤ 12) (g i : Nat) (hg : g < 4294967296) (hi : i < q.n) : (q.all &&& (4294967295 - g)).testBit i = !(g.testBit i) := by
  rw [Nat.testBit_and, compl_bit g i hg (by omega)]
  unfold Qm.all
  rw [all_bit, decide_eq_true hi, Bool.true_and]
theorem Qm.can_mono (q : Qm) (hr : q.right = 0) {s t : Nat} (h : ∀ i, i < q.n → s.testBit i = true → t.testBit i = true) (hs : q.can s = true) : q.can t = true := by
  unfold Qm.can at hs ⊢
  rw [Bool.and_eq_true] at hs ⊢
  exact ⟨q.isQ_mono hr false h hs.1, q.isQ_mono hr true h hs.2⟩
theorem Qm.can_same (q : Qm) (hr : q.right = 0) {s t : Nat} (h : ∀ i, i < q.n → s.testBit i = t.testBit i) : q.can s = q.can t := by
  unfold Qm.can
  rw [q.isQ_same hr false h, q.isQ_same hr true h]
theorem Qm.mem_ofCount (q : Qm) (hn : q.n ≤ 12) (m : Int) (g : Nat) : g ∈ q.ofCount m ↔ g < 2 ^ q.n ∧ (bitsN q.n g : Int) = m := by
  unfold Qm.ofCount
  rw [List.mem_filter, List.mem_range, decide_eq_true_iff]
  have hp := Nat.two_pow_pos q.n
  have h12 : 2 ^ q.n ≤ 2 ^ 12 := Nat.pow_le_pow_right (by decide) hn
  have key : g < 2 ^ q.n → Lib.onesCount g = bitsN q.n g := fun hg => by
    rw [ones_bits g (by omega)]
    exact bitsN_more hn fun i hi => Nat.testBit_lt_two_pow (Nat.lt_of_lt_of_le hg (Nat.pow_le_pow_right (by decide) hi))
  unfold Qm.all
  constructor
  · rintro ⟨h1, h2⟩
    have hg : g < 2 ^ q.n := by omega
    rw [key hg] at h2
    exact ⟨hg, h2⟩
  · rintro ⟨h1, h2⟩
    rw [key h1]
    exact ⟨by omega, h2⟩
theorem Qm.n_cast' (q : Qm) (h : q.right = 0) : q.nodes = (q.n : Int) ∧ q.n ≤ 12 := by
  have := q.right_cases h
  unfold Qm.n
  omega
theorem Qm.reach_bad (q : Qm) (hr : q.right ≠ 0) (m : Int) : q.reach m = q.right := by unfold Qm.reach; rw [if_pos hr]
theorem Qm.right_vals (q : Qm) : q.right = 0 ∨ q.right = 2 ∨ q.right = 80 := by
  unfold Qm.right Qm.rightC Qm.rightR Qm.rightS
  repeat' split
  all_goals simp
theorem Qm.reach_vals (q : Qm) (hr : q.right = 0) (m : Int) (hm : 0 ≤ m) : q.reach m = 0 ∨ q.reach m = 4 := by
  unfold Qm.reach
  rw [if_neg (by simp [hr]), if_neg (by omega)]
  split <;> simp
theorem Qm.reach_zero (q : Qm) (hr : q.right = 0) (m : Int) (hm : 0 ≤ m) : q.reach m = 0 ↔ ∀ g, g < 2 ^ q.n → (bitsN q.n g : Int) = min m q.nodes → q.can (q.all &&& (4294967295 - g)) = true := by
  have hn := (q.n_cast' hr).2
  unfold Qm.reach
  rw [if_neg (by simp [hr]), if_neg (by omega)]
  constructor
  · intro h g h1 h2
    split at h
    · rename_i ha
      exact List.all_eq_true.1 ha g ((q.mem_ofCount hn _ g).2 ⟨h1, h2⟩)
    · omega
  · intro h
    rw [if_pos]
    rw [List.all_eq_true]
    intro g hg
    obtain ⟨h1, h2⟩ := (q.mem_ofCount hn _ g).1 hg
    exact h g h1 h2
section
variable (q : Qm) (hr : q.right = 0)
include hr
/-- If so many may be gone, any fewer leave quorums of both phases. -/
theorem Qm.gone_ok {m : Int} (hm : 0 ≤ m) (h : q.reach m = 0) {g : Nat} (hg : g < 4294967296) (hb : (bitsN q.n g : Int) ≤ m) : q.can (4294967295 - g) = true := by
  obtain ⟨hc, hn⟩ := q.n_cast' hr
  have hle := bitsN_le q.n g
  obtain ⟨y, hy, hyb, hs⟩ := bits_ext q.n g (min m q.nodes).toNat (by omega) (by omega)
  have h12 : 2 ^ q.n ≤ 2 ^ 12 := Nat.pow_le_pow_right (by decide) hn
  have h1 := (q.reach_zero hr m hm).1 h y hy (by omega)
  refine q.can_mono hr (fun i hi hx => ?_) h1
  rw [left_bit q hn y i (by omega) hi] at hx
  rw [compl_bit g i hg (by omega)]
  cases e : g.testBit i with
  | false => rfl
  | true => rw [hs i hi e] at hx; cases hx
/-- If so many may not be gone, one more may not either. -/
theorem Qm.gone_none {m : Int} (hm : 0 ≤ m) (h : q.reach m = 4) : q.reach (m + 1) = 4 := by
  obtain ⟨hc, hn⟩ := q.n_cast' hr
  have h12 : 2 ^ q.n ≤ 2 ^ 12 := Nat.pow_le_pow_right (by decide) hn
  rcases q.reach_vals hr (m + 1) (by omega) with h0 | h0
  · have : q.reach m = 0 := by
      rw [q.reach_zero hr m hm]
      intro g hg hb
      obtain ⟨y, hy, hyb, hs⟩ := bits_ext q.n g (min (m + 1) q.nodes).toNat (by omega) (by omega)
      have h1 := (q.reach_zero hr (m + 1) (by omega)).1 h0 y hy (by omega)
      refine q.can_mono hr (fun i hi hx => ?_) h1
      rw [left_bit q hn y i (by omega) hi] at hx
      rw [left_bit q hn g i (by omega) hi]
      cases e : g.testBit i with
      | false => rfl
      | true => rw [hs i hi e] at hx; cases hx
    omega
  · exact h0
end
end Go.Proofs.Ythkkkldkpdkabaa
