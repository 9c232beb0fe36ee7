/- Layer 8, plain: what quorums are, node by node. No program is named here. -/
import Derived.Test.YthkkkldkpdkabaaQuP
namespace Go.Proofs.Ythkkkldkpdkabaa

/-- How many of the first k nodes are in a set. -/
def bitsN : Nat → Nat → Nat
  | 0, _ => 0
  | k + 1, x => bitsN k x + if x.testBit k then 1 else 0
theorem bitsN_le (k x : Nat) : bitsN k x ≤ k := by
  induction k with
  | zero => exact Nat.le_refl _
  | succ k ih => unfold bitsN; split <;> omega
theorem bitsN_mono {k x y : Nat} (h : ∀ i, i < k → x.testBit i = true → y.testBit i = true) : bitsN k x ≤ bitsN k y := by
  induction k with
  | zero => exact Nat.le_refl _
  | succ k ih =>
    have ih := ih fun i hi => h i (by omega)
    unfold bitsN
    by_cases e : x.testBit k = true
    · rw [if_pos e, if_pos (h k (by omega) e)]; omega
    · rw [if_neg e]; split <;> omega
theorem bitsN_apart {k x y : Nat} (h : ∀ i, i < k → ¬ (x.testBit i = true ∧ y.testBit i = true)) : bitsN k x + bitsN k y ≤ k := by
  induction k with
  | zero => exact Nat.le_refl _
  | succ k ih =>
    have ih := ih fun i hi => h i (by omega)
    have hk := h k (by omega)
    unfold bitsN
    by_cases e : x.testBit k = true
    · rw [if_pos e, if_neg fun e2 => hk ⟨e, e2⟩]; omega
    · rw [if_neg e]; split <;> omega
theorem bitsN_full {k x : Nat} (h : ∀ i, i < k → x.testBit i = true) : bitsN k x = k := by
  induction k with
  | zero => rfl
  | succ k ih =>
    unfold bitsN
    rw [ih fun i hi => h i (by omega), if_pos (h k (by omega))]
theorem bitsN_none {k x : Nat} (h : ∀ i, i < k → x.testBit i = false) : bitsN k x = 0 := by
  induction k with
  | zero => rfl
  | succ k ih =>
    unfold bitsN
    rw [ih fun i hi => h i (by omega), if_neg (by rw [h k (by omega)]; simp)]
theorem bitsN_congr {k x y : Nat} (h : ∀ i, i < k → x.testBit i = y.testBit i) : bitsN k x = bitsN k y :=
  Nat.le_antisymm (bitsN_mono fun i hi e => by rw [← h i hi]; exact e) (bitsN_mono fun i hi e => by rw [h i hi]; exact e)
theorem bitsN_more {k m x : Nat} (hkm : k ≤ m) (h : ∀ i, k ≤ i → x.testBit i = false) : bitsN m x = bitsN k x := by
  induction m with
  | zero => obtain rfl : k = 0 := by omega
            rfl
  | succ m ih =>
    by_cases e : k = m + 1
    · rw [e]
    · show bitsN m x + (if x.testBit m = true then 1 else 0) = bitsN k x
      rw [if_neg (by rw [h m (by omega)]; simp)]
      exact ih (by omega)
theorem ones_bits2 : ∀ a : Fin 64, ∀ b : Fin 64, Lib.onesCount (a.val * 64 + b.val) = bitsN 12 (a.val * 64 + b.val) := by decide +kernel
theorem ones_bits (x : Nat) (hx : x < 4096) : Lib.onesCount x = bitsN 12 x := by
  have := ones_bits2 ⟨x / 64, by omega⟩ ⟨x % 64, by omega⟩
  dsimp only at this
  rwa [show x / 64 * 64 + x % 64 = x by omega] at this
theorem all_bit (n i : Nat) : (2 ^ n - 1).testBit i = decide (i < n) := Nat.testBit_two_pow_sub_one n i
theorem ones_cut (q : Qm) (h : q.n ≤ 12) (s : Nat) : Lib.onesCount (s &&& q.all) = bitsN q.n s := by
  have hal := q.all_lt h
  have hlt : s &&& q.all < 4096 := Nat.and_lt_two_pow (n := 12) _ hal
  rw [ones_bits _ hlt]
  rw [bitsN_more (k := q.n) h fun i hi => by
    rw [Nat.testBit_and]
    unfold Qm.all
    rw [all_bit, decide_eq_false (by omega), Bool.and_false]]
  exact bitsN_congr fun i hi => by
    rw [Nat.testBit_and]
    unfold Qm.all
    rw [all_bit, decide_eq_true hi, Bool.and_true]

/-- All nodes of some part are in the set. -/
def Qm.Whole (q : Qm) (second : Bool) (s : Nat) : Prop := ∃ i, i < q.n ∧ ∀ k, k < q.n → q.part second k = q.part second i → s.testBit k = true
/-- Of each part a node is in the set. -/
def Qm.Meet (q : Qm) (second : Bool) (s : Nat) : Prop := ∀ i, i < q.n → ∃ k, k < q.n ∧ q.part second k = q.part second i ∧ s.testBit k = true

theorem Qm.mask_ne (q : Qm) (second : Bool) (p : Nat) : q.mask second q.n p ≠ 0 ↔ ∃ i, i < q.n ∧ q.part second i = p := by
  constructor
  · intro h
    apply Classical.byContradiction
    intro hn
    apply h
    apply Nat.eq_of_testBit_eq
    intro j
    rw [q.mask_bit, Nat.zero_testBit]
    by_cases hj : j < q.n
    · rw [decide_eq_false fun e => hn ⟨j, hj, e⟩, Bool.and_false]
    · rw [decide_eq_false hj, Bool.false_and]
  · rintro ⟨i, hi, hp⟩ h0
    have h1 := q.mask_bit second q.n p i
    rw [h0, Nat.zero_testBit, decide_eq_true hi, decide_eq_true hp] at h1
    cases h1
theorem Qm.and_mask (q : Qm) (second : Bool) (p s : Nat) : s &&& q.mask second q.n p = q.mask second q.n p ↔ ∀ k, k < q.n → q.part second k = p → s.testBit k = true := by
  constructor
  · intro h k hk hp
    have h1 := congrArg (fun x => x.testBit k) h
    rw [Nat.testBit_and, q.mask_bit, decide_eq_true hk, decide_eq_true hp] at h1
    simpa using h1
  · intro h
    apply Nat.eq_of_testBit_eq
    intro j
    rw [Nat.testBit_and, q.mask_bit]
    by_cases hj : j < q.n
    · by_cases hp : q.part second j = p
      · rw [h j hj hp, Bool.true_and]
      · rw [decide_eq_false hp, Bool.and_false, Bool.and_false]
    · rw [decide_eq_false hj, Bool.false_and, Bool.and_false]
theorem Qm.and_mask_ne (q : Qm) (second : Bool) (p s : Nat) : s &&& q.mask second q.n p ≠ 0 ↔ ∃ k, k < q.n ∧ q.part second k = p ∧ s.testBit k = true := by
  constructor
  · intro h
    apply Classical.byContradiction
    intro hn
    apply h
    apply Nat.eq_of_testBit_eq
    intro j
    rw [Nat.testBit_and, q.mask_bit, Nat.zero_testBit]
    by_cases hj : j < q.n
    · by_cases hp : q.part second j = p
      · cases e : s.testBit j with
        | false => simp
        | true => exact absurd ⟨j, hj, hp, e⟩ hn
      · rw [decide_eq_false hp, Bool.and_false, Bool.and_false]
    · rw [decide_eq_false hj, Bool.false_and, Bool.and_false]
  · rintro ⟨k, hk, hp, he⟩ h0
    have h1 := congrArg (fun x => x.testBit k) h0
    rw [Nat.testBit_and, q.mask_bit, decide_eq_true hk, decide_eq_true hp, he, Nat.zero_testBit] at h1
    cases h1
theorem Qm.mem_parts (q : Qm) (hr : q.right = 0) (hk : q.kind ≠ 1) (second : Bool) (x : Nat) : x ∈ q.parts second ↔ ∃ i, i < q.n ∧ x = q.mask second q.n (q.part second i) := by
  unfold Qm.parts Qm.row
  rw [List.mem_filter, List.mem_map]
  constructor
  · rintro ⟨⟨p, _, rfl⟩, h⟩
    have h : q.mask second q.n p ≠ 0 := by simpa using h
    obtain ⟨i, hi, rfl⟩ := (q.mask_ne second p).1 h
    exact ⟨i, hi, rfl⟩
  · rintro ⟨i, hi, rfl⟩
    refine ⟨⟨_, List.mem_range.2 (q.part_lt hr second i hi hk), rfl⟩, ?_⟩
    have := (q.mask_ne second (q.part second i)).2 ⟨i, hi, rfl⟩
    simpa using this
theorem Qm.whole_iff (q : Qm) (hr : q.right = 0) (hk : q.kind ≠ 1) (second : Bool) (s : Nat) : wholeL s (q.parts second) = true ↔ q.Whole second s := by
  unfold wholeL Qm.Whole
  rw [List.any_eq_true]
  constructor
  · rintro ⟨x, hx, h⟩
    obtain ⟨i, hi, rfl⟩ := (q.mem_parts hr hk second x).1 hx
    exact ⟨i, hi, (q.and_mask second _ s).1 (of_decide_eq_true h)⟩
  · rintro ⟨i, hi, h⟩
    exact ⟨_, (q.mem_parts hr hk second _).2 ⟨i, hi, rfl⟩, decide_eq_true ((q.and_mask second _ s).2 h)⟩
theorem Qm.meet_iff (q : Qm) (hr : q.right = 0) (hk : q.kind ≠ 1) (second : Bool) (s : Nat) : meetsL s (q.parts second) = true ↔ q.Meet second s := by
  unfold meetsL Qm.Meet
  rw [List.all_eq_true]
  constructor
  · intro h i hi
    have h1 := h _ ((q.mem_parts hr hk second _).2 ⟨i, hi, rfl⟩)
    exact (q.and_mask_ne second _ s).1 (by simpa using h1)
  · intro h x hx
    obtain ⟨i, hi, rfl⟩ := (q.mem_parts hr hk second x).1 hx
    have := (q.and_mask_ne second _ s).2 (h i hi)
    simpa using this

/-- Is it a quorum: node by node. -/
def Qm.IsQ (q : Qm) (second : Bool) (s : Nat) : Prop := (q.kind = 1 ∧ q.cnt second ≤ (bitsN q.n s : Int)) ∨ (q.kind ≠ 1 ∧ (q.kind = 3 ∧ second = false) ∧ q.Meet second s) ∨ (q.kind ≠ 1 ∧ ¬ (q.kind = 3 ∧ second = false) ∧ q.Whole second s)
theorem Qm.isQ_iff (q : Qm) (hr : q.right = 0) (second : Bool) (s : Nat) : q.isQ second s = true ↔ q.IsQ second s := by
  unfold Qm.isQ Qm.isQ' Qm.IsQ
  rw [if_pos hr]
  have hn : q.n ≤ 12 := by have := q.right_cases hr; unfold Qm.n; omega
  by_cases hk : q.kind = 1
  · rw [if_pos hk, ones_cut q hn s, decide_eq_true_iff]
    simp [hk]
  · rw [if_neg hk]
    by_cases h3 : q.kind = 3 ∧ second = false
    · rw [if_pos h3, q.meet_iff hr hk]
      simp [h3]
    · rw [if_neg h3, q.whole_iff hr hk]
      simp [hk, h3]
theorem Qm.isQ_bad (q : Qm) (hr : q.right ≠ 0) (second : Bool) (s : Nat) : q.isQ second s = false := by unfold Qm.isQ; rw [if_neg hr]

section
variable (q : Qm) (hr : q.right = 0)
include hr
/-- Of the nodes that there are all that play a part. -/
theorem Qm.isQ_mono (second : Bool) {s t : Nat} (h : ∀ i, i < q.n → s.testBit i = true → t.testBit i = true) (hs : q.isQ second s = true) : q.isQ second t = true := by
  rw [q.isQ_iff hr] at hs ⊢
  rcases hs with ⟨h1, h2⟩ | ⟨h1, h2, h3⟩ | ⟨h1, h2, h3⟩
  · have := bitsN_mono h
    exact .inl ⟨h1, by omega⟩
  · refine .inr (.inl ⟨h1, h2, fun i hi => ?_⟩)
    obtain ⟨k, hk, hp, he⟩ := h3 i hi
    exact ⟨k, hk, hp, h k hk he⟩
  · obtain ⟨i, hi, hw⟩ := h3
    exact .inr (.inr ⟨h1, h2, i, hi, fun k hk hp => h k hk (hw k hk hp)⟩)
theorem Qm.isQ_same (second : Bool) {s t : Nat} (h : ∀ i, i < q.n → s.testBit i = t.testBit i) : q.isQ second s = q.isQ second t := by
  rw [Bool.eq_iff_iff]
  exact ⟨q.isQ_mono hr second fun i hi e => by rw [← h i hi]; exact e, q.isQ_mono hr second fun i hi e => by rw [h i hi]; exact e⟩
theorem Qm.cnt_in (hk : q.kind = 1) (second : Bool) : 1 ≤ q.cnt second ∧ q.cnt second ≤ (q.n : Int) := by
  have := q.right_cases hr
  unfold Qm.cnt Qm.n
  cases second <;> simp <;> omega
theorem Qm.isQ_full (second : Bool) {s : Nat} (h : ∀ i, i < q.n → s.testBit i = true) : q.isQ second s = true := by
  have hn : 1 ≤ q.n := by have := q.right_cases hr; unfold Qm.n; omega
  rw [q.isQ_iff hr]
  by_cases hk : q.kind = 1
  · refine .inl ⟨hk, ?_⟩
    rw [bitsN_full h]
    exact (q.cnt_in hr hk second).2
  · by_cases h3 : q.kind = 3 ∧ second = false
    · exact .inr (.inl ⟨hk, h3, fun i hi => ⟨i, hi, rfl, h i hi⟩⟩)
    · exact .inr (.inr ⟨hk, h3, 0, by omega, fun k hk _ => h k hk⟩)
theorem Qm.isQ_none (second : Bool) {s : Nat} (h : ∀ i, i < q.n → s.testBit i = false) : q.isQ second s = false := by
  have hn : 1 ≤ q.n := by have := q.right_cases hr; unfold Qm.n; omega
  rw [Bool.eq_false_iff]
  intro hs
  rw [q.isQ_iff hr] at hs
  rcases hs with ⟨h1, h2⟩ | ⟨h1, h2, h3⟩ | ⟨h1, h2, h3⟩
  · rw [bitsN_none h] at h2
    have := q.cnt_in hr h1 second
    omega
  · obtain ⟨k, hk, _, he⟩ := h3 0 (by omega)
    rw [h k hk] at he
    cases he
  · obtain ⟨i, hi, hw⟩ := h3
    have := hw i hi rfl
    rw [h i hi] at this
    cases this
/-- Any quorum of the first phase and any of the second one have a node in common. -/
theorem Qm.meets {a b : Nat} (ha : q.isQ false a = true) (hb : q.isQ true b = true) : ∃ i, i < q.n ∧ a.testBit i = true ∧ b.testBit i = true := by
  obtain ⟨hn1, hn2, hcs⟩ := q.right_cases hr
  rw [q.isQ_iff hr] at ha hb
  apply Classical.byContradiction
  intro hno
  have hno : ∀ i, i < q.n → ¬ (a.testBit i = true ∧ b.testBit i = true) := fun i hi h => hno ⟨i, hi, h⟩
  by_cases hk : q.kind = 1
  · obtain ⟨_, h1⟩ | ⟨h, _⟩ | ⟨h, _⟩ := ha
    · obtain ⟨_, h2⟩ | ⟨h, _⟩ | ⟨h, _⟩ := hb
      · have h3 := bitsN_apart hno
        have h4 : q.cnt false = q.one := rfl
        have h5 : q.cnt true = q.two := rfl
        have h6 : q.n = q.nodes.toNat := rfl
        omega
      · exact h hk
      · exact h hk
    · exact h hk
    · exact h hk
  · obtain ⟨h, _⟩ | ⟨_, _, h⟩ | ⟨_, h3, h⟩ := hb
    · exact hk h
    · rename_i h3; exact absurd h3.2 (by decide)
    · obtain ⟨j, hj, hw⟩ := h
      obtain ⟨e, _⟩ | ⟨_, e3, hm⟩ | ⟨_, e3, hm⟩ := ha
      · exact hk e
      · obtain ⟨k, hk2, hp, he⟩ := hm j hj
        refine hno k hk2 ⟨he, hw k hk2 ?_⟩
        unfold Qm.part at hp ⊢
        simp only [if_pos e3.1] at hp ⊢
        exact hp
      · obtain ⟨i, hi, hw2⟩ := hm
        have hk2 : q.kind = 2 := by rcases hcs with ⟨h, _⟩ | ⟨h, _⟩ | ⟨h, _⟩ <;> first | omega | exact absurd ⟨h, rfl⟩ e3
        obtain ⟨h1, h2, h4, h5, h6⟩ : 1 ≤ q.one ∧ q.one ≤ q.nodes ∧ 1 ≤ q.two ∧ q.two ≤ q.nodes ∧ q.one * q.two = q.nodes := by
          rcases hcs with ⟨h, _⟩ | ⟨_, h⟩ | ⟨h, _⟩
          · omega
          · exact h
          · omega
        obtain ⟨o, ho⟩ := Int.eq_ofNat_of_zero_le (show 0 ≤ q.one by omega)
        obtain ⟨t, ht⟩ := Int.eq_ofNat_of_zero_le (show 0 ≤ q.two by omega)
        have hn : q.n = o * t := by unfold Qm.n; rw [← h6, ho, ht, show ((o : Int) * (t : Int)) = ((o * t : Nat) : Int) by simp, Int.toNat_natCast]
        have ht0 : 0 < t := by omega
        have hi2 : i / t < o := by rw [Nat.div_lt_iff_lt_mul ht0]; rw [← hn]; exact hi
        have hj2 : j % t < t := Nat.mod_lt _ ht0
        have hx : i / t * t + j % t < q.n := by
          rw [hn]
          have := Nat.mul_le_mul_right t (show i / t + 1 ≤ o by omega)
          rw [Nat.add_mul] at this
          omega
        refine hno _ hx ⟨hw2 _ hx ?_, hw _ hx ?_⟩
        · unfold Qm.part
          rw [if_neg (by omega), if_neg (by simp), ht, Int.toNat_natCast, Nat.mul_comm, Nat.mul_add_div ht0, Nat.div_eq_of_lt hj2, Nat.add_zero, if_neg (by omega), if_neg (by simp)]
        · unfold Qm.part
          rw [if_neg (by omega), if_pos rfl, ht, Int.toNat_natCast, Nat.mul_comm, Nat.mul_add_mod, Nat.mod_mod, if_neg (by omega), if_pos rfl]
end
end Go.Proofs.Ythkkkldkpdkabaa
