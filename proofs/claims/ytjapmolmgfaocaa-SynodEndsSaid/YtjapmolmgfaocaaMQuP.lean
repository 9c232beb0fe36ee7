/- Of the proofs of layer 4, merged: QuP, QuN. -/
import Derived.Lib.BitFns

/- Layer 8, plain: systems of quorums, sets of nodes as numbers. No program is named here. -/
namespace Go.Proofs.Ytjapmolmgfaocaa

structure Qm where
  kind : Int
  nodes : Int
  one : Int
  two : Int
  sites : List Int
def Qm.isCount (q : Qm) (n : Int) : Bool := decide (1 ≤ n) && decide (n ≤ q.nodes)
def Qm.rightC (q : Qm) : Int := if !(q.isCount q.one) || !(q.isCount q.two) then 2 else if q.one + q.two ≤ q.nodes then 80 else 0
def Qm.rightR (q : Qm) : Int := if !(q.isCount q.one) || !(q.isCount q.two) then 2 else if q.one * q.two ≠ q.nodes then 2 else 0
def noSite (n : Int) : Bool := decide (n < 0) || decide (12 ≤ n)
def Qm.rightS (q : Qm) : Int := if (q.sites.length : Int) ≠ q.nodes then 2 else if q.sites.any noSite then 2 else 0
/-- May it be? -/
def Qm.right (q : Qm) : Int :=
  if q.nodes < 1 ∨ 12 < q.nodes then 2 else if q.kind = 1 then q.rightC else if q.kind = 2 then q.rightR else if q.kind = 3 then q.rightS else 2
def Qm.n (q : Qm) : Nat := q.nodes.toNat
def Qm.cnt (q : Qm) (second : Bool) : Int := if second then q.two else q.one
def Qm.all (q : Qm) : Nat := 2 ^ q.n - 1
/-- The row, column or site of a node. -/
def Qm.part (q : Qm) (second : Bool) (i : Nat) : Nat := if q.kind = 3 then (q.sites.getD i 0).toNat else if second then i % q.two.toNat else i / q.two.toNat
/-- Of the first k nodes those of the part p. -/
def Qm.mask (q : Qm) (second : Bool) : Nat → Nat → Nat
  | 0, _ => 0
  | k + 1, p => if q.part second k = p then q.mask second k p ||| 2 ^ k else q.mask second k p
def Qm.row (q : Qm) (second : Bool) (k : Nat) : List Nat := (List.range 12).map (q.mask second k)
def Qm.parts (q : Qm) (second : Bool) : List Nat := (q.row second q.n).filter fun x => !(decide (x = 0))
def meetsL (s : Nat) (l : List Nat) : Bool := l.all fun m => !(decide (s &&& m = 0))
def wholeL (s : Nat) (l : List Nat) : Bool := l.any fun m => decide (s &&& m = m)
def Qm.isQ' (q : Qm) (second : Bool) (s : Nat) : Bool :=
  if q.kind = 1 then decide (q.cnt second ≤ (Lib.onesCount (s &&& q.all) : Int)) else if q.kind = 3 ∧ second = false then meetsL s (q.parts second) else wholeL s (q.parts second)
def Qm.isQ (q : Qm) (second : Bool) (s : Nat) : Bool := if q.right = 0 then q.isQ' second s else false
def Qm.can (q : Qm) (s : Nat) : Bool := q.isQ false s && q.isQ true s
/-- The sets of so many nodes. -/
def Qm.ofCount (q : Qm) (m : Int) : List Nat := (List.range (q.all + 1)).filter fun s => decide ((Lib.onesCount s : Int) = m)
def Qm.reach (q : Qm) (more : Int) : Int :=
  if q.right ≠ 0 then q.right else if more < 0 then 2 else if (q.ofCount (min more q.nodes)).all (fun g => q.can (q.all &&& (4294967295 - g))) then 0 else 4

/-- What Right asks, taken apart. -/
theorem Qm.right_cases (q : Qm) (h : q.right = 0) : 1 ≤ q.nodes ∧ q.nodes ≤ 12 ∧
    ((q.kind = 1 ∧ 1 ≤ q.one ∧ q.one ≤ q.nodes ∧ 1 ≤ q.two ∧ q.two ≤ q.nodes ∧ q.nodes < q.one + q.two) ∨
     (q.kind = 2 ∧ 1 ≤ q.one ∧ q.one ≤ q.nodes ∧ 1 ≤ q.two ∧ q.two ≤ q.nodes ∧ q.one * q.two = q.nodes) ∨
     (q.kind = 3 ∧ (q.sites.length : Int) = q.nodes ∧ ∀ x ∈ q.sites, 0 ≤ x ∧ x < 12)) := by
  unfold Qm.right at h
  split at h
  · omega
  refine ⟨by omega, by omega, ?_⟩
  split at h
  · rename_i k
    refine .inl ⟨k, ?_⟩
    unfold Qm.rightC Qm.isCount at h
    split at h
    · omega
    split at h
    · omega
    rename_i h1 h2
    simp only [Bool.or_eq_true, Bool.not_eq_true', Bool.and_eq_false_iff, decide_eq_false_iff_not] at h1
    omega
  split at h
  · rename_i k
    refine .inr (.inl ⟨k, ?_⟩)
    unfold Qm.rightR Qm.isCount at h
    split at h
    · omega
    split at h
    · omega
    rename_i h1 h2
    simp only [Bool.or_eq_true, Bool.not_eq_true', Bool.and_eq_false_iff, decide_eq_false_iff_not] at h1
    exact ⟨by omega, by omega, by omega, by omega, by simpa using h2⟩
  split at h
  · rename_i k
    refine .inr (.inr ⟨k, ?_⟩)
    unfold Qm.rightS at h
    split at h
    · omega
    split at h
    · omega
    rename_i h1 h2
    refine ⟨by omega, fun x hx => ?_⟩
    have h3 : ¬ noSite x = true := fun e => h2 (List.any_eq_true.2 ⟨x, hx, e⟩)
    unfold noSite at h3
    simp only [Bool.or_eq_true, decide_eq_true_eq] at h3
    omega
  omega
theorem Qm.part_lt (q : Qm) (h : q.right = 0) (second : Bool) (i : Nat) (hi : i < q.n) : q.kind ≠ 1 → q.part second i < 12 := by
  intro hk
  have h3 : q.n ≤ 12 := by have := q.right_cases h; unfold Qm.n; omega
  have h8 : q.nodes ≤ 12 := (q.right_cases h).2.1
  rcases (q.right_cases h).2.2 with ⟨k, _⟩ | ⟨k, h1, h2, h4, h5, h6⟩ | ⟨k, h1, h2⟩
  · exact absurd k hk
  · unfold Qm.part
    rw [if_neg (by omega)]
    split
    · have h7 := Nat.mod_lt i (show 0 < q.two.toNat by omega)
      generalize i % q.two.toNat = r at h7 ⊢
      omega
    · have h7 := Nat.div_le_self i q.two.toNat
      generalize i / q.two.toNat = r at h7 ⊢
      omega
  · unfold Qm.part
    rw [if_pos k]
    unfold Qm.n at hi
    have hlt : i < q.sites.length := by omega
    have hm := h2 (q.sites[i]) (List.getElem_mem hlt)
    simp only [List.getD, List.getElem?_eq_getElem hlt, Option.getD_some]
    omega
section
variable (q : Qm) (second : Bool)
theorem Qm.mask_bit (k p j : Nat) : (q.mask second k p).testBit j = (decide (j < k) && decide (q.part second j = p)) := by
  induction k with
  | zero => simp [Qm.mask]
  | succ k ih =>
    unfold Qm.mask
    split
    · rename_i e
      rw [Nat.testBit_or, ih, Nat.testBit_two_pow]
      by_cases hj : k = j
      · subst hj; simp [e]
      · have : decide (j < k + 1) = decide (j < k) := by rw [Bool.eq_iff_iff]; simp; omega
        simp [hj, this]
    · rename_i e
      rw [ih]
      by_cases hj : j = k
      · subst hj; simp [e]
      · have : decide (j < k + 1) = decide (j < k) := by rw [Bool.eq_iff_iff]; simp; omega
        rw [this]
theorem Qm.mask_lt (k p : Nat) : q.mask second k p < 2 ^ k := by
  apply Nat.lt_pow_two_of_testBit
  intro j hj
  rw [q.mask_bit]
  simp
  omega
theorem Qm.mask_lt' (k p : Nat) (hk : k ≤ 12) : q.mask second k p < 4096 := Nat.lt_of_lt_of_le (q.mask_lt second k p) (Nat.pow_le_pow_right (by decide) hk : 2 ^ k ≤ 2 ^ 12)
theorem Qm.row_len (k : Nat) : (q.row second k).length = 12 := by simp [Qm.row]
theorem Qm.row_at (k p : Nat) (hp : p < 12) : (q.row second k)[p]? = some (q.mask second k p) := by simp [Qm.row, hp]
theorem Qm.row_lt (k : Nat) (hk : k ≤ 12) : ∀ x ∈ q.row second k, x < 4096 := by
  intro x hx
  obtain ⟨p, _, rfl⟩ := List.mem_map.1 hx
  exact q.mask_lt' second k p hk
theorem Qm.parts_lt (hn : q.n ≤ 12) : ∀ x ∈ q.parts second, x < 4096 ∧ x ≠ 0 := by
  intro x hx
  obtain ⟨h1, h2⟩ := List.mem_filter.1 hx
  exact ⟨q.row_lt second _ hn x h1, by simpa using h2⟩
theorem Qm.parts_len : (q.parts second).length ≤ 12 := by
  have := List.length_filter_le (fun x => !(decide (x = 0))) (q.row second q.n)
  rw [q.row_len] at this
  exact this
/-- One node more. -/
theorem Qm.row_next (k : Nat) : q.row second (k + 1) = (q.row second k).set (q.part second k) (q.mask second k (q.part second k) ||| 2 ^ k) := by
  apply List.ext_getElem?
  intro p
  by_cases hp : p < 12
  · rw [q.row_at second _ p hp, List.getElem?_set, q.row_len]
    by_cases e : q.part second k = p
    · rw [if_pos e, if_pos (by omega), ← e]
      conv => lhs; unfold Qm.mask
      rw [if_pos rfl]
    · rw [if_neg e, q.row_at second k p hp]
      conv => lhs; unfold Qm.mask
      rw [if_neg e]
  · rw [List.getElem?_eq_none (by rw [q.row_len]; omega), List.getElem?_eq_none (by rw [List.length_set, q.row_len]; omega)]
end
theorem Qm.all_lt (q : Qm) (h : q.n ≤ 12) : q.all < 4096 := by
  unfold Qm.all
  have : 2 ^ q.n ≤ 2 ^ 12 := Nat.pow_le_pow_right (by decide) h
  omega
end Go.Proofs.Ytjapmolmgfaocaa

/- Layer 8, plain: what quorums are, node by node. No program is named here. -/
namespace Go.Proofs.Ytjapmolmgfaocaa

/-- How many of the first k nodes are in a set. -/
def bitsN : Nat → Nat → Nat
  | 0, _ => 0
  | k + 1, x => bitsN k x + if x.testBit k then 1 else 0
theorem bitsN_le (k x : Nat) : bitsN k x ≤ k := by
  induction k with
  | zero => exact Nat.le_refl _
  | succ k ih => unfold bitsN; split <;> omega
theorem bitsN_mono {k x y : Nat} (h : ∀ i, i < k → x.testBit i = true → y.testBit i = true) : bitsN k x ≤ bitsN k y := by
  induction k with
  | zero => exact Nat.le_refl _
  | succ k ih =>
    have ih := ih fun i hi => h i (by omega)
    unfold bitsN
    by_cases e : x.testBit k = true
    · rw [if_pos e, if_pos (h k (by omega) e)]; omega
    · rw [if_neg e]; split <;> omega
theorem bitsN_apart {k x y : Nat} (h : ∀ i, i < k → ¬ (x.testBit i = true ∧ y.testBit i = true)) : bitsN k x + bitsN k y ≤ k := by
  induction k with
  | zero => exact Nat.le_refl _
  | succ k ih =>
    have ih := ih fun i hi => h i (by omega)
    have hk := h k (by omega)
    unfold bitsN
    by_cases e : x.testBit k = true
    · rw [if_pos e, if_neg fun e2 => hk ⟨e, e2⟩]; omega
    · rw [if_neg e]; split <;> omega
theorem bitsN_full {k x : Nat} (h : ∀ i, i < k → x.testBit i = true) : bitsN k x = k := by
  induction k with
  | zero => rfl
  | succ k ih =>
    unfold bitsN
    rw [ih fun i hi => h i (by omega), if_pos (h k (by omega))]
theorem bitsN_none {k x : Nat} (h : ∀ i, i < k → x.testBit i = false) : bitsN k x = 0 := by
  induction k with
  | zero => rfl
  | succ k ih =>
    unfold bitsN
    rw [ih fun i hi => h i (by omega), if_neg (by rw [h k (by omega)]; simp)]
theorem bitsN_congr {k x y : Nat} (h : ∀ i, i < k → x.testBit i = y.testBit i) : bitsN k x = bitsN k y :=
  Nat.le_antisymm (bitsN_mono fun i hi e => by rw [← h i hi]; exact e) (bitsN_mono fun i hi e => by rw [h i hi]; exact e)
theorem bitsN_more {k m x : Nat} (hkm : k ≤ m) (h : ∀ i, k ≤ i → x.testBit i = false) : bitsN m x = bitsN k x := by
  induction m with
  | zero => obtain rfl : k = 0 := by omega
            rfl
  | succ m ih =>
    by_cases e : k = m + 1
    · rw [e]
    · show bitsN m x + (if x.testBit m = true then 1 else 0) = bitsN k x
      rw [if_neg (by rw [h m (by omega)]; simp)]
      exact ih (by omega)
theorem ones_bits2 : ∀ a : Fin 64, ∀ b : Fin 64, Lib.onesCount (a.val * 64 + b.val) = bitsN 12 (a.val * 64 + b.val) := by decide +kernel
theorem ones_bits (x : Nat) (hx : x < 4096) : Lib.onesCount x = bitsN 12 x := by
  have := ones_bits2 ⟨x / 64, by omega⟩ ⟨x % 64, by omega⟩
  dsimp only at this
  rwa [show x / 64 * 64 + x % 64 = x by omega] at this
theorem all_bit (n i : Nat) : (2 ^ n - 1).testBit i = decide (i < n) := Nat.testBit_two_pow_sub_one n i
theorem ones_cut (q : Qm) (h : q.n ≤ 12) (s : Nat) : Lib.onesCount (s &&& q.all) = bitsN q.n s := by
  have hal := q.all_lt h
  have hlt : s &&& q.all < 4096 := Nat.and_lt_two_pow (n := 12) _ hal
  rw [ones_bits _ hlt]
  rw [bitsN_more (k := q.n) h fun i hi => by
    rw [Nat.testBit_and]
    unfold Qm.all
    rw [all_bit, decide_eq_false (by omega), Bool.and_false]]
  exact bitsN_congr fun i hi => by
    rw [Nat.testBit_and]
    unfold Qm.all
    rw [all_bit, decide_eq_true hi, Bool.and_true]

/-- All nodes of some part are in the set. -/
def Qm.Whole (q : Qm) (second : Bool) (s : Nat) : Prop := ∃ i, i < q.n ∧ ∀ k, k < q.n → q.part second k = q.part second i → s.testBit k = true
/-- Of each part a node is in the set. -/
def Qm.Meet (q : Qm) (second : Bool) (s : Nat) : Prop := ∀ i, i < q.n → ∃ k, k < q.n ∧ q.part second k = q.part second i ∧ s.testBit k = true

theorem Qm.mask_ne (q : Qm) (second : Bool) (p : Nat) : q.mask second q.n p ≠ 0 ↔ ∃ i, i < q.n ∧ q.part second i = p := by
  constructor
  · intro h
    apply Classical.byContradiction
    intro hn
    apply h
    apply Nat.eq_of_testBit_eq
    intro j
    rw [q.mask_bit, Nat.zero_testBit]
    by_cases hj : j < q.n
    · rw [decide_eq_false fun e => hn ⟨j, hj, e⟩, Bool.and_false]
    · rw [decide_eq_false hj, Bool.false_and]
  · rintro ⟨i, hi, hp⟩ h0
    have h1 := q.mask_bit second q.n p i
    rw [h0, Nat.zero_testBit, decide_eq_true hi, decide_eq_true hp] at h1
    cases h1
theorem Qm.and_mask (q : Qm) (second : Bool) (p s : Nat) : s &&& q.mask second q.n p = q.mask second q.n p ↔ ∀ k, k < q.n → q.part second k = p → s.testBit k = true := by
  constructor
  · intro h k hk hp
    have h1 := congrArg (fun x => x.testBit k) h
    rw [Nat.testBit_and, q.mask_bit, decide_eq_true hk, decide_eq_true hp] at h1
    simpa using h1
  · intro h
    apply Nat.eq_of_testBit_eq
    intro j
    rw [Nat.testBit_and, q.mask_bit]
    by_cases hj : j < q.n
    · by_cases hp : q.part second j = p
      · rw [h j hj hp, Bool.true_and]
      · rw [decide_eq_false hp, Bool.and_false, Bool.and_false]
    · rw [decide_eq_false hj, Bool.false_and, Bool.and_false]
theorem Qm.and_mask_ne (q : Qm) (second : Bool) (p s : Nat) : s &&& q.mask second q.n p ≠ 0 ↔ ∃ k, k < q.n ∧ q.part second k = p ∧ s.testBit k = true := by
  constructor
  · intro h
    apply Classical.byContradiction
    intro hn
    apply h
    apply Nat.eq_of_testBit_eq
    intro j
    rw [Nat.testBit_and, q.mask_bit, Nat.zero_testBit]
    by_cases hj : j < q.n
    · by_cases hp : q.part second j = p
      · cases e : s.testBit j with
        | false => simp
        | true => exact absurd ⟨j, hj, hp, e⟩ hn
      · rw [decide_eq_false hp, Bool.and_false, Bool.and_false]
    · rw [decide_eq_false hj, Bool.false_and, Bool.and_false]
  · rintro ⟨k, hk, hp, he⟩ h0
    have h1 := congrArg (fun x => x.testBit k) h0
    rw [Nat.testBit_and, q.mask_bit, decide_eq_true hk, decide_eq_true hp, he, Nat.zero_testBit] at h1
    cases h1
theorem Qm.mem_parts (q : Qm) (hr : q.right = 0) (hk : q.kind ≠ 1) (second : Bool) (x : Nat) : x ∈ q.parts second ↔ ∃ i, i < q.n ∧ x = q.mask second q.n (q.part second i) := by
  unfold Qm.parts Qm.row
  rw [List.mem_filter, List.mem_map]
  constructor
  · rintro ⟨⟨p, _, rfl⟩, h⟩
    have h : q.mask second q.n p ≠ 0 := by simpa using h
    obtain ⟨i, hi, rfl⟩ := (q.mask_ne second p).1 h
    exact ⟨i, hi, rfl⟩
  · rintro ⟨i, hi, rfl⟩
    refine ⟨⟨_, List.mem_range.2 (q.part_lt hr second i hi hk), rfl⟩, ?_⟩
    have := (q.mask_ne second (q.part second i)).2 ⟨i, hi, rfl⟩
    simpa using this
theorem Qm.whole_iff (q : Qm) (hr : q.right = 0) (hk : q.kind ≠ 1) (second : Bool) (s : Nat) : wholeL s (q.parts second) = true ↔ q.Whole second s := by
  unfold wholeL Qm.Whole
  rw [List.any_eq_true]
  constructor
  · rintro ⟨x, hx, h⟩
    obtain ⟨i, hi, rfl⟩ := (q.mem_parts hr hk second x).1 hx
    exact ⟨i, hi, (q.and_mask second _ s).1 (of_decide_eq_true h)⟩
  · rintro ⟨i, hi, h⟩
    exact ⟨_, (q.mem_parts hr hk second _).2 ⟨i, hi, rfl⟩, decide_eq_true ((q.and_mask second _ s).2 h)⟩
theorem Qm.meet_iff (q : Qm) (hr : q.right = 0) (hk : q.kind ≠ 1) (second : Bool) (s : Nat) : meetsL s (q.parts second) = true ↔ q.Meet second s := by
  unfold meetsL Qm.Meet
  rw [List.all_eq_true]
  constructor
  · intro h i hi
    have h1 := h _ ((q.mem_parts hr hk second _).2 ⟨i, hi, rfl⟩)
    exact (q.and_mask_ne second _ s).1 (by simpa using h1)
  · intro h x hx
    obtain ⟨i, hi, rfl⟩ := (q.mem_parts hr hk second x).1 hx
    have := (q.and_mask_ne second _ s).2 (h i hi)
    simpa using this

/-- Is it a quorum: node by node. -/
def Qm.IsQ (q : Qm) (second : Bool) (s : Nat) : Prop := (q.kind = 1 ∧ q.cnt second ≤ (bitsN q.n s : Int)) ∨ (q.kind ≠ 1 ∧ (q.kind = 3 ∧ second = false) ∧ q.Meet second s) ∨ (q.kind ≠ 1 ∧ ¬ (q.kind = 3 ∧ second = false) ∧ q.Whole second s)
theorem Qm.isQ_iff (q : Qm) (hr : q.right = 0) (second : Bool) (s : Nat) : q.isQ second s = true ↔ q.IsQ second s := by
  unfold Qm.isQ Qm.isQ' Qm.IsQ
  rw [if_pos hr]
  have hn : q.n ≤ 12 := by have := q.right_cases hr; unfold Qm.n; omega
  by_cases hk : q.kind = 1
  · rw [if_pos hk, ones_cut q hn s, decide_eq_true_iff]
    simp [hk]
  · rw [if_neg hk]
    by_cases h3 : q.kind = 3 ∧ second = false
    · rw [if_pos h3, q.meet_iff hr hk]
      simp [h3]
    · rw [if_neg h3, q.whole_iff hr hk]
      simp [hk, h3]
theorem Qm.isQ_bad (q : Qm) (hr : q.right ≠ 0) (second : Bool) (s : Nat) : q.isQ second s = false := by unfold Qm.isQ; rw [if_neg hr]

section
variable (q : Qm) (hr : q.right = 0)
include hr
/-- Of the nodes that there are all that play a part. -/
theorem Qm.isQ_mono (second : Bool) {s t : Nat} (h : ∀ i, i < q.n → s.testBit i = true → t.testBit i = true) (hs : q.isQ second s = true) : q.isQ second t = true := by
  rw [q.isQ_iff hr] at hs ⊢
  rcases hs with ⟨h1, h2⟩ | ⟨h1, h2, h3⟩ | ⟨h1, h2, h3⟩
  · have := bitsN_mono h
    exact .inl ⟨h1, by omega⟩
  · refine .inr (.inl ⟨h1, h2, fun i hi => ?_⟩)
    obtain ⟨k, hk, hp, he⟩ := h3 i hi
    exact ⟨k, hk, hp, h k hk he⟩
  · obtain ⟨i, hi, hw⟩ := h3
    exact .inr (.inr ⟨h1, h2, i, hi, fun k hk hp => h k hk (hw k hk hp)⟩)
theorem Qm.isQ_same (second : Bool) {s t : Nat} (h : ∀ i, i < q.n → s.testBit i = t.testBit i) : q.isQ second s = q.isQ second t := by
  rw [Bool.eq_iff_iff]
  exact ⟨q.isQ_mono hr second fun i hi e => by rw [← h i hi]; exact e, q.isQ_mono hr second fun i hi e => by rw [h i hi]; exact e⟩
theorem Qm.cnt_in (hk : q.kind = 1) (second : Bool) : 1 ≤ q.cnt second ∧ q.cnt second ≤ (q.n : Int) := by
  have := q.right_cases hr
  unfold Qm.cnt Qm.n
  cases second <;> simp <;> omega
theorem Qm.isQ_full (second : Bool) {s : Nat} (h : ∀ i, i < q.n → s.testBit i = true) : q.isQ second s = true := by
  have hn : 1 ≤ q.n := by have := q.right_cases hr; unfold Qm.n; omega
  rw [q.isQ_iff hr]
  by_cases hk : q.kind = 1
  · refine .inl ⟨hk, ?_⟩
    rw [bitsN_full h]
    exact (q.cnt_in hr hk second).2
  · by_cases h3 : q.kind = 3 ∧ second = false
    · exact .inr (.inl ⟨hk, h3, fun i hi => ⟨i, hi, rfl, h i hi⟩⟩)
    · exact .inr (.inr ⟨hk, h3, 0, by omega, fun k hk _ => h k hk⟩)
theorem Qm.isQ_none (second : Bool) {s : Nat} (h : ∀ i, i < q.n → s.testBit i = false) : q.isQ second s = false := by
  have hn : 1 ≤ q.n := by have := q.right_cases hr; unfold Qm.n; omega
  rw [Bool.eq_false_iff]
  intro hs
  rw [q.isQ_iff hr] at hs
  rcases hs with ⟨h1, h2⟩ | ⟨h1, h2, h3⟩ | ⟨h1, h2, h3⟩
  · rw [bitsN_none h] at h2
    have := q.cnt_in hr h1 second
    omega
  · obtain ⟨k, hk, _, he⟩ := h3 0 (by omega)
    rw [h k hk] at he
    cases he
  · obtain ⟨i, hi, hw⟩ := h3
    have := hw i hi rfl
    rw [h i hi] at this
    cases this
/-- Any quorum of the first phase and any of the second one have a node in common. -/
theorem Qm.meets {a b : Nat} (ha : q.isQ false a = true) (hb : q.isQ true b = true) : ∃ i, i < q.n ∧ a.testBit i = true ∧ b.testBit i = true := by
  obtain ⟨hn1, hn2, hcs⟩ := q.right_cases hr
  rw [q.isQ_iff hr] at ha hb
  apply Classical.byContradiction
  intro hno
  have hno : ∀ i, i < q.n → ¬ (a.testBit i = true ∧ b.testBit i = true) := fun i hi h => hno ⟨i, hi, h⟩
  by_cases hk : q.kind = 1
  · obtain ⟨_, h1⟩ | ⟨h, _⟩ | ⟨h, _⟩ := ha
    · obtain ⟨_, h2⟩ | ⟨h, _⟩ | ⟨h, _⟩ := hb
      · have h3 := bitsN_apart hno
        have h4 : q.cnt false = q.one := rfl
        have h5 : q.cnt true = q.two := rfl
        have h6 : q.n = q.nodes.toNat := rfl
        omega
      · exact h hk
      · exact h hk
    · exact h hk
    · exact h hk
  · obtain ⟨h, _⟩ | ⟨_, _, h⟩ | ⟨_, h3, h⟩ := hb
    · exact hk h
    · rename_i h3; exact absurd h3.2 (by decide)
    · obtain ⟨j, hj, hw⟩ := h
      obtain ⟨e, _⟩ | ⟨_, e3, hm⟩ | ⟨_, e3, hm⟩ := ha
      · exact hk e
      · obtain ⟨k, hk2, hp, he⟩ := hm j hj
        refine hno k hk2 ⟨he, hw k hk2 ?_⟩
        unfold Qm.part at hp ⊢
        simp only [if_pos e3.1] at hp ⊢
        exact hp
      · obtain ⟨i, hi, hw2⟩ := hm
        have hk2 : q.kind = 2 := by rcases hcs with ⟨h, _⟩ | ⟨h, _⟩ | ⟨h, _⟩ <;> first | omega | exact absurd ⟨h, rfl⟩ e3
        obtain ⟨h1, h2, h4, h5, h6⟩ : 1 ≤ q.one ∧ q.one ≤ q.nodes ∧ 1 ≤ q.two ∧ q.two ≤ q.nodes ∧ q.one * q.two = q.nodes := by
          rcases hcs with ⟨h, _⟩ | ⟨_, h⟩ | ⟨h, _⟩
          · omega
          · exact h
          · omega
        obtain ⟨o, ho⟩ := Int.eq_ofNat_of_zero_le (show 0 ≤ q.one by omega)
        obtain ⟨t, ht⟩ := Int.eq_ofNat_of_zero_le (show 0 ≤ q.two by omega)
        have hn : q.n = o * t := by unfold Qm.n; rw [← h6, ho, ht, show ((o : Int) * (t : Int)) = ((o * t : Nat) : Int) by simp, Int.toNat_natCast]
        have ht0 : 0 < t := by omega
        have hi2 : i / t < o := by rw [Nat.div_lt_iff_lt_mul ht0]; rw [← hn]; exact hi
        have hj2 : j % t < t := Nat.mod_lt _ ht0
        have hx : i / t * t + j % t < q.n := by
          rw [hn]
          have := Nat.mul_le_mul_right t (show i / t + 1 ≤ o by omega)
          rw [Nat.add_mul] at this
          omega
        refine hno _ hx ⟨hw2 _ hx ?_, hw _ hx ?_⟩
        · unfold Qm.part
          rw [if_neg (by omega), if_neg (by simp), ht, Int.toNat_natCast, Nat.mul_comm, Nat.mul_add_div ht0, Nat.div_eq_of_lt hj2, Nat.add_zero, if_neg (by omega), if_neg (by simp)]
        · unfold Qm.part
          rw [if_neg (by omega), if_pos rfl, ht, Int.toNat_natCast, Nat.mul_comm, Nat.mul_add_mod, Nat.mod_mod, if_neg (by omega), if_pos rfl]
end
end Go.Proofs.Ytjapmolmgfaocaa
