/- Layer 8, plain: systems of quorums, sets of nodes as numbers. No program is named here. -/
import Derived.Lib.BitFns
namespace Go.Proofs.Ythkkkldkpdkabaa

structure Qm where
  kind : Int
  nodes : Int
  one : Int
  two : Int
  sites : List Int
def Qm.isCount (q : Qm) (n : Int) : Bool := decide (1 ≤ n) && decide (n ≤ q.nodes)
def Qm.rightC (q : Qm) : Int := if !(q.isCount q.one) || !(q.isCount q.two) then 2 else if q.one + q.two ≤ q.nodes then 80 else 0
def Qm.rightR (q : Qm) : Int := if !(q.isCount q.one) || !(q.isCount q.two) then 2 else if q.one * q.two ≠ q.nodes then 2 else 0
def noSite (n : Int) : Bool := decide (n < 0) || decide (12 ≤ n)
def Qm.rightS (q : Qm) : Int := if (q.sites.length : Int) ≠ q.nodes then 2 else if q.sites.any noSite then 2 else 0
/-- May it be? -/
def Qm.right (q : Qm) : Int :=
  if q.nodes < 1 ∨ 12 < q.nodes then 2 else if q.kind = 1 then q.rightC else if q.kind = 2 then q.rightR else if q.kind = 3 then q.rightS else 2
def Qm.n (q : Qm) : Nat := q.nodes.toNat
def Qm.cnt (q : Qm) (second : Bool) : Int := if second then q.two else q.one
def Qm.all (q : Qm) : Nat := 2 ^ q.n - 1
/-- The row, column or site of a node. -/
def Qm.part (q : Qm) (second : Bool) (i : Nat) : Nat := if q.kind = 3 then (q.sites.getD i 0).toNat else if second then i % q.two.toNat else i / q.two.toNat
/-- Of the first k nodes those of the part p. -/
def Qm.mask (q : Qm) (second : Bool) : Nat → Nat → Nat
  | 0, _ => 0
  | k + 1, p => if q.part second k = p then q.mask second k p ||| 2 ^ k else q.mask second k p
def Qm.row (q : Qm) (second : Bool) (k : Nat) : List Nat := (List.range 12).map (q.mask second k)
def Qm.parts (q : Qm) (second : Bool) : List Nat := (q.row second q.n).filter fun x => !(decide (x = 0))
def meetsL (s : Nat) (l : List Nat) : Bool := l.all fun m => !(decide (s &&& m = 0))
def wholeL (s : Nat) (l : List Nat) : Bool := l.any fun m => decide (s &&& m = m)
def Qm.isQ' (q : Qm) (second : Bool) (s : Nat) : Bool :=
  if q.kind = 1 then decide (q.cnt second ≤ (Lib.onesCount (s &&& q.all) : Int)) else if q.kind = 3 ∧ second = false then meetsL s (q.parts second) else wholeL s (q.parts second)
def Qm.isQ (q : Qm) (second : Bool) (s : Nat) : Bool := if q.right = 0 then q.isQ' second s else false
def Qm.can (q : Qm) (s : Nat) : Bool := q.isQ false s && q.isQ true s
/-- The sets of so many nodes. -/
def Qm.ofCount (q : Qm) (m : Int) : List Nat := (List.range (q.all + 1)).filter fun s => decide ((Lib.onesCount s : Int) = m)
def Qm.reach (q : Qm) (more : Int) : Int :=
  if q.right ≠ 0 then q.right else if more < 0 then 2 else if (q.ofCount (min more q.nodes)).all (fun g => q.can (q.all &&& (4294967295 - g))) then 0 else 4

/-- What Right asks, taken apart. -/
theorem Qm.right_cases (q : Qm) (h : q.right = 0) : 1 ≤ q.nodes ∧ q.nodes ≤ 12 ∧
    ((q.kind = 1 ∧ 1 ≤ q.one ∧ q.one ≤ q.nodes ∧ 1 ≤ q.two ∧ q.two ≤ q.nodes ∧ q.nodes < q.one + q.two) ∨
     (q.kind = 2 ∧ 1 ≤ q.one ∧ q.one ≤ q.nodes ∧ 1 ≤ q.two ∧ q.two ≤ q.nodes ∧ q.one * q.two = q.nodes) ∨
     (q.kind = 3 ∧ (q.sites.length : Int) = q.nodes ∧ ∀ x ∈ q.sites, 0 ≤ x ∧ x < 12)) := by
  unfold Qm.right at h
  split at h
  · omega
  refine ⟨by omega, by omega, ?_⟩
  split at h
  · rename_i k
    refine .inl ⟨k, ?_⟩
    unfold Qm.rightC Qm.isCount at h
    split at h
    · omega
    split at h
    · omega
    rename_i h1 h2
    simp only [Bool.or_eq_true, Bool.not_eq_true', Bool.and_eq_false_iff, decide_eq_false_iff_not] at h1
    omega
  split at h
  · rename_i k
    refine .inr (.inl ⟨k, ?_⟩)
    unfold Qm.rightR Qm.isCount at h
    split at h
    · omega
    split at h
    · omega
    rename_i h1 h2
    simp only [Bool.or_eq_true, Bool.not_eq_true', Bool.and_eq_false_iff, decide_eq_false_iff_not] at h1
    exact ⟨by omega, by omega, by omega, by omega, by simpa using h2⟩
  split at h
  · rename_i k
    refine .inr (.inr ⟨k, ?_⟩)
    unfold Qm.rightS at h
    split at h
    · omega
    split at h
    · omega
    rename_i h1 h2
    refine ⟨by omega, fun x hx => ?_⟩
    have h3 : ¬ noSite x = true := fun e => h2 (List.any_eq_true.2 ⟨x, hx, e⟩)
    unfold noSite at h3
    simp only [Bool.or_eq_true, decide_eq_true_eq] at h3
    omega
  omega
theorem Qm.part_lt (q : Qm) (h : q.right = 0) (second : Bool) (i : Nat) (hi : i < q.n) : q.kind ≠ 1 → q.part second i < 12 := by
  intro hk
  have h3 : q.n ≤ 12 := by have := q.right_cases h; unfold Qm.n; omega
  have h8 : q.nodes ≤ 12 := (q.right_cases h).2.1
  rcases (q.right_cases h).2.2 with ⟨k, _⟩ | ⟨k, h1, h2, h4, h5, h6⟩ | ⟨k, h1, h2⟩
  · exact absurd k hk
  · unfold Qm.part
    rw [if_neg (by omega)]
    split
    · have h7 := Nat.mod_lt i (show 0 < q.two.toNat by omega)
      generalize i % q.two.toNat = r at h7 ⊢
      omega
    · have h7 := Nat.div_le_self i q.two.toNat
      generalize i / q.two.toNat = r at h7 ⊢
      omega
  · unfold Qm.part
    rw [if_pos k]
    unfold Qm.n at hi
    have hlt : i < q.sites.length := by omega
    have hm := h2 (q.sites[i]) (List.getElem_mem hlt)
    simp only [List.getD, List.getElem?_eq_getElem hlt, Option.getD_some]
    omega
section
variable (q : Qm) (second : Bool)
theorem Qm.mask_bit (k p j : Nat) : (q.mask second k p).testBit j = (decide (j < k) && decide (q.part second j = p)) := by
  induction k with
  | zero => simp [Qm.mask]
  | succ k ih =>
    unfold Qm.mask
    split
    · rename_i e
      rw [Nat.testBit_or, ih, Nat.testBit_two_pow]
      by_cases hj : k = j
      · subst hj; simp [e]
      · have : decide (j < k + 1) = decide (j < k) := by rw [Bool.eq_iff_iff]; simp; omega
        simp [hj, this]
    · rename_i e
      rw [ih]
      by_cases hj : j = k
      · subst hj; simp [e]
      · have : decide (j < k + 1) = decide (j < k) := by rw [Bool.eq_iff_iff]; simp; omega
        rw [this]
theorem Qm.mask_lt (k p : Nat) : q.mask second k p < 2 ^ k := by
  apply Nat.lt_pow_two_of_testBit
  intro j hj
  rw [q.mask_bit]
  simp
  omega
theorem Qm.mask_lt' (k p : Nat) (hk : k ≤ 12) : q.mask second k p < 4096 := Nat.lt_of_lt_of_le (q.mask_lt second k p) (Nat.pow_le_pow_right (by decide) hk : 2 ^ k ≤ 2 ^ 12)
theorem Qm.row_len (k : Nat) : (q.row second k).length = 12 := by simp [Qm.row]
theorem Qm.row_at (k p : Nat) (hp : p < 12) : (q.row second k)[p]? = some (q.mask second k p) := by simp [Qm.row, hp]
theorem Qm.row_lt (k : Nat) (hk : k ≤ 12) : ∀ x ∈ q.row second k, x < 4096 := by
  intro x hx
  obtain ⟨p, _, rfl⟩ := List.mem_map.1 hx
  exact q.mask_lt' second k p hk
theorem Qm.parts_lt (hn : q.n ≤ 12) : ∀ x ∈ q.parts second, x < 4096 ∧ x ≠ 0 := by
  intro x hx
  obtain ⟨h1, h2⟩ := List.mem_filter.1 hx
  exact ⟨q.row_lt second _ hn x h1, by simpa using h2⟩
theorem Qm.parts_len : (q.parts second).length ≤ 12 := by
  have := List.length_filter_le (fun x => !(decide (x = 0))) (q.row second q.n)
  rw [q.row_len] at this
  exact this
/-- One node more. -/
theorem Qm.row_next (k : Nat) : q.row second (k + 1) = (q.row second k).set (q.part second k) (q.mask second k (q.part second k) ||| 2 ^ k) := by
  apply List.ext_getElem?
  intro p
  by_cases hp : p < 12
  · rw [q.row_at second _ p hp, List.getElem?_set, q.row_len]
    by_cases e : q.part second k = p
    · rw [if_pos e, if_pos (by omega), ← e]
      conv => lhs; unfold Qm.mask
      rw [if_pos rfl]
    · rw [if_neg e, q.row_at second k p hp]
      conv => lhs; unfold Qm.mask
      rw [if_neg e]
  · rw [List.getElem?_eq_none (by rw [q.row_len]; omega), List.getElem?_eq_none (by rw [List.length_set, q.row_len]; omega)]
end
theorem Qm.all_lt (q : Qm) (h : q.n ≤ 12) : q.all < 4096 := by
  unfold Qm.all
  have : 2 ^ q.n ≤ 2 ^ 12 := Nat.pow_le_pow_right (by decide) h
  omega
end Go.Proofs.Ythkkkldkpdkabaa
