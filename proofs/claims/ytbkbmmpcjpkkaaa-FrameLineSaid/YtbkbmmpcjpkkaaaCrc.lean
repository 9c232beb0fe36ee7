/- Plain: the register of a frame's sum, bit by bit: it forgets nothing, and it is linear. -/
import Derived.Test.YtbkbmmpcjpkkaaaWords
namespace Go.Proofs.Ytbkbmmpcjpkkaaa

/-- One bit more. -/
def crcBit (r : Nat) (x : Bool) : Nat := if (r % 2 == 1) != x then (r / 2) ^^^ 3988292384 else r / 2
def crcBits (r : Nat) (bs : List Bool) : Nat := bs.foldl crcBit r
/-- A byte's bits, the lowest first. -/
def bitsB (b : UInt8) : List Bool := (List.range 8).map fun k => b.toNat.testBit k
def bitsOf (l : List UInt8) : List Bool := l.flatMap bitsB
def crcSum (l : List UInt8) : Nat := 4294967295 - crcBits 4294967295 (bitsOf l)

theorem bitsB_len (b : UInt8) : (bitsB b).length = 8 := by simp [bitsB]
theorem bitsOf_append (a b : List UInt8) : bitsOf (a ++ b) = bitsOf a ++ bitsOf b := by simp [bitsOf]
theorem bitsOf_len (l : List UInt8) : (bitsOf l).length = 8 * l.length := by
  induction l with
  | nil => rfl
  | cons x l ih => rw [show x :: l = [x] ++ l from rfl, bitsOf_append, List.length_append, ih, List.length_append]; simp [bitsOf, bitsB_len]; omega
theorem crcBits_append (r : Nat) (a b : List Bool) : crcBits r (a ++ b) = crcBits (crcBits r a) b := by simp [crcBits]

theorem xor_cancel {a b c : Nat} (h : a ^^^ c = b ^^^ c) : a = b := by
  have h1 := congrArg (· ^^^ c) h
  simp only [Nat.xor_assoc, Nat.xor_self, Nat.xor_zero] at h1
  exact h1
theorem xor_lt {a b k : Nat} (ha : a < 2 ^ k) (hb : b < 2 ^ k) : a ^^^ b < 2 ^ k := Nat.xor_lt_two_pow ha hb
theorem crcBit_lt (r : Nat) (x : Bool) (h : r < 2 ^ 32) : crcBit r x < 2 ^ 32 := by
  unfold crcBit
  split
  · exact xor_lt (by omega) (by decide)
  · omega
theorem crcBits_lt (bs : List Bool) : ∀ r, r < 2 ^ 32 → crcBits r bs < 2 ^ 32 := by
  induction bs with
  | nil => exact fun r h => h
  | cons x bs ih => exact fun r h => ih _ (crcBit_lt r x h)

theorem high (a : Nat) (h : a < 2 ^ 31) : 2 ^ 31 ≤ a ^^^ 3988292384 := by
  apply Nat.ge_two_pow_of_testBit
  rw [Nat.testBit_xor, Nat.testBit_lt_two_pow h]
  decide

/-- The register forgets nothing. -/
theorem crcBit_inj {r s : Nat} (x : Bool) (hr : r < 2 ^ 32) (hs : s < 2 ^ 32) (h : crcBit r x = crcBit s x) : r = s := by
  have h1 := high (r / 2) (by omega)
  have h2 := high (s / 2) (by omega)
  have h3 : r / 2 < 2 ^ 31 := by omega
  have h4 : s / 2 < 2 ^ 31 := by omega
  have e1 : ((r % 2 == 1) = true ↔ r % 2 = 1) := by simp
  have e2 : ((s % 2 == 1) = true ↔ s % 2 = 1) := by simp
  unfold crcBit at h
  split at h
  · rename_i c1
    split at h
    · rename_i c2
      have h5 : r / 2 = s / 2 := xor_cancel h
      have h6 : (r % 2 == 1) = (s % 2 == 1) := by revert c1 c2; cases (r % 2 == 1) <;> cases (s % 2 == 1) <;> cases x <;> simp
      rw [Bool.eq_iff_iff, e1, e2] at h6
      omega
    · omega
  · rename_i c1
    split at h
    · omega
    · rename_i c2
      have h6 : (r % 2 == 1) = (s % 2 == 1) := by revert c1 c2; cases (r % 2 == 1) <;> cases (s % 2 == 1) <;> cases x <;> simp
      rw [Bool.eq_iff_iff, e1, e2] at h6
      omega
theorem crcBit_ne (r : Nat) (x y : Bool) (hr : r < 2 ^ 32) (h : x ≠ y) : crcBit r x ≠ crcBit r y := by
  have h1 := high (r / 2) (by omega)
  have h3 : r / 2 < 2 ^ 31 := by omega
  unfold crcBit
  cases hb : (r % 2 == 1) <;> cases x <;> cases y <;> simp_all <;> omega
theorem crcBits_inj (bs : List Bool) : ∀ {r s : Nat}, r < 2 ^ 32 → s < 2 ^ 32 → crcBits r bs = crcBits s bs → r = s := by
  induction bs with
  | nil => exact fun _ _ h => h
  | cons x bs ih => exact fun hr hs h => crcBit_inj x hr hs (ih (crcBit_lt _ x hr) (crcBit_lt _ x hs) h)
/-- One bit that was turned is told. -/
theorem crcBits_turned (r : Nat) (p q : List Bool) (x y : Bool) (hr : r < 2 ^ 32) (h : x ≠ y) : crcBits r (p ++ x :: q) ≠ crcBits r (p ++ y :: q) := by
  intro e
  rw [crcBits_append, crcBits_append] at e
  have hp := crcBits_lt p r hr
  exact crcBit_ne _ x y hp h (crcBits_inj q (crcBit_lt _ x hp) (crcBit_lt _ y hp) e)

/-- Linear. -/
theorem crcBit_xor (r s : Nat) (x y : Bool) : crcBit (r ^^^ s) (x ^^ y) = crcBit r x ^^^ crcBit s y := by
  have hd : (r ^^^ s) / 2 = (r / 2) ^^^ (s / 2) := Nat.xor_div_two
  have hm : ((r ^^^ s) % 2 == 1) = ((r % 2 == 1) ^^ (s % 2 == 1)) := by
    have h1 : ∀ z : Nat, (z % 2 == 1) = z.testBit 0 := fun z => by simp [Nat.testBit_zero]; rcases Nat.mod_two_eq_zero_or_one z with h | h <;> simp [h]
    rw [h1, h1, h1, Nat.testBit_xor]
  unfold crcBit
  rw [hd, hm]
  have c1 : ∀ a b c : Nat, (a ^^^ b) ^^^ c = (a ^^^ c) ^^^ b := fun a b c => by rw [Nat.xor_assoc, Nat.xor_comm b c, ← Nat.xor_assoc]
  have c2 : ∀ a b c : Nat, (a ^^^ c) ^^^ (b ^^^ c) = a ^^^ b := fun a b c => by rw [← Nat.xor_assoc, c1 a c b, Nat.xor_assoc (a ^^^ b), Nat.xor_self, Nat.xor_zero]
  cases (r % 2 == 1) <;> cases (s % 2 == 1) <;> cases x <;> cases y <;> simp [c1, c2, Nat.xor_assoc]
theorem crcBits_xor : ∀ (as bs : List Bool) (r s : Nat), as.length = bs.length → crcBits (r ^^^ s) (List.zipWith (· ^^ ·) as bs) = crcBits r as ^^^ crcBits s bs := by
  intro as
  induction as with
  | nil => intro bs r s h; cases bs with
    | nil => rfl
    | cons _ _ => simp at h
  | cons x as ih => intro bs r s h; cases bs with
    | nil => simp at h
    | cons y bs =>
      show crcBits (crcBit (r ^^^ s) (x ^^ y)) (List.zipWith (· ^^ ·) as bs) = crcBits (crcBit r x) as ^^^ crcBits (crcBit s y) bs
      rw [crcBit_xor]
      exact ih bs _ _ (by simpa using h)

theorem compl_xor (r : Nat) (h : r < 2 ^ 32) : 4294967295 - r = r ^^^ 4294967295 := by
  apply Nat.eq_of_testBit_eq
  intro i
  have h1 : 4294967295 - r = 2 ^ 32 - (r + 1) := by omega
  rw [h1, Nat.testBit_two_pow_sub_succ h, Nat.testBit_xor]
  have h2 : (4294967295 : Nat) = 2 ^ 32 - 1 := by decide
  rw [h2, Nat.testBit_two_pow_sub_one]
  by_cases hi : i < 32
  · simp [hi]
  · have : r.testBit i = false := Nat.testBit_lt_two_pow (Nat.lt_of_lt_of_le h (Nat.pow_le_pow_right (by decide) (by omega)))
    simp [hi, this]
theorem crcSum_lt (l : List UInt8) : crcSum l < 4294967296 := by unfold crcSum; omega
theorem crcSum_xor (l : List UInt8) : crcSum l = crcBits 4294967295 (bitsOf l) ^^^ 4294967295 := compl_xor _ (crcBits_lt _ _ (by decide))

theorem bitsB_xor (x y : UInt8) : bitsB (x ^^^ y) = List.zipWith (· ^^ ·) (bitsB x) (bitsB y) := by
  simp only [bitsB, List.zipWith_map, List.zipWith_self, UInt8.toNat_xor, Nat.testBit_xor]
theorem bitsOf_cons (x : UInt8) (l : List UInt8) : bitsOf (x :: l) = bitsB x ++ bitsOf l := rfl
theorem bitsOf_xor : ∀ (a b : List UInt8), a.length = b.length → bitsOf (List.zipWith (· ^^^ ·) a b) = List.zipWith (· ^^ ·) (bitsOf a) (bitsOf b) := by
  intro a
  induction a with
  | nil => intro b h; cases b with
    | nil => rfl
    | cons _ _ => simp at h
  | cons x a ih => intro b h; cases b with
    | nil => simp at h
    | cons y b =>
      rw [List.zipWith_cons_cons, bitsOf_cons, bitsOf_cons, bitsOf_cons, List.zipWith_append (by rw [bitsB_len, bitsB_len]), ih b (by simpa using h), bitsB_xor]
theorem bitsOf_zero (n : Nat) : bitsOf (List.replicate n 0) = List.replicate (8 * n) false := by
  induction n with
  | zero => rfl
  | succ n ih =>
    rw [List.replicate_succ, bitsOf_cons, ih, show bitsB 0 = List.replicate 8 false by decide, List.replicate_append_replicate]
    congr 1
    omega
/-- The sums of two texts of one length, and that of noughts, tell that of the texts turned by each other. -/
theorem crcSum_line (a b : List UInt8) (h : a.length = b.length) : crcSum a ^^^ crcSum b ^^^ crcSum (List.replicate a.length 0) = crcSum (List.zipWith (· ^^^ ·) a b) := by
  rw [crcSum_xor, crcSum_xor, crcSum_xor, crcSum_xor, bitsOf_xor a b h, bitsOf_zero]
  have hab : (bitsOf a).length = (bitsOf b).length := by rw [bitsOf_len, bitsOf_len, h]
  have h1 := crcBits_xor (bitsOf a) (bitsOf b) 4294967295 4294967295 hab
  rw [Nat.xor_self] at h1
  have h2 := crcBits_xor (List.zipWith (· ^^ ·) (bitsOf a) (bitsOf b)) (List.replicate (8 * a.length) false) 0 4294967295 (by rw [List.length_zipWith, List.length_replicate, bitsOf_len, bitsOf_len, h]; omega)
  have h3 : List.zipWith (· ^^ ·) (List.zipWith (· ^^ ·) (bitsOf a) (bitsOf b)) (List.replicate (8 * a.length) false) = List.zipWith (· ^^ ·) (bitsOf a) (bitsOf b) := by
    apply List.ext_getElem
    · rw [List.length_zipWith, List.length_replicate, List.length_zipWith, bitsOf_len, bitsOf_len, h]; omega
    · intro i h1 h2
      simp
  rw [h3, Nat.zero_xor] at h2
  rw [h2, h1]
  generalize crcBits 4294967295 (bitsOf a) = x
  generalize crcBits 4294967295 (bitsOf b) = y
  generalize crcBits 4294967295 (List.replicate (8 * a.length) false) = z
  apply Nat.eq_of_testBit_eq
  intro i
  simp only [Nat.testBit_xor]
  cases x.testBit i <;> cases y.testBit i <;> cases z.testBit i <;> cases Nat.testBit 4294967295 i <;> rfl

/-- One bit of one byte that was turned is told by the sum. -/
theorem crcSum_turned (p q : List UInt8) (x : UInt8) (k : Nat) (hk : k < 8) : crcSum (p ++ (x ^^^ (1 <<< UInt8.ofNat k)) :: q) ≠ crcSum (p ++ x :: q) := by
  have hy : bitsB (x ^^^ (1 <<< UInt8.ofNat k)) = (bitsB x).set k (!(x.toNat.testBit k)) := by
    revert x
    have : ∀ k : Fin 8, ∀ x : Fin 256, bitsB (UInt8.ofNat x.val ^^^ (1 <<< UInt8.ofNat k.val)) = (bitsB (UInt8.ofNat x.val)).set k.val (!((UInt8.ofNat x.val).toNat.testBit k.val)) := by decide +kernel
    intro x
    have h := this ⟨k, hk⟩ ⟨x.toNat, x.toNat_lt⟩
    simpa using h
  intro e
  have e : crcBits 4294967295 (bitsOf (p ++ (x ^^^ (1 <<< UInt8.ofNat k)) :: q)) = crcBits 4294967295 (bitsOf (p ++ x :: q)) := by
    have h1 := crcBits_lt (bitsOf (p ++ (x ^^^ (1 <<< UInt8.ofNat k)) :: q)) 4294967295 (by decide)
    have h2 := crcBits_lt (bitsOf (p ++ x :: q)) 4294967295 (by decide)
    unfold crcSum at e
    omega
  rw [bitsOf_append, bitsOf_append, bitsOf_cons, bitsOf_cons, hy] at e
  have hlen : k < (bitsB x).length := by rw [bitsB_len]; exact hk
  have hx : bitsB x = (bitsB x).take k ++ (x.toNat.testBit k) :: (bitsB x).drop (k + 1) := by
    have h1 : (bitsB x)[k] = x.toNat.testBit k := by simp [bitsB]
    rw [← h1, ← List.drop_eq_getElem_cons hlen, List.take_append_drop]
  have hs : (bitsB x).set k (!(x.toNat.testBit k)) = (bitsB x).take k ++ (!(x.toNat.testBit k)) :: (bitsB x).drop (k + 1) := List.set_eq_take_append_cons_drop .. |>.trans (by rw [if_pos hlen])
  obtain ⟨u, v, hx2, hs2⟩ : ∃ u v, bitsB x = u ++ (x.toNat.testBit k) :: v ∧ (bitsB x).set k (!(x.toNat.testBit k)) = u ++ (!(x.toNat.testBit k)) :: v := ⟨_, _, hx, hs⟩
  rw [hs2, hx2] at e
  have h := crcBits_turned 4294967295 (bitsOf p ++ u) (v ++ bitsOf q) (!(x.toNat.testBit k)) (x.toNat.testBit k) (by decide) (by cases x.toNat.testBit k <;> decide)
  simp only [List.append_assoc, List.cons_append] at e h
  exact h e
end Go.Proofs.Ytbkbmmpcjpkkaaa
