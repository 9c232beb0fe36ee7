/- Plain mathematics of layer 5: a batch, its bytes, there and back. No program is named here. -/
import Derived.Test.YtgippbbbfpkhhaaReaderB
import Derived.Test.YtgippbbbfpkhhaaTexts
namespace Go.Proofs.Ytgippbbbfpkhhaa

structure Chg where
  key : List UInt8
  val : List UInt8
  gone : Bool

def okC (c : Chg) : Bool := decide (1 ≤ c.key.length) && (decide (c.key.length ≤ 16) && (if c.gone then decide (c.val.length = 0) else decide (c.val.length ≤ 128)))
def rightL (l : List Chg) : Bool := decide (l.length ≤ 32) && l.all okC
def encC (c : Chg) : List UInt8 := putB c.key ++ (if c.gone then [1] else 0 :: putB c.val)
def bodyL (l : List Chg) : List UInt8 := l.flatMap encC
def encL (l : List Chg) : List UInt8 := Lib.uvarint l.length ++ bodyL l
def encodeS (l : List Chg) : List UInt8 × Int := if rightL l = false then ([], 2) else if 1024 < (encL l).length then ([], 3) else (encL l, 0)

theorem encodeS_ok {l : List Chg} {b : List UInt8} (h : encodeS l = (b, 0)) : rightL l = true ∧ (encL l).length ≤ 1024 ∧ b = encL l := by
  unfold encodeS at h
  split at h
  · simp at h
  rename_i h1
  split at h
  · simp at h
  rename_i h2
  simp only [Prod.mk.injEq, and_true] at h
  exact ⟨by simpa using h1, by omega, h.symm⟩
theorem encodeS_of {l : List Chg} (h1 : rightL l = true) (h2 : (encL l).length ≤ 1024) : encodeS l = (encL l, 0) := by
  unfold encodeS
  rw [if_neg (by simp [h1]), if_neg (by omega)]
theorem encodeS_len (l : List Chg) : (encodeS l).1.length ≤ 1024 := by
  unfold encodeS
  split
  · simp
  split
  · simp
  · simp only; omega

theorem uvarint_pos (n : Nat) : 1 ≤ (Lib.uvarint n).length := by
  by_cases h : n < 128
  · rw [Lib.uvarint_small h]; simp
  · rw [Lib.uvarint_big (by omega)]; simp

theorem uvarint_zero : Lib.uvarint 0 = [0] := by rw [Lib.uvarint_small (by decide)]; rfl
theorem uvarint_one : Lib.uvarint 1 = [1] := by rw [Lib.uvarint_small (by decide)]; rfl
theorem nextU_put (n : Nat) (rest : List UInt8) (hn : n < 18446744073709551616) : nextU (Lib.uvarint n ++ rest) 0 = (n, rest, 0) := by
  have h1 := uintAt_in (Lib.uvarint n ++ rest) 0 (by omega)
  rw [List.drop_zero, uu0_back n rest hn] at h1
  have h2 : uintAt (Lib.uvarint n ++ rest) 0 = ((n : Int), ((Lib.uvarint n).length : Int), 0) := by
    have h3 : uintAt (Lib.uvarint n ++ rest) 0 = ans 0 (.ok (n, (Lib.uvarint n).length)) := h1
    rw [h3]; simp [ans]
  unfold nextU
  rw [h2]
  simp
theorem nextU_err (rem : List UInt8) (err : Nat) (h : err ≠ 0) : nextU rem err = (0, rem, err) := by unfold nextU; rw [if_pos h]
theorem nextB_err (rem : List UInt8) (err : Nat) (most : Int) (h : err ≠ 0) : nextB rem err most = ([], rem, err) := by unfold nextB; rw [if_pos h]
theorem uintAt_cases (l : List UInt8) : (∃ v k : Nat, uu 0 l = .ok (v, k) ∧ uintAt l 0 = ((v : Int), (k : Int), 0)) ∨ ∃ e : Nat, uu 0 l = .error e ∧ uintAt l 0 = (0, 0, (e : Int)) := by
  have h1 : uintAt l 0 = ans 0 (uu 0 (l.drop 0)) := uintAt_in l 0 (by omega)
  rw [List.drop_zero] at h1
  rw [h1]
  cases h : uu 0 l with
  | ok x => obtain ⟨v, k⟩ := x; exact .inl ⟨v, k, rfl, by simp [ans]⟩
  | error e => exact .inr ⟨e, rfl, by simp [ans]⟩
theorem uu_err_pos {i : Nat} {l : List UInt8} {e : Nat} (h : uu i l = .error e) : 1 ≤ e := by
  induction l generalizing i e with
  | nil => unfold uu at h; injection h with h; omega
  | cons c r ih =>
    unfold uu at h
    split at h
    · injection h with h; omega
    split at h
    · cases h
    split at h
    · cases h
    · rename_i h2
      injection h with h
      subst h
      exact ih h2
theorem nextU_inv {rem r : List UInt8} {v : Nat} (h : nextU rem 0 = (v, r, 0)) : rem = Lib.uvarint v ++ r ∧ v < 18446744073709551616 := by
  unfold nextU at h
  rw [if_neg (by simp)] at h
  rcases uintAt_cases rem with ⟨v', k, h1, h2⟩ | ⟨e, h1, h2⟩
  · rw [h2] at h
    simp only [ne_eq, not_true_eq_false, if_false, Int.toNat_natCast, Prod.mk.injEq, and_true] at h
    obtain ⟨rfl, rfl⟩ := h
    have hp := (uu_put h1).1
    exact ⟨by rw [hp, List.take_append_drop], uu0_lt h1⟩
  · have he := uu_err_pos h1
    rw [h2] at h
    rw [if_pos (by simp only [ne_eq]; omega)] at h
    simp only [Int.toNat_natCast, Prod.mk.injEq] at h
    omega
theorem nextU_lt (rem : List UInt8) : (nextU rem 0).1 < 18446744073709551616 := by
  unfold nextU
  rw [if_neg (by simp)]
  rcases uintAt_cases rem with ⟨v', k, h1, h2⟩ | ⟨e, h1, h2⟩
  · rw [h2]; simpa using uu0_lt h1
  · have he := uu_err_pos h1
    rw [h2, if_pos (by simp only [ne_eq]; omega)]; simp
theorem putB_len (t : List UInt8) : (putB t).length = (Lib.uvarint t.length).length + t.length := by unfold putB; simp
theorem txtAt_put {l : List UInt8} {p : Nat} {t rest : List UInt8} {most : Int} (hp : p ≤ l.length) (h : l.drop p = putB t ++ rest) (hm : (t.length : Int) ≤ most) (ht : t.length < 18446744073709551616) :
    txtAt l p most = (t, ((p + (putB t).length : Nat) : Int), 0) := by
  have h1 : uintAt l (p : Int) = ans p (uu 0 (l.drop p)) := uintAt_in l p hp
  rw [h] at h1
  unfold putB at h1
  rw [List.append_assoc, uu0_back _ _ ht] at h1
  have h1 : uintAt l (p : Int) = ((t.length : Int), (p : Int) + ((Lib.uvarint t.length).length : Int), 0) := h1
  have hlen : l.length = p + ((putB t).length + rest.length) := by
    have := congrArg List.length h
    rw [List.length_drop, List.length_append] at this
    omega
  have hpl := putB_len t
  unfold txtAt
  rw [h1]
  simp only [ne_eq, not_true_eq_false, if_false]
  rw [if_neg (by omega), if_neg (by omega)]
  have e2 : ((p : Int) + ((Lib.uvarint t.length).length : Int)).toNat = p + (Lib.uvarint t.length).length := by omega
  rw [e2, ← List.drop_drop, h, Int.toNat_natCast]
  unfold putB
  rw [List.append_assoc, List.drop_left, List.take_left]
  have e3 : ((p : Int) + ((Lib.uvarint t.length).length : Int) + (t.length : Int)) = ((p + (Lib.uvarint t.length ++ t).length : Nat) : Int) := by simp; omega
  rw [e3]
theorem txtAt_inv {l : List UInt8} {t : List UInt8} {k most : Int} (h : txtAt l 0 most = (t, k, 0)) : ∃ r, l = putB t ++ r ∧ k = ((putB t).length : Nat) ∧ (t.length : Int) ≤ max most 0 := by
  unfold txtAt at h
  rcases uintAt_cases l with ⟨v, m, h1, h2⟩ | ⟨e, h1, h2⟩
  · rw [h2] at h
    simp only [ne_eq, not_true_eq_false, if_false] at h
    split at h
    · simp at h
    rename_i h3
    split at h
    · simp at h
    rename_i h4
    simp only [Prod.mk.injEq, and_true, Int.toNat_natCast] at h
    obtain ⟨rfl, rfl⟩ := h
    have hp := (uu_put h1).1
    have hk := uu_pos h1
    have htl : ((l.drop m).take v).length = v := by rw [List.length_take, List.length_drop]; omega
    refine ⟨(l.drop m).drop v, ?_, ?_, by rw [htl]; omega⟩
    · unfold putB
      rw [htl, hp, List.append_assoc, List.take_append_drop, List.take_append_drop]
    · rw [putB_len, htl, hp, List.length_take]; omega
  · have he := uu_err_pos h1
    rw [h2, if_pos (by simp only [ne_eq]; omega)] at h
    simp only [Prod.mk.injEq] at h
    omega
theorem nextB_put (t rest : List UInt8) (most : Int) (hm : (t.length : Int) ≤ most) (ht : t.length < 18446744073709551616) : nextB (putB t ++ rest) 0 most = (t, rest, 0) := by
  have h : txtAt (putB t ++ rest) 0 most = (t, ((0 + (putB t).length : Nat) : Int), 0) := txtAt_put (p := 0) (by omega) (by rw [List.drop_zero]) hm ht
  unfold nextB
  rw [h]
  simp
theorem txtAt_err (l : List UInt8) (most : Int) (h : (txtAt l 0 most).2.2 ≠ 0) : 1 ≤ (txtAt l 0 most).2.2.toNat := by
  unfold txtAt at h ⊢
  rcases uintAt_cases l with ⟨v, m, h1, h2⟩ | ⟨e, h1, h2⟩
  · rw [h2] at h ⊢
    simp only [ne_eq, not_true_eq_false, if_false] at h ⊢
    split
    · decide
    · split
      · decide
      · rename_i h3 h4; rw [if_neg h3, if_neg h4] at h; exact absurd rfl h
  · have he := uu_err_pos h1
    rw [h2, if_pos (by simp only [ne_eq]; omega)]
    simp only [Int.toNat_natCast]; omega
theorem nextB_inv {rem r t : List UInt8} {most : Int} (h : nextB rem 0 most = (t, r, 0)) : rem = putB t ++ r ∧ (t.length : Int) ≤ max most 0 := by
  unfold nextB at h
  rw [if_neg (by simp)] at h
  by_cases h1 : (txtAt rem 0 most).2.2 = 0
  · rw [if_neg (by simp [h1])] at h
    simp only [Prod.mk.injEq, and_true] at h
    obtain ⟨h2, h3⟩ := h
    obtain ⟨r', e1, e2, e3⟩ := txtAt_inv (l := rem) (t := t) (k := (txtAt rem 0 most).2.1) (most := most) (by rw [← h2]; exact Prod.ext rfl (Prod.ext rfl h1))
    refine ⟨?_, e3⟩
    rw [← h3, e2, Int.toNat_natCast]
    conv => rhs; rw [e1]
    rw [List.drop_left]; exact e1
  · have he := txtAt_err rem most h1
    rw [if_pos h1] at h
    simp only [Prod.mk.injEq] at h
    omega
theorem nextB_len (rem : List UInt8) (err : Nat) (most : Int) (hm : 0 ≤ most) : ((nextB rem err most).1.length : Int) ≤ most := by
  by_cases he : err = 0
  · subst he
    rcases h : nextB rem 0 most with ⟨t, r, e⟩
    by_cases e0 : e = 0
    · subst e0
      have := (nextB_inv h).2
      simp only; omega
    · unfold nextB at h
      rw [if_neg (by simp)] at h
      split at h
      · simp only [Prod.mk.injEq] at h; obtain ⟨rfl, _⟩ := h; simpa using hm
      · simp only [Prod.mk.injEq] at h; exact absurd h.2.2.symm e0
  · rw [nextB_err _ _ _ he]; simpa using hm

/-- A change, as a Reader tells it. -/
def decC (rem : List UInt8) (err : Nat) : Chg × List UInt8 × Nat :=
  if (nextU (nextB rem err 16).2.1 (nextB rem err 16).2.2).1 = 0 then
    (⟨(nextB rem err 16).1, (nextB (nextU (nextB rem err 16).2.1 (nextB rem err 16).2.2).2.1 (nextU (nextB rem err 16).2.1 (nextB rem err 16).2.2).2.2 128).1, false⟩,
      (nextB (nextU (nextB rem err 16).2.1 (nextB rem err 16).2.2).2.1 (nextU (nextB rem err 16).2.1 (nextB rem err 16).2.2).2.2 128).2)
  else if (nextU (nextB rem err 16).2.1 (nextB rem err 16).2.2).1 = 1 then (⟨(nextB rem err 16).1, [], true⟩, (nextU (nextB rem err 16).2.1 (nextB rem err 16).2.2).2)
  else (⟨[], [], false⟩, (nextU (nextB rem err 16).2.1 (nextB rem err 16).2.2).2)

theorem decC_fwd (c : Chg) (rest : List UInt8) (h : okC c = true) : decC (encC c ++ rest) 0 = (c, rest, 0) := by
  unfold okC at h
  simp only [Bool.and_eq_true, decide_eq_true_eq] at h
  obtain ⟨h1, h2, h3⟩ := h
  unfold decC encC
  rw [List.append_assoc, nextB_put _ _ _ (by omega) (by omega)]
  cases hg : c.gone with
  | true =>
    rw [hg, if_pos rfl] at h3
    have hv : c.val = [] := List.eq_nil_of_length_eq_zero (by simpa using h3)
    have : nextU ([1] ++ rest) 0 = (1, rest, 0) := by rw [← uvarint_one]; exact nextU_put 1 rest (by decide)
    simp only [if_true, this]
    obtain ⟨k, v, g⟩ := c
    subst hg hv
    rfl
  | false =>
    rw [hg] at h3
    simp only [Bool.false_eq_true, if_false, decide_eq_true_eq] at h3
    have : nextU (0 :: putB c.val ++ rest) 0 = (0, putB c.val ++ rest, 0) := by
      have h0 := nextU_put 0 (putB c.val ++ rest) (by decide)
      rw [uvarint_zero] at h0; exact h0
    simp only [Bool.false_eq_true, if_false, this]
    rw [nextB_put _ _ _ (by omega) (by omega)]
    obtain ⟨k, v, g⟩ := c
    subst hg
    rfl
theorem decC_err (rem : List UInt8) (err : Nat) (h : err ≠ 0) : (decC rem err).2.2 = err := by
  unfold decC
  rw [nextB_err _ _ _ h, nextU_err _ _ h]
  simp only [if_true]
  rw [nextB_err _ _ _ h]
theorem decC_inv {rem r : List UInt8} {c : Chg} (h : decC rem 0 = (c, r, 0)) (hc : okC c = true) : rem = encC c ++ r := by
  rcases hk : nextB rem 0 16 with ⟨k, r1, e1⟩
  rcases ht : nextU r1 e1 with ⟨t, r2, e2⟩
  unfold decC at h
  simp only [hk, ht] at h
  have h0 : ∀ {x y : Nat}, x = y → x ≠ y → False := fun a b => b a
  by_cases he1 : e1 = 0
  · subst he1
    obtain ⟨rfl, hk2⟩ := nextB_inv hk
    by_cases t0 : t = 0
    · subst t0
      rw [if_pos rfl] at h
      rcases hv : nextB r2 e2 128 with ⟨v, r3, e3⟩
      rw [hv] at h
      simp only [Prod.mk.injEq] at h
      obtain ⟨rfl, rfl, rfl⟩ := h
      by_cases he2 : e2 = 0
      · subst he2
        obtain ⟨rfl, _⟩ := nextU_inv ht
        obtain ⟨rfl, _⟩ := nextB_inv hv
        unfold encC
        have := uvarint_zero
        rw [this]
        simp
      · rw [nextB_err _ _ _ he2] at hv
        simp only [Prod.mk.injEq] at hv
        exact absurd hv.2.2 he2
    · rw [if_neg t0] at h
      by_cases t1 : t = 1
      · subst t1
        rw [if_pos rfl] at h
        simp only [Prod.mk.injEq] at h
        obtain ⟨rfl, rfl, rfl⟩ := h
        obtain ⟨rfl, _⟩ := nextU_inv ht
        unfold encC
        have := uvarint_one
        rw [this]
        simp
      · rw [if_neg t1] at h
        simp only [Prod.mk.injEq] at h
        obtain ⟨rfl, _⟩ := h
        simp [okC] at hc
  · rw [nextU_err _ _ he1] at ht
    simp only [Prod.mk.injEq] at ht
    obtain ⟨rfl, rfl, rfl⟩ := ht
    rw [if_pos rfl, nextB_err _ _ _ he1] at h
    simp only [Prod.mk.injEq] at h
    exact absurd h.2.2 he1

/-- What a Reader tells of the next k changes. -/
def decN (rem : List UInt8) (err : Nat) : Nat → List Chg × List UInt8 × Nat
  | 0 => ([], rem, err)
  | k + 1 => ((decN rem err k).1 ++ [(decC (decN rem err k).2.1 (decN rem err k).2.2).1], (decC (decN rem err k).2.1 (decN rem err k).2.2).2)
theorem decN_len (rem : List UInt8) (err : Nat) : ∀ k, (decN rem err k).1.length = k
  | 0 => rfl
  | k + 1 => by unfold decN; simp [decN_len rem err k]
theorem bodyL_cons (c : Chg) (l : List Chg) : bodyL (c :: l) = encC c ++ bodyL l := by simp [bodyL]
theorem bodyL_app (a b : List Chg) : bodyL (a ++ b) = bodyL a ++ bodyL b := by simp [bodyL]
theorem drop_cons_at {α : Type} {l : List α} {k : Nat} (h : k < l.length) : l.drop k = l[k] :: l.drop (k + 1) := List.drop_eq_getElem_cons h
theorem decN_fwd (l : List Chg) (rest : List UInt8) (h : l.all okC = true) : ∀ k, k ≤ l.length → decN (bodyL l ++ rest) 0 k = (l.take k, bodyL (l.drop k) ++ rest, 0)
  | 0, _ => by simp [decN]
  | k + 1, hk => by
    have ih := decN_fwd l rest h k (by omega)
    unfold decN
    rw [ih]
    simp only
    have hok : okC l[k] = true := List.all_eq_true.1 h _ (List.getElem_mem _)
    rw [drop_cons_at (show k < l.length by omega), bodyL_cons, List.append_assoc, decC_fwd _ _ hok]
    simp only [Prod.mk.injEq, and_true]
    rw [List.take_succ_eq_append_getElem (show k < l.length by omega)]
theorem decN_inv (rem : List UInt8) (err : Nat) : ∀ k, (decN rem err k).2.2 = 0 → (decN rem err k).1.all okC = true → err = 0 ∧ rem = bodyL (decN rem err k).1 ++ (decN rem err k).2.1
  | 0, h, _ => ⟨h, by simp [decN, bodyL]⟩
  | k + 1, h, ha => by
    rcases hd : decN rem err k with ⟨l, r, e⟩
    have h2 := h; have ha2 := ha
    unfold decN at h2 ha2 ⊢
    rw [hd] at h2 ha2 ⊢
    simp only at h2 ha2 ⊢
    obtain ⟨⟨c, r2, e2⟩, hc⟩ : ∃ x, decC r e = x := ⟨_, rfl⟩
    rw [hc] at h2 ha2 ⊢
    simp only [List.all_append, List.all_cons, List.all_nil, Bool.and_true, Bool.and_eq_true] at h2 ha2 ⊢
    subst h2
    by_cases he : e = 0
    · subst he
      have ih := decN_inv rem err k (by rw [hd]) (by rw [hd]; exact ha2.1)
      rw [hd] at ih
      refine ⟨ih.1, ?_⟩
      rw [ih.2]
      have hcc := decC_inv hc ha2.2
      simp only [bodyL_app, bodyL_cons, List.append_assoc]
      rw [hcc]
      simp [bodyL]
    · have := decC_err r e he
      rw [hc] at this
      exact absurd this.symm he

def decodeS (b : List UInt8) : List Chg × Int :=
  if 1024 < b.length then ([], 50)
  else if 32 < (nextU b 0).1 then ([], 50)
  else if (decN (nextU b 0).2.1 (nextU b 0).2.2 (nextU b 0).1).2.2 ≠ 0 ∨ 0 < (decN (nextU b 0).2.1 (nextU b 0).2.2 (nextU b 0).1).2.1.length ∨ rightL (decN (nextU b 0).2.1 (nextU b 0).2.2 (nextU b 0).1).1 = false then ([], 50)
  else ((decN (nextU b 0).2.1 (nextU b 0).2.2 (nextU b 0).1).1, 0)

theorem decode_of {b : List UInt8} {l : List Chg} (h : encodeS l = (b, 0)) : decodeS b = (l, 0) := by
  obtain ⟨h1, h2, rfl⟩ := encodeS_ok h
  have hr := h1
  unfold rightL at h1
  simp only [Bool.and_eq_true, decide_eq_true_eq] at h1
  unfold decodeS
  rw [if_neg (by omega)]
  have hn : nextU (encL l) 0 = (l.length, bodyL l, 0) := nextU_put _ _ (by omega)
  rw [hn]
  simp only
  rw [if_neg (by omega)]
  have hd := decN_fwd l [] h1.2 l.length (Nat.le_refl _)
  rw [List.append_nil] at hd
  rw [hd]
  simp only [List.drop_length, List.take_length]
  rw [if_neg (by simp [bodyL, hr])]
theorem encode_of {b : List UInt8} {l : List Chg} (h : decodeS b = (l, 0)) : encodeS l = (b, 0) := by
  unfold decodeS at h
  split at h
  · simp at h
  rename_i h1
  split at h
  · simp at h
  rename_i h2
  split at h
  · simp at h
  rename_i h3
  simp only [Prod.mk.injEq, and_true] at h
  have hr : rightL (decN (nextU b 0).2.1 (nextU b 0).2.2 (nextU b 0).1).1 = true := by
    cases hx : rightL (decN (nextU b 0).2.1 (nextU b 0).2.2 (nextU b 0).1).1 with
    | true => rfl
    | false => exact absurd (.inr (.inr hx)) h3
  have he : (decN (nextU b 0).2.1 (nextU b 0).2.2 (nextU b 0).1).2.2 = 0 := by
    by_cases hx : (decN (nextU b 0).2.1 (nextU b 0).2.2 (nextU b 0).1).2.2 = 0
    · exact hx
    · exact absurd (.inl hx) h3
  have hl : (decN (nextU b 0).2.1 (nextU b 0).2.2 (nextU b 0).1).2.1 = [] := by
    apply List.eq_nil_of_length_eq_zero
    by_cases hx : 0 < (decN (nextU b 0).2.1 (nextU b 0).2.2 (nextU b 0).1).2.1.length
    · exact absurd (.inr (.inl hx)) h3
    · omega
  have ha : (decN (nextU b 0).2.1 (nextU b 0).2.2 (nextU b 0).1).1.all okC = true := by
    unfold rightL at hr
    simp only [Bool.and_eq_true] at hr
    exact hr.2
  have hi := decN_inv _ _ _ he ha
  have hn := decN_len (nextU b 0).2.1 (nextU b 0).2.2 (nextU b 0).1
  rw [hl, List.append_nil, h] at hi
  rw [h] at hn hr
  rcases hu : nextU b 0 with ⟨v, r, e⟩
  rw [hu] at hi hn
  simp only at hi hn
  obtain ⟨rfl, rfl⟩ := hi
  have := (nextU_inv hu).1
  rw [← hn] at this
  have hb : b = encL l := this
  rw [hb]
  exact encodeS_of hr (by rw [← hb]; omega)
theorem decode_none {b : List UInt8} (h : ∀ l, encodeS l ≠ (b, 0)) : decodeS b = ([], 50) := by
  rcases hd : decodeS b with ⟨l, e⟩
  by_cases he : e = 0
  · subst he; exact absurd (encode_of hd) (h l)
  · unfold decodeS at hd
    split at hd
    · exact hd.symm
    split at hd
    · exact hd.symm
    split at hd
    · exact hd.symm
    · simp only [Prod.mk.injEq] at hd; exact absurd hd.2.symm he
theorem decode_cases (b : List UInt8) : (∃ l, decodeS b = (l, 0) ∧ encodeS l = (b, 0)) ∨ decodeS b = ([], 50) := by
  rcases hd : decodeS b with ⟨l, e⟩
  by_cases he : e = 0
  · subst he; exact .inl ⟨l, rfl, encode_of hd⟩
  · right
    unfold decodeS at hd
    split at hd
    · exact hd.symm
    split at hd
    · exact hd.symm
    split at hd
    · exact hd.symm
    · simp only [Prod.mk.injEq] at hd; exact absurd hd.2.symm he
end Go.Proofs.Ytgippbbbfpkhhaa
