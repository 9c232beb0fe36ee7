/- Of the proofs of layer 4, merged: StoX. -/
import Derived.Test.YtcmjobpgdfapoaaGreatMBackP

/- Plain: the document's reading of a batch, step by step against whatever batch has these bytes. -/
namespace Go.Proofs.YtcmjobpgdfapoaaGreat

def Mt (b : List UInt8) (N p k : Nat) (dl : List Chg) : Prop := ∀ l, encodeS l = (b, 0) → l.length = N ∧ dl = l.take k ∧ b.drop p = bodyL (l.drop k)
theorem Mt.start {b : List UInt8} {N p : Nat} (h : uintAt b 0 = ((N : Int), (p : Int), 0)) : Mt b N p 0 [] := by
  intro l hl
  obtain ⟨h1, h2, rfl⟩ := encodeS_ok hl
  unfold rightL at h1
  simp only [Bool.and_eq_true, decide_eq_true_eq] at h1
  have h3 := uintAt_in (encL l) 0 (by omega)
  rw [List.drop_zero] at h3
  unfold encL at h3 h ⊢
  rw [uu0_back _ _ (by omega)] at h3
  have h4 : uintAt (Lib.uvarint l.length ++ bodyL l) 0 = ((l.length : Int), ((0 : Nat) : Int) + ((Lib.uvarint l.length).length : Int), 0) := h3
  rw [h4] at h
  simp only [Prod.mk.injEq, and_true] at h
  have e1 : N = l.length := by omega
  have e2 : p = (Lib.uvarint l.length).length := by omega
  subst e1 e2
  exact ⟨rfl, by simp, by simp⟩
theorem Mt.bad {b : List UInt8} (h : (uintAt b 0).2.2 ≠ 0 ∨ 32 < (uintAt b 0).1) : ∀ l, encodeS l ≠ (b, 0) := by
  intro l hl
  obtain ⟨h1, h2, rfl⟩ := encodeS_ok hl
  unfold rightL at h1
  simp only [Bool.and_eq_true, decide_eq_true_eq] at h1
  have h3 := uintAt_in (encL l) 0 (by omega)
  rw [List.drop_zero] at h3
  unfold encL at h3 h
  rw [uu0_back _ _ (by omega)] at h3
  have h4 : uintAt (Lib.uvarint l.length ++ bodyL l) 0 = ((l.length : Int), ((0 : Nat) : Int) + ((Lib.uvarint l.length).length : Int), 0) := h3
  rw [h4] at h
  simp only [ne_eq, not_true_eq_false, false_or] at h
  omega
/-- What the k-th change of a batch is, where it stands. -/
theorem Mt.at {b : List UInt8} {N p k : Nat} {dl : List Chg} (h : Mt b N p k dl) (hk : k < N) (hp : p ≤ b.length) {l : List Chg} (hl : encodeS l = (b, 0)) :
    ∃ c, okC c = true ∧ l.take (k + 1) = dl ++ [c] ∧ l.length = N ∧ txtAt b p 16 = (c.key, ((p + (putB c.key).length : Nat) : Int), 0) ∧ p + (putB c.key).length < b.length ∧
      b.drop (p + (putB c.key).length) = (if c.gone then [1] else 0 :: putB c.val) ++ bodyL (l.drop (k + 1)) := by
  obtain ⟨h1, h2, h3⟩ := h l hl
  obtain ⟨g1, g2, g3⟩ := encodeS_ok hl
  unfold rightL at g1
  simp only [Bool.and_eq_true] at g1
  have hkl : k < l.length := by omega
  have hok : okC l[k] = true := List.all_eq_true.1 g1.2 _ (List.getElem_mem _)
  rw [drop_cons_at hkl, bodyL_cons] at h3
  unfold encC at h3
  rw [List.append_assoc] at h3
  have hok2 := hok
  unfold okC at hok2
  simp only [Bool.and_eq_true, decide_eq_true_eq] at hok2
  have hd : b.drop (p + (putB l[k].key).length) = (if l[k].gone then [1] else 0 :: putB l[k].val) ++ bodyL (l.drop (k + 1)) := by
    rw [← List.drop_drop, h3, List.drop_left]
  refine ⟨l[k], hok, ?_, h1, txtAt_put hp h3 (by omega) (by omega), ?_, hd⟩
  · rw [List.take_succ_eq_append_getElem hkl, h2]
  · have := congrArg List.length hd
    rw [List.length_drop, List.length_append] at this
    have h4 : 1 ≤ (if l[k].gone then [1] else 0 :: putB l[k].val).length := by split <;> simp
    omega
theorem Mt.fail1 {b : List UInt8} {N p k : Nat} {dl : List Chg} (h : Mt b N p k dl) (hk : k < N) (hp : p ≤ b.length) (he : (txtAt b p 16).2.2 ≠ 0) : ∀ l, encodeS l ≠ (b, 0) := by
  intro l hl
  obtain ⟨c, _, _, _, h1, _⟩ := h.at hk hp hl
  rw [h1] at he
  exact he rfl
theorem Mt.fail2 {b : List UInt8} {N p k to : Nat} {dl : List Chg} {t : List UInt8} (h : Mt b N p k dl) (hk : k < N) (hp : p ≤ b.length) (ht : txtAt b p 16 = (t, (to : Int), 0)) (he : b.length ≤ to ∨ ∃ x, b[to]? = some x ∧ 1 < x.toNat) :
    ∀ l, encodeS l ≠ (b, 0) := by
  intro l hl
  obtain ⟨c, _, _, _, h1, h2, h3⟩ := h.at hk hp hl
  rw [ht] at h1
  simp only [Prod.mk.injEq, and_true] at h1
  have e : to = p + (putB c.key).length := by omega
  subst e
  rcases he with he | ⟨x, hx, hx1⟩
  · omega
  · have := List.getElem?_drop (xs := b) (i := p + (putB c.key).length) (j := 0)
    rw [Nat.add_zero, hx, h3] at this
    cases hg : c.gone with
    | true => rw [hg] at this; simp at this; subst this; simp at hx1
    | false => rw [hg] at this; simp at this; subst this; simp at hx1
theorem Mt.flag {b : List UInt8} {N p k to : Nat} {dl : List Chg} {t : List UInt8} (h : Mt b N p k dl) (hk : k < N) (hp : p ≤ b.length) (ht : txtAt b p 16 = (t, (to : Int), 0)) {l : List Chg} (hl : encodeS l = (b, 0)) :
    ∃ c, okC c = true ∧ l.take (k + 1) = dl ++ [c] ∧ l.length = N ∧ c.key = t ∧ b[to]? = some (if c.gone then 1 else 0) ∧ b.drop (to + 1) = (if c.gone then [] else putB c.val) ++ bodyL (l.drop (k + 1)) ∧ to + 1 ≤ b.length := by
  obtain ⟨c, h0, ha, hb, h1, h2, h3⟩ := h.at hk hp hl
  rw [ht] at h1
  simp only [Prod.mk.injEq, and_true] at h1
  have e : to = p + (putB c.key).length := by omega
  subst e
  have h4 := List.getElem?_drop (xs := b) (i := p + (putB c.key).length) (j := 0)
  rw [Nat.add_zero, h3] at h4
  have h5 : b.drop (p + (putB c.key).length + 1) = ((if c.gone then [1] else 0 :: putB c.val) ++ bodyL (l.drop (k + 1))).drop 1 := by rw [← h3, List.drop_drop]
  refine ⟨c, h0, ha, hb, h1.1.symm, ?_, ?_, by omega⟩
  · rw [← h4]; cases c.gone <;> simp
  · rw [h5]; cases c.gone <;> simp
theorem Mt.gone {b : List UInt8} {N p k to : Nat} {dl : List Chg} {t : List UInt8} (h : Mt b N p k dl) (hk : k < N) (hp : p ≤ b.length) (ht : txtAt b p 16 = (t, (to : Int), 0)) (hx : b[to]? = some 1) : Mt b N (to + 1) (k + 1) (dl ++ [⟨t, [], true⟩]) := by
  intro l hl
  obtain ⟨c, h0, ha, hb, h1, h2, h3, _⟩ := h.flag hk hp ht hl
  rw [hx] at h2
  obtain ⟨ck, cv, cg⟩ := c
  cases cg with
  | false => simp at h2
  | true =>
    simp only [okC, Bool.and_eq_true, decide_eq_true_eq, if_true] at h0
    have hv : cv = [] := List.eq_nil_of_length_eq_zero h0.2.2
    subst hv
    have h1 : ck = t := h1
    subst h1
    exact ⟨hb, ha.symm, by simpa using h3⟩
theorem Mt.live {b : List UInt8} {N p k to up : Nat} {dl : List Chg} {t v : List UInt8} (h : Mt b N p k dl) (hk : k < N) (hp : p ≤ b.length) (ht : txtAt b p 16 = (t, (to : Int), 0)) (hx : b[to]? = some 0) (hv : txtAt b ((to + 1 : Nat) : Int) 128 = (v, (up : Int), 0)) :
    Mt b N up (k + 1) (dl ++ [⟨t, v, false⟩]) := by
  intro l hl
  obtain ⟨c, h0, ha, hb, h1, h2, h3, h4⟩ := h.flag hk hp ht hl
  rw [hx] at h2
  obtain ⟨ck, cv, cg⟩ := c
  cases cg with
  | true => simp at h2
  | false =>
    simp only [okC, Bool.and_eq_true, decide_eq_true_eq, Bool.false_eq_true, if_false] at h0 h3
    have h1 : ck = t := h1
    subst h1
    have h5 := txtAt_put h4 h3 (show (cv.length : Int) ≤ 128 by omega) (by omega)
    rw [hv] at h5
    simp only [Prod.mk.injEq, and_true] at h5
    obtain ⟨rfl, h6⟩ := h5
    have e : up = to + 1 + (putB v).length := by omega
    subst e
    exact ⟨hb, ha.symm, by rw [← List.drop_drop, h3, List.drop_left]⟩
theorem Mt.fail3 {b : List UInt8} {N p k to : Nat} {dl : List Chg} {t : List UInt8} (h : Mt b N p k dl) (hk : k < N) (hp : p ≤ b.length) (ht : txtAt b p 16 = (t, (to : Int), 0)) (hx : b[to]? = some 0) (he : (txtAt b ((to + 1 : Nat) : Int) 128).2.2 ≠ 0) :
    ∀ l, encodeS l ≠ (b, 0) := by
  intro l hl
  obtain ⟨c, h0, ha, hb, h1, h2, h3, h4⟩ := h.flag hk hp ht hl
  rw [hx] at h2
  obtain ⟨ck, cv, cg⟩ := c
  cases cg with
  | true => simp at h2
  | false =>
    simp only [okC, Bool.and_eq_true, decide_eq_true_eq, Bool.false_eq_true, if_false] at h0 h3
    have h5 := txtAt_put h4 h3 (show (cv.length : Int) ≤ 128 by omega) (by omega)
    rw [h5] at he
    exact he rfl
theorem Mt.done {b : List UInt8} {N p : Nat} {dl : List Chg} (h : Mt b N p N dl) (hne : encodeS dl ≠ (b, 0)) : ∀ l, encodeS l ≠ (b, 0) := by
  intro l hl
  obtain ⟨h1, h2, _⟩ := h l hl
  rw [List.take_of_length_le (by omega)] at h2
  subst h2
  exact hne hl
end Go.Proofs.YtcmjobpgdfapoaaGreat
