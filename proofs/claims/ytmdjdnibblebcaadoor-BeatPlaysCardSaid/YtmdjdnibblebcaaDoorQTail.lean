/- A region that draws its order: first operations that only read, or call what only reads and may draw; then a forced tail that writes or makes memory. No program is named here. -/
import Derived.Test.YtmdjdnibblebcaaDoorRegInv
import Derived.StillTail
import Derived.Deep.Quiet
namespace Go.Proofs.YtmdjdnibblebcaaDoor
open Go.RowKit

theorem wpOp_part {P : Program} {ops part : Array Oper} {Q : Exit → Act → World → Prop} {i : Nat} {K : Act → World → Prop} {a : Act} {w : World} (hi : part[i]? = ops[i]?) (hg : ∀ o, ops[i]? = some o → o.guard = none) (h : wpOp P part Q i K a w) : wpOp P ops Q i K a w := by
  unfold wpOp at h ⊢
  rw [hi] at h
  split
  · rename_i ho; rw [ho] at h; exact h
  · rename_i o ho
    rw [ho] at h
    have e : ∀ y, Region.wanted o y = true := fun y => by simp [Region.wanted, hg o ho]
    simp only [e, if_true] at h ⊢
    exact h
/-- Two rows of marks: the longer one has the shorter one's, and none behind. -/
structure Marks (n m : Nat) (lh listed : Array Bool) : Prop where
  sh : lh.size = n
  sl : listed.size = m
  same : ∀ j, j < n → listed[j]? = lh[j]?
  none : ∀ j, n ≤ j → j < m → listed[j]? = some false
theorem Marks.getD {n m : Nat} {lh listed : Array Bool} (h : Marks n m lh listed) (j : Nat) (hj : j < n) (d : Bool) : listed.getD j d = lh.getD j d := by
  rw [Array.getD_eq_getD_getElem?, Array.getD_eq_getD_getElem?, h.same j hj]
theorem Marks.set {n m : Nat} {lh listed : Array Bool} (h : Marks n m lh listed) (i : Nat) (hi : i < n) : Marks n m (lh.setIfInBounds i true) (listed.setIfInBounds i true) := by
  refine ⟨by simpa using h.sh, by simpa using h.sl, fun j hj => ?_, fun j hj hm => ?_⟩
  · have h1 := h.same j hj
    have h2 := h.sl
    have h3 := h.sh
    by_cases e : i = j
    · subst e
      have hm : i < m := by
        have : i < lh.size := by omega
        rw [Array.getElem?_eq_getElem this] at h1
        have := (Array.getElem?_eq_some_iff.1 h1).1
        omega
      rw [Array.getElem?_setIfInBounds_self_of_lt (by omega), Array.getElem?_setIfInBounds_self_of_lt (by omega)]
    · rw [Array.getElem?_setIfInBounds_ne e, Array.getElem?_setIfInBounds_ne e, h1]
  · rw [Array.getElem?_setIfInBounds_ne (by omega)]; exact h.none j hj hm
theorem unl_set {n : Nat} {lh : Array Bool} (hs : lh.size = n) {i : Nat} (hi : i < n) (h : lh.getD i true = false) : unl n (lh.setIfInBounds i true) < unl n lh := by
  refine countP_less _ (fun x hx => ?_) (List.mem_range.2 hi) (by simp only [h]; rfl) (by simp [hs, hi])
  by_cases e : i = x
  · subst e; simp [hs, hi] at hx
  · rwa [getD_set_ne true e] at hx
/-- No guard in the first n. -/
def noGuardB (ops : Array Oper) : Bool := ops.all fun o => o.guard.isNone
theorem any_tail {P : Program} {l : List Oper} {n : Nat} {C : World → Prop} {Q : Exit → Act → World → Prop} (hn : n < l.length)
    (hg : noGuardB l.toArray = true) (ho : ordB l.toArray = true) (hs : Region.sinkB .any l.toArray n = true) (hc : Region.chainB .any l.toArray n = true)
    (hq : Region.seqB .any l.toArray (l.length - n) n (Array.replicate n true ++ Array.replicate (l.length - n) false) = true) :
    ∀ (f : Nat) (lh listed : Array Bool) (a : Act) (w : World), Marks n l.length lh listed → HeadInv .any l.toArray n listed → unl n lh ≤ f → C w →
      wpAnyQ P .any (l.take n).toArray C (fun a' => ∀ w', C w' → wpList P l.toArray Q (l.drop n) a' w') f lh a → wpAny P .any l.toArray Q (f + (l.length - n)) listed a w := by
  have htl : (l.take n).length = n := by simp; omega
  have hpart : ∀ i, i < n → (l.take n).toArray[i]? = l.toArray[i]? := fun i hi => by simp [hi]
  have hord := ordB_spec ho
  have hgd : ∀ (i : Nat) (o : Oper), l.toArray[i]? = some o → o.guard = none := fun i o h => by
    have := Array.all_eq_true_iff_forall_mem.1 hg o (Array.mem_of_getElem? h)
    simpa using this
  have done : ∀ (lh listed : Array Bool) (a : Act) (w : World), Marks n l.length lh listed → (∀ j, j < n → lh.getD j true = true) → C w → (∀ w', C w' → wpList P l.toArray Q (l.drop n) a w') → wpAny P .any l.toArray Q (l.length - n) listed a w := by
    intro lh listed a w hm hall hw h
    have he : listed = Array.replicate n true ++ Array.replicate (l.length - n) false := by
      apply Array.ext_getElem?
      intro j
      by_cases h1 : j < n
      · rw [hm.same j h1, Array.getElem?_append_left (by simpa using h1)]
        have h2 := hall j h1
        have h3 : j < lh.size := by rw [hm.sh]; exact h1
        simp [h3] at h2
        simp [h1, h3, h2]
      · by_cases h2 : j < l.length
        · rw [hm.none j (by omega) h2, Array.getElem?_append_right (by rw [Array.size_replicate]; omega), Array.getElem?_replicate, if_pos (by rw [Array.size_replicate]; omega)]
        · rw [Array.getElem?_eq_none (by rw [hm.sl]; omega), Array.getElem?_eq_none (by rw [Array.size_append, Array.size_replicate, Array.size_replicate]; omega)]
    have hdl : (l.drop n).length = l.length - n := by simp
    have := wpAny_of_seq (md := .any) (P := P) (Q' := Q) (l.drop n) n listed a w (fun j => by simp [List.getElem?_drop]) (by rw [hdl, he]; exact hq) (h w hw)
    rwa [hdl] at this
  intro f
  induction f with
  | zero =>
    intro lh listed a w hm hinv hu hw h
    rw [Nat.zero_add]
    refine done lh listed a w hm (fun j hj => ?_) hw h.2
    cases e : lh.getD j true with
    | true => rfl
    | false =>
      have : 0 < unl n lh := List.countP_pos_iff.2 ⟨j, List.mem_range.2 hj, by simp only [e]; rfl⟩
      omega
  | succ f ih =>
    intro lh listed a w hm hinv hu hw h
    have hready : ∀ i, i < n → i ∈ Region.ready .any l.toArray listed → i ∈ Region.ready .any (l.take n).toArray lh := fun i hi hr => by
      obtain ⟨h0, o, hoi, hall⟩ := mem_ready.1 hr
      refine mem_ready.2 ⟨by rw [← hm.getD i hi]; exact h0, o, by rw [hpart i hi]; exact hoi, fun e he hb => ?_⟩
      have := hord i o hoi e he hb
      rw [← hm.getD _ (by omega)]
      exact hall e he hb
    have hlt : ∀ i ∈ Region.ready .any l.toArray listed, (∃ j, j < n ∧ lh.getD j true = false) → i < n := fun i hi hj => by
      obtain ⟨j, hjn, hj⟩ := hj
      rcases Nat.lt_or_ge i n with h1 | h1
      · exact h1
      · exact absurd hi (tail_waits hs hc (by simpa using hn) hinv _ j rfl hjn (by rw [hm.getD j hjn]; exact hj) i h1)
    by_cases hall : ∀ j, j < n → lh.getD j true = true
    · -- nothing is left of the first ones: the row of takes is longer than it need be
      have hr0 : Region.ready .any (l.take n).toArray lh = [] := by
        apply List.eq_nil_iff_forall_not_mem.2
        intro j hj
        obtain ⟨h0, o, hoj, _⟩ := mem_ready.1 hj
        have : j < n := by have := (Array.getElem?_eq_some_iff.1 hoj).1; simp at this; omega
        rw [hall j this] at h0
        cases h0
      have h1 := done lh listed a w hm hall hw (h.1 hr0)
      have mono : ∀ (k : Nat) (g : Nat) (listed : Array Bool) (a : Act) (w : World), wpAny P .any l.toArray Q g listed a w → wpAny P .any l.toArray Q (k + g) listed a w := by
        intro k g
        induction g with
        | zero =>
          intro listed a w h
          cases k with
          | zero => exact h
          | succ k => exact ⟨fun _ => h.2, fun i hi => by rw [h.1] at hi; cases hi⟩
        | succ g ihg =>
          intro listed a w h
          exact ⟨h.1, fun i hi => wpOp_mono (fun a' w' h' => ihg _ a' w' h') (h.2 i hi)⟩
      exact mono (f + 1) _ listed a w h1
    · have hex : ∃ j, j < n ∧ lh.getD j true = false := by
        refine Classical.byContradiction fun hno => hall fun j hj => ?_
        cases e : lh.getD j true with
        | true => rfl
        | false => exact absurd ⟨j, hj, e⟩ hno
      rw [show f + 1 + (l.length - n) = (f + (l.length - n)) + 1 by omega]
      refine ⟨fun hr => ?_, fun i hi => ?_⟩
      · exfalso
        obtain ⟨j, hj, hjf⟩ := hex
        have := all_listed (by rw [hm.sl]; simp) ho hr j (by simp; omega)
        rw [hm.getD j hj] at this
        have h3 : j < lh.size := by rw [hm.sh]; exact hj
        simp [h3] at this hjf
        rw [this] at hjf
        cases hjf
      · have hin := hlt i hi hex
        have hr := hready i hin hi
        have h2 := h.2 i hr
        refine wpOp_part (hpart i hin) (hgd i) (wpOp_of_qOp hw (fun a' w' hw' h' => ?_) h2)
        exact ih _ _ a' w' (hm.set i hin) (hinv.set hi hin) (by have := unl_set hm.sh hin (mem_ready.1 hr).1; omega) hw' h'
/-- The rule. -/
theorem wp_region_quiet_tail {P : Program} {id : Nat} {Q : Exit → Act → World → Prop} {a : Act} {w : World} {l : List Oper} (n : Nat) (hm : P.follows .mixedOrders = true)
    (hB : (decide (n < l.length) && noGuardB l.toArray && ordB l.toArray && Region.sinkB .any l.toArray n && Region.chainB .any l.toArray n && Region.seqB .any l.toArray (l.length - n) n (Array.replicate n true ++ Array.replicate (l.length - n) false) && Region.lexB .any (l.take n).toArray) = true)
    (h : wpQuiet P (l.take n).toArray (fun w' => ∃ q, w' = w.drewN q) (fun a' => ∀ w', (∃ q, w' = w.drewN q) → wpList P l.toArray Q (l.drop n) a' w') (l.take n) a) : (Code.region id l.toArray true).wp P Q a w := by
  simp only [Bool.and_eq_true, decide_eq_true_eq] at hB
  obtain ⟨⟨⟨⟨⟨⟨hn, hg⟩, ho⟩, hs⟩, hc⟩, hq⟩, hlex⟩ := hB
  simp only [Region.lexB, Bool.and_eq_true] at hlex
  have htl : (l.take n).length = n := by simp; omega
  refine wp_region_any hm ?_
  have inv0 : HeadInv .any l.toArray n (Array.replicate l.toArray.size false) :=
    ⟨by simp, fun j oj _ hl => (by rw [getD_replicate_false] at hl; cases hl), fun t _ ht => getD_in (by simpa using ht) (getD_replicate_false _ _)⟩
  have hQ := wpAnyQ_lex (P := P) (C := fun w' => ∃ q, w' = w.drewN q) (md := .any) hlex.1 (l.take n) 0 (Array.replicate (l.take n).toArray.size false) a (by simp) (by simpa using hlex.2) h
  have hmk : Marks n l.length (Array.replicate (l.take n).toArray.size false) (Array.replicate l.toArray.size false) := by
    refine ⟨by simp; omega, by simp, fun j hj => ?_, fun j hj hm => ?_⟩
    · simp only [Array.getElem?_replicate, List.size_toArray, htl, hj, if_true]
      rw [if_pos (by omega)]
    · simp only [Array.getElem?_replicate, List.size_toArray, hm, if_true]
  have := any_tail (P := P) (Q := Q) (C := fun w' => ∃ q, w' = w.drewN q) hn hg ho hs hc hq (l.take n).length _ _ a w.drew hmk inv0 (by rw [htl]; unfold unl; exact Nat.le_trans List.countP_le_length (by simp)) ⟨1, rfl⟩ hQ
  rw [htl, show n + (l.length - n) = l.toArray.size by simp; omega] at this
  exact this
end Go.Proofs.YtmdjdnibblebcaaDoor
