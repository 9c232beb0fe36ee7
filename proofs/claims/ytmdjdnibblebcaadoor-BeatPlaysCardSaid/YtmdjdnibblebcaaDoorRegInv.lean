/- A region that draws its order, by an invariant over what has come up: each operation that may come up keeps it. No program is named here. -/
import Derived.Test.YtmdjdnibblebcaaDoorWords
import Derived.Orders
namespace Go.Proofs.YtmdjdnibblebcaaDoor
open Go.RowKit

/-- How many have not come up. -/
def unl (n : Nat) (listed : Array Bool) : Nat := (List.range n).countP fun i => !listed.getD i true
theorem countP_less {p q : Nat → Bool} (l : List Nat) (h : ∀ x, q x = true → p x = true) {i : Nat} (hi : i ∈ l) (h1 : p i = true) (h2 : q i = false) : l.countP q < l.countP p := by
  induction l with
  | nil => simp at hi
  | cons x l ih =>
    have hle : l.countP q ≤ l.countP p := List.countP_mono_left fun y _ hy => h y hy
    rw [List.countP_cons, List.countP_cons]
    rcases List.mem_cons.1 hi with e | hi
    · subst e
      rw [h1, h2]
      simp
      omega
    · have := ih hi
      by_cases hq : q x = true
      · rw [hq, h x hq]; simp; omega
      · rw [if_neg hq]; split <;> omega

theorem region_inv {P : Program} {ops : Array Oper} {Q : Exit → Act → World → Prop} (I : Array Bool → Act → World → Prop)
    (step : ∀ listed a w, I listed a w → ∀ i ∈ Region.ready .any ops listed, wpOp P ops Q i (fun a' w' => I (listed.setIfInBounds i true) a' w') a w)
    (done : ∀ listed a w, I listed a w → Region.ready .any ops listed = [] → Q .normal a w) :
    ∀ (fuel : Nat) (listed : Array Bool) (a : Act) (w : World), listed.size = ops.size → unl ops.size listed ≤ fuel → I listed a w → wpAny P .any ops Q fuel listed a w := by
  intro fuel
  induction fuel with
  | zero =>
    intro listed a w hs hu hI
    have hr : Region.ready .any ops listed = [] := by
      apply List.eq_nil_iff_forall_not_mem.2
      intro j hj
      obtain ⟨h0, o, ho, _⟩ := mem_ready.1 hj
      have hj2 : j < ops.size := (Array.getElem?_eq_some_iff.1 ho).1
      have : 0 < unl ops.size listed := List.countP_pos_iff.2 ⟨j, List.mem_range.2 hj2, by simp only [h0]; rfl⟩
      omega
    exact ⟨hr, done _ _ _ hI hr⟩
  | succ fuel ih =>
    intro listed a w hs hu hI
    refine ⟨fun hr => done _ _ _ hI hr, fun i hi => ?_⟩
    obtain ⟨h0, o, ho, _⟩ := mem_ready.1 hi
    have hi2 : i < ops.size := (Array.getElem?_eq_some_iff.1 ho).1
    have hless : unl ops.size (listed.setIfInBounds i true) < unl ops.size listed := by
      refine countP_less _ (fun x hx => ?_) (List.mem_range.2 hi2) (by simp only [h0]; rfl) (by simp [hs, hi2])
      by_cases e : i = x
      · subst e; simp [hs, hi2] at hx
      · rwa [getD_set_ne true e] at hx
    exact wpOp_mono (fun a' w' h => ih _ a' w' (by simpa using hs) (by omega) h) (step _ _ _ hI i hi)

/-- Each operation waits for elder ones alone (a Bool, for the kernel). -/
def ordB (ops : Array Oper) : Bool := (List.range ops.size).all fun i => ((ops[i]?).map fun o => o.after.all fun e => !Region.binds .any e || decide (e.on < i)).getD true
theorem ordB_spec {ops : Array Oper} (h : ordB ops = true) : ∀ i o, ops[i]? = some o → ∀ e ∈ o.after, Region.binds .any e = true → e.on < i := by
  intro i o ho e he hb
  have hi : i < ops.size := (Array.getElem?_eq_some_iff.1 ho).1
  have h1 := List.all_eq_true.1 h i (List.mem_range.2 hi)
  rw [ho] at h1
  have h2 := Array.all_eq_true_iff_forall_mem.1 (show o.after.all (fun e => !Region.binds .any e || decide (e.on < i)) = true from h1) e he
  simpa [hb] using h2
/-- Where nothing may come up any more, all has: each operation waits for elder ones alone. -/
theorem all_listed {ops : Array Oper} {listed : Array Bool} (hs : listed.size = ops.size) (ho : ordB ops = true) (hr : Region.ready .any ops listed = []) : ∀ i, i < ops.size → listed.getD i false = true := by
  have hord := ordB_spec ho
  intro i
  induction i using Nat.strongRecOn with
  | _ i ih =>
    intro hi
    by_cases h : listed.getD i true = false
    · exfalso
      have : i ∈ Region.ready .any ops listed := mem_ready.2 ⟨h, ops[i], by simp [hi], fun e he hb => ih _ (hord i _ (by simp [hi]) e he hb) (by have := hord i _ (by simp [hi]) e he hb; omega)⟩
      rw [hr] at this
      cases this
    · have hi' : i < listed.size := by omega
      simp [hi'] at h ⊢
      exact h

/-- The beginning. -/
theorem wp_region_inv {P : Program} {id : Nat} {ops : Array Oper} {Q : Exit → Act → World → Prop} {a : Act} {w : World} (hm : P.follows .mixedOrders = true) (I : Array Bool → Act → World → Prop)
    (h0 : I (Array.replicate ops.size false) a w.drew)
    (step : ∀ listed a w, I listed a w → ∀ i ∈ Region.ready .any ops listed, wpOp P ops Q i (fun a' w' => I (listed.setIfInBounds i true) a' w') a w)
    (done : ∀ listed a w, I listed a w → Region.ready .any ops listed = [] → Q .normal a w) : (Code.region id ops true).wp P Q a w :=
  wp_region_any hm (region_inv I step done ops.size _ a _ (by simp) (by unfold unl; exact Nat.le_trans List.countP_le_length (by simp)) h0)
end Go.Proofs.YtmdjdnibblebcaaDoor
