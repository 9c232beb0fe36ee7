/- Layer 10, plain: what is chosen, and the prefix. -/
import Derived.Test.YthkkkldkpdkabaaProP
namespace Go.Proofs.Ythkkkldkpdkabaa

/-- All up to the prefix are chosen; the one behind it is not. -/
structure Pp.Pre (p : Pp) : Prop where
  all : ∀ s, p.base ≤ s → s ≤ p.pre → p.isChosen s = true
  non : p.isChosen (p.pre + 1) = false
theorem Pp.chosen_is (p : Pp) (s : Nat) : (p.chosen s).isSome = p.isChosen s := by
  unfold Pp.isChosen Pp.chosen
  split
  · rfl
  · split <;> simp_all
theorem Qm.isQ_zero (q : Qm) (h : q.right = 0) (b : Bool) : q.isQ b 0 = false := Qm.isQ_none q h b fun i _ => Nat.zero_testBit i
theorem Pp.Pre.new {q : Qm} {b : Bl} {s : Nat} (h0 : 0 < s) : (Pp.new q b s).Pre := ⟨fun k h1 h2 => by
  have h1 : s ≤ k := h1
  have h2 : k ≤ s - 1 := h2
  omega, rfl⟩
theorem Pp.isChosen_hears (p : Pp) (nd : Nat) (l : List Vt) (s : Nat) : (p.hears nd l).isChosen s = p.isChosen s := by
  have h := Pp.hears_same nd l p
  unfold Pp.isChosen
  rw [h.1, h.2.2.2.2.1]
theorem Pp.isChosen_promise (p : Pp) (n : Int) (l : List Vt) (s : Nat) : (p.promise n l).2.isChosen s = p.isChosen s := by
  have h := p.promise_same n l
  unfold Pp.isChosen
  rw [h.1, h.2.2.2.1]
theorem Pp.Pre.promise {p : Pp} (h : p.Pre) (n : Int) (l : List Vt) : (p.promise n l).2.Pre := by
  have hs := p.promise_same n l
  refine ⟨fun s h1 h2 => ?_, ?_⟩
  · rw [hs.2.2.1] at h1
    rw [hs.2.2.2.2] at h2
    rw [Pp.isChosen_promise]
    exact h.all s h1 h2
  · rw [Pp.isChosen_promise, hs.2.2.2.2]
    exact h.non
theorem Pp.isChosen_new {p : Pp} (h : p.Ok) {k : Nat} (hn : getK p.props k = none) (v : List UInt8) (s : Nat) : Pp.isChosen { p with props := putK k ⟨v, 0⟩ p.props } s = p.isChosen s := by
  unfold Pp.isChosen
  dsimp only
  rw [getK_put]
  by_cases hs : s = k
  · subst hs
    rw [if_pos rfl, hn]
    exact Qm.isQ_zero p.q h.right true
  · rw [if_neg hs]
theorem Pp.propose_same (p : Pp) (s : Nat) (own : List UInt8) : (p.propose s own).2.2.q = p.q ∧ (p.propose s own).2.2.bal = p.bal ∧ (p.propose s own).2.2.base = p.base ∧ (p.propose s own).2.2.prom = p.prom ∧ (p.propose s own).2.2.told = p.told ∧ (p.propose s own).2.2.top = p.top ∧ (p.propose s own).2.2.pre = p.pre := by
  unfold Pp.propose
  repeat' split
  all_goals exact ⟨rfl, rfl, rfl, rfl, rfl, rfl, rfl⟩
theorem Pp.isChosen_propose {p : Pp} (h : p.Ok) (k : Nat) (own : List UInt8) (s : Nat) : (p.propose k own).2.2.isChosen s = p.isChosen s := by
  unfold Pp.propose
  split
  · rfl
  split
  · rfl
  split
  · rfl
  · rename_i hn
    split
    · exact Pp.isChosen_new h hn _ s
    · split
      · rfl
      · exact Pp.isChosen_new h hn _ s
theorem Pp.Pre.propose {p : Pp} (hp : p.Pre) (h : p.Ok) (k : Nat) (own : List UInt8) : (p.propose k own).2.2.Pre := by
  have hs := p.propose_same k own
  refine ⟨fun s h1 h2 => ?_, ?_⟩
  · rw [hs.2.2.1] at h1
    rw [hs.2.2.2.2.2.2] at h2
    rw [Pp.isChosen_propose h]
    exact hp.all s h1 h2
  · rw [Pp.isChosen_propose h, hs.2.2.2.2.2.2]
    exact hp.non
theorem Pp.propose_len (p : Pp) (k : Nat) (own : List UInt8) : (p.propose k own).2.2.props.length ≤ p.props.length + 1 := by
  unfold Pp.propose
  repeat' split
  all_goals first
    | exact Nat.le_succ _
    | exact putK_len _ _ _
theorem testBit_or (a k i : Nat) (h : a.testBit i = true) : (a ||| 2 ^ k).testBit i = true := by rw [Nat.testBit_or, h]; rfl
theorem Pp.isChosen_acc {p : Pp} (h : p.Ok) {k : Nat} {z : Pz} (hz : getK p.props k = some z) (nd s : Nat) (hc : p.isChosen s = true) : Pp.isChosen { p with props := putK k ⟨z.val, z.acc ||| 2 ^ nd⟩ p.props } s = true := by
  unfold Pp.isChosen at *
  dsimp only
  rw [getK_put]
  by_cases hs : s = k
  · subst hs
    rw [if_pos rfl]
    rw [hz] at hc
    dsimp only at hc ⊢
    exact Qm.isQ_mono p.q h.right true (fun i _ hb => testBit_or _ _ _ hb) hc
  · rw [if_neg hs]
    exact hc
theorem Pp.accepted_len (p : Pp) (n : Int) (k : Nat) : (p.accepted n k).2.props.length ≤ p.props.length + 1 ∧ (p.accepted n k).2.told = p.told ∧ (p.accepted n k).2.base = p.base ∧ (p.accepted n k).2.q = p.q ∧ (p.accepted n k).2.bal = p.bal ∧ (p.accepted n k).2.prom = p.prom := by
  unfold Pp.accepted
  split
  · exact ⟨Nat.le_succ _, rfl, rfl, rfl, rfl, rfl⟩
  split
  · exact ⟨Nat.le_succ _, rfl, rfl, rfl, rfl, rfl⟩
  · exact ⟨putK_len _ _ _, rfl, rfl, rfl, rfl, rfl⟩
theorem Pp.accepted_keeps {p : Pp} (h : p.Ok) (n : Int) (k s : Nat) (hc : p.isChosen s = true) : (p.accepted n k).2.isChosen s = true := by
  unfold Pp.accepted
  split
  · exact hc
  split
  · exact hc
  · rename_i z hz
    exact Pp.isChosen_acc h hz n.toNat s hc
theorem Pp.Pre.accepted {p : Pp} (hp : p.Pre) (h : p.Ok) (n : Int) (k : Nat) : (p.accepted n k).2.Pre ∧ p.pre ≤ (p.accepted n k).2.pre := by
  unfold Pp.accepted
  split
  · exact ⟨hp, Nat.le_refl _⟩
  rename_i hi
  split
  · exact ⟨hp, Nat.le_refl _⟩
  · rename_i z hz
    have hin := (Pp.isNode_iff h.right n).1 (by simpa using hi)
    have hm := h.props _ (getK_mem hz)
    have h2 : Pp.Ok { p with props := putK k ⟨z.val, z.acc ||| 2 ^ n.toNat⟩ p.props } := h.putp ⟨hm.1, hm.2.1⟩ ⟨or_lt hm.2.2.1 hin.2, hm.2.2.2⟩
    have hab := above_le (putK k ⟨z.val, z.acc ||| 2 ^ n.toNat⟩ p.props) p.pre
    obtain ⟨c1, c2, c3⟩ := Pp.climb_spec h2 ((putK k ⟨z.val, z.acc ||| 2 ^ n.toNat⟩ p.props).length + 1) p.pre (Nat.lt_succ_of_le hab)
    refine ⟨⟨fun s h3 h4 => ?_, c2⟩, c1⟩
    by_cases h5 : s ≤ p.pre
    · exact Pp.isChosen_acc h hz n.toNat s (hp.all s h3 h5)
    · exact c3 s (by show p.pre < s; omega) h4
end Go.Proofs.Ythkkkldkpdkabaa
