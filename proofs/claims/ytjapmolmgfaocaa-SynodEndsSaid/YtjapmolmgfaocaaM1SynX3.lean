/- Of the proofs of layer 4, merged: SynX3. -/
import Derived.Test.YtjapmolmgfaocaaM1SynX2
import Derived.Test.YtjapmolmgfaocaaM1SynPy

/- Layer 11, plain: acts as the laws play them. -/
namespace Go.Proofs.Ytjapmolmgfaocaa

section
variable {r : Ro} {x : Gh} {L : List UInt8 → Prop}
theorem PI.takes (h : PI r x L) : ∀ k, ∃ x', PI (r.takes k) x' L ∧ x.Ext x'
  | 0 => ⟨x, h, Gh.Ext.refl x⟩
  | k + 1 => by
    obtain ⟨x1, h1, e1⟩ := PI.takes h k
    obtain ⟨x2, h2, e2⟩ := h1.take 0
    exact ⟨x2, h2, e1.trans e2⟩
theorem Ro.has_at {r : Ro} {n : Nat} (hn : n = r.nodes.length) (h1 : 0 < n) (a : Int) : r.has (atN a n : Int) = true := by
  have := atN_lt a h1
  exact Ro.has_iff.2 ⟨by omega, by omega⟩
theorem PI.play (h : PI r x L) (kd a : Int) (v : List UInt8) (n : Nat) : ∃ x', PI (r.play kd a v n) x' (fun u => L u ∨ (kd = 0 ∧ u = v ∧ v.length ≤ 100)) ∧ x.Ext x' := by
  have mono : ∀ r' x', PI r' x' L → PI r' x' (fun u => L u ∨ (kd = 0 ∧ u = v ∧ v.length ≤ 100)) := fun r' x' hp => hp.monoL fun u e => .inl e
  unfold Ro.play
  split
  · rename_i hk
    exact ⟨x, (h.start _ v).monoL fun u e => by
      rcases e with e | ⟨e1, e2, _⟩
      · exact .inl e
      · exact .inr ⟨hk, e1, e2⟩, Gh.Ext.refl x⟩
  split
  · obtain ⟨x', h1, h2⟩ := h.take (atN a r.row.length : Int)
    exact ⟨x', mono _ _ h1, h2⟩
  split
  · exact ⟨x, mono _ _ (h.drop _), Gh.Ext.refl x⟩
  split
  · exact ⟨x, mono _ _ (h.twice _), Gh.Ext.refl x⟩
  split
  · exact ⟨x, mono _ _ (h.crash _), Gh.Ext.refl x⟩
  · obtain ⟨x', h1, h2⟩ := h.takes 60
    exact ⟨x', mono _ _ h1, h2⟩
theorem Ro.takes_grow (r : Ro) : ∀ k, Grow r (r.takes k)
  | 0 => Grow.refl r
  | k + 1 => (Ro.takes_grow r k).trans (Ro.take_grow _ 0)
theorem Ro.play_grow (r : Ro) (kd a : Int) (v : List UInt8) (n : Nat) : Grow r (r.play kd a v n) := by
  unfold Ro.play
  split
  · exact Ro.start_grow r _ v
  split
  · exact Ro.take_grow r _
  split
  · exact Ro.drop_grow r _
  split
  · exact Ro.twice_grow r _
  split
  · exact Ro.crash_grow r _
  · exact Ro.takes_grow r 60
end
/-! ### what was learned stays -/
def KnK (r r' : Ro) (except : Option Nat) : Prop := ∀ i, except ≠ some i → (r.node i).knows = true → (r'.node i).knows = true
theorem KnK.refl (r : Ro) (e : Option Nat) : KnK r r e := fun _ _ h => h
theorem KnK.trans {a b c : Ro} {e : Option Nat} (h : KnK a b e) (k : KnK b c e) : KnK a c e := fun i hi hk => k i hi (h i hi hk)
theorem KnK.of_node {r r' : Ro} (h : r'.node = r.node) (e : Option Nat) : KnK r r' e := fun i _ hk => by rw [h]; exact hk
theorem KnK.setN {r : Ro} {i : Nat} {n : Nd} (e : Option Nat) (h : e = some i ∨ ((r.node i).knows = true → n.knows = true)) : KnK r (r.setN i n) e := fun j hj hk => by
  by_cases hi : i < r.nodes.length
  · rw [Ro.node_set r n hi]
    split
    · rename_i e1
      rw [e1] at hj hk
      rcases h with h | h
      · exact absurd h hj
      · exact h hk
    · exact hk
  · have : r.setN i n = r := by unfold Ro.setN; rw [List.set_eq_of_length_le (by omega)]
    rw [this]; exact hk
theorem Ro.arrive_knows (r : Ro) (m : Ml) : KnK r (r.arrive m) none := by
  have hp := (Nd.promise_same (r.node m.dst) m.bal).2.2.2.2.1
  have h1 : KnK r (r.setN m.dst ((r.node m.dst).promise m.bal).2) none := KnK.setN none (.inr fun e => by rw [hp]; exact e)
  unfold Ro.arrive
  split
  · split
    · exact h1.trans (KnK.of_node (Ro.send_node _ _) none)
    · exact h1
  split
  · have hg : KnK r (r.setN m.dst ((r.node m.dst).gather m).2) none := KnK.setN none (.inr fun e => by rw [(Nd.gather_prom (r.node m.dst) m).2]; exact e)
    split
    · exact hg.trans (KnK.of_node (Ro.sends_node _ _ _ _ _ _) none)
    · exact hg
  split
  · split
    · exact KnK.trans (b := r.setN m.dst { ((r.node m.dst).promise m.bal).2 with vote := m.votes.headD Vt.none_ }) (KnK.setN none (.inr fun e => by show ((r.node m.dst).promise m.bal).2.knows = true; rw [hp]; exact e)) (KnK.of_node (Ro.send_node _ _) none)
    · exact h1
  split
  · exact KnK.setN none (.inr (Nd.count_prom (r.node m.dst) m).2)
  · exact KnK.refl r none
theorem Ro.take_knows (r : Ro) (a : Int) : KnK r (r.take a).2 none := by
  unfold Ro.take
  split
  · exact (KnK.of_node (r := r) (r' := r.cut a.toNat) rfl none).trans (Ro.arrive_knows _ _)
  · exact KnK.refl r none
theorem Ro.takes_knows (r : Ro) : ∀ k, KnK r (r.takes k) none
  | 0 => KnK.refl r none
  | k + 1 => (Ro.takes_knows r k).trans (Ro.take_knows _ 0)
theorem Ro.play_knows (r : Ro) (kd a : Int) (v : List UInt8) (n : Nat) (i : Nat) (hi : kd = 7 → i ≠ atN a n) (hk : (r.node i).knows = true) : ((r.play kd a v n).node i).knows = true := by
  unfold Ro.play
  split
  · unfold Ro.start
    split
    · exact hk
    split
    · exact hk
    split
    · exact hk
    · exact ((KnK.setN (r := r) (i := ((atN a n : Nat) : Int).toNat) (n := (r.node ((atN a n : Nat) : Int).toNat).start r.q ⟨(r.node ((atN a n : Nat) : Int).toNat).seen + 1, ((atN a n : Nat) : Int)⟩ v) none (.inr fun e => e)).trans (KnK.of_node (Ro.sends_node _ _ _ _ _ _) none)) i (by intro e; cases e) hk
  split
  · exact Ro.take_knows r _ i (by intro e; cases e) hk
  split
  · unfold Ro.drop
    split
    · exact hk
    · exact hk
  split
  · unfold Ro.twice
    split
    · split
      · exact hk
      · exact KnK.of_node (Ro.send_node _ _) none i (by intro e; cases e) hk
    · exact hk
  split
  · rename_i h7
    unfold Ro.crash
    split
    · refine KnK.setN (some (atN a n)) (.inl ?_) i (fun e => ?_) hk
      · rw [Int.toNat_natCast]
      · injection e with e
        exact hi h7 e.symm
    · exact hk
  · exact Ro.takes_knows r 60 i (by intro e; cases e) hk
end Go.Proofs.Ytjapmolmgfaocaa
