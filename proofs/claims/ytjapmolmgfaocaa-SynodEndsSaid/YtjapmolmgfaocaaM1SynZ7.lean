/- Of the proofs of layer 4, merged: SynZ7. -/
import Derived.Test.YtjapmolmgfaocaaM1SynZ6

/- Layer 11, plain: rounds. -/
namespace Go.Proofs.Ytjapmolmgfaocaa

section
variable {r : Ro} {o : Nat} {b : Bl} {M : Nat} {x : Gh} {L : List UInt8 → Prop}
/-- What an arrival does to what is promised and seen. -/
theorem arrive_seen (r : Ro) (m : Ml) (i : Nat) : (r.node i).seen ≤ ((r.arrive m).node i).seen ∧ (((r.arrive m).node i).prom = (r.node i).prom ∨ ((r.arrive m).node i).prom = m.bal) := by
  have hset : ∀ (j : Nat) (n : Nd), (r.node j).seen ≤ n.seen → (n.prom = (r.node j).prom ∨ n.prom = m.bal) → (r.node i).seen ≤ ((r.setN j n).node i).seen ∧ (((r.setN j n).node i).prom = (r.node i).prom ∨ ((r.setN j n).node i).prom = m.bal) := fun j n h1 h2 => by
    by_cases hj : j < r.nodes.length
    · rw [Ro.node_set r n hj]
      split
      · rename_i e; rw [e]; exact ⟨h1, h2⟩
      · exact ⟨Nat.le_refl _, .inl rfl⟩
    · have : r.setN j n = r := by unfold Ro.setN; rw [List.set_eq_of_length_le (by omega)]
      rw [this]; exact ⟨Nat.le_refl _, .inl rfl⟩
  have hp : (r.node m.dst).seen ≤ ((r.node m.dst).promise m.bal).2.seen ∧ (((r.node m.dst).promise m.bal).2.prom = (r.node m.dst).prom ∨ ((r.node m.dst).promise m.bal).2.prom = m.bal) := by
    unfold Nd.promise
    split
    · exact ⟨Nat.le_max_left _ _, .inl rfl⟩
    · exact ⟨Nat.le_max_left _ _, .inr rfl⟩
  have hg := Low.gather_ (r.node m.dst) m
  have hc := Low.count_ (r.node m.dst) m
  unfold Ro.arrive
  split
  · split
    · rw [Ro.send_node]; exact hset _ _ hp.1 hp.2
    · exact hset _ _ hp.1 hp.2
  split
  · split
    · rw [Ro.sends_node]; exact hset _ _ (Nat.le_of_eq hg.1.symm) (.inl hg.2)
    · exact hset _ _ (Nat.le_of_eq hg.1.symm) (.inl hg.2)
  split
  · split
    · rw [Ro.send_node]; exact hset _ { ((r.node m.dst).promise m.bal).2 with vote := m.votes.headD Vt.none_ } hp.1 hp.2
    · exact hset _ _ hp.1 hp.2
  split
  · exact hset _ _ (Nat.le_of_eq hc.1.symm) (.inl hc.2)
  · exact ⟨Nat.le_refl _, .inl rfl⟩
/-- Letters 1 that are under way stay but for the one that is taken; who it came to has seen its ballot. -/
theorem arrive_ones (r : Ro) (m : Ml) : (∀ u ∈ r.row, u ∈ (r.arrive m).row) ∧ (m.kind = 1 → m.dst < r.nodes.length → m.bal.n ≤ ((r.arrive m).node m.dst).seen) ∧ (r.arrive m).nodes.length = r.nodes.length := by
  have hsend : ∀ (q : Ro) (u : Ml), ∀ w ∈ q.row, w ∈ (q.send u).row := fun q u w hw => by
    unfold Ro.send
    split
    · exact hw
    · exact List.mem_append.2 (.inl hw)
  have hsends : ∀ (q : Ro) (f kd : Nat) (b : Bl) (vs : List Vt) (k : Nat), ∀ w ∈ q.row, w ∈ (q.sends k f kd b vs).row := fun q f kd b vs k => by
    induction k with
    | zero => exact fun w hw => hw
    | succ k ih => exact fun w hw => hsend _ _ w (ih w hw)
  have hps : m.bal.n ≤ ((r.node m.dst).promise m.bal).2.seen := by
    unfold Nd.promise
    split
    · exact Nat.le_max_right _ _
    · exact Nat.le_max_right _ _
  unfold Ro.arrive
  split
  · split
    · refine ⟨fun u hu => hsend _ _ u hu, fun _ hd => ?_, by rw [send_len, setN_len]⟩
      rw [Ro.send_node, Ro.node_set r _ hd, if_pos rfl]
      exact hps
    · refine ⟨fun u hu => hu, fun _ hd => ?_, by rw [setN_len]⟩
      rw [Ro.node_set r _ hd, if_pos rfl]
      exact hps
  · rename_i hk
    split
    · split
      · exact ⟨fun u hu => hsends _ _ _ _ _ _ u hu, fun e => absurd e hk, by rw [sends_len, setN_len]⟩
      · exact ⟨fun u hu => hu, fun e => absurd e hk, by rw [setN_len]⟩
    split
    · split
      · exact ⟨fun u hu => hsend _ _ u hu, fun e => absurd e hk, by rw [send_len, setN_len]⟩
      · exact ⟨fun u hu => hu, fun e => absurd e hk, by rw [setN_len]⟩
    split
    · exact ⟨fun u hu => hu, fun e => absurd e hk, by rw [setN_len]⟩
    · exact ⟨fun u hu => hu, fun e => absurd e hk, rfl⟩
theorem Rd2.take (h : Rd2 r o b M) (hr : r.row ≠ []) : Rd2 (r.take 0).2 o b M ∧ mu (r.take 0).2 o + 1 ≤ mu r o := by
  obtain ⟨m, l, hml⟩ : ∃ m l, r.row = m :: l := by
    cases e : r.row with
    | nil => exact absurd e hr
    | cons m l => exact ⟨m, l, rfl⟩
  obtain ⟨e1, e2⟩ := take_head hml
  obtain ⟨g1, g2⟩ := h.rnd.take hr
  have hmb := (h.rnd.row m (by rw [hml]; exact List.mem_cons_self ..)).1
  obtain ⟨a1, a2, a3⟩ := arrive_ones (r.cut 0) m
  refine ⟨⟨g1, fun i => ?_, ?_, fun i hi => ?_⟩, g2⟩
  · rw [e1]
    rcases (arrive_seen (r.cut 0) m i).2 with e | e
    · rw [e]; exact h.cap i
    · rw [e, hmb]; exact Nat.le_max_right _ _
  · rw [e1]
    exact Nat.le_trans h.own (arrive_seen (r.cut 0) m o).1
  · rw [e1, a3] at hi
    rw [e1]
    rcases h.one i hi with ⟨u, hu, hk⟩ | hs
    · rw [hml] at hu
      rcases List.mem_cons.1 hu with rfl | hu
      · refine .inr ?_
        have := a2 hk.1 (by rw [hk.2]; exact hi)
        rw [hmb, hk.2] at this
        exact this
      · exact .inl ⟨u, a1 u (by rw [e2]; exact hu), hk⟩
    · exact .inr (Nat.le_trans hs (arrive_seen (r.cut 0) m i).1)
theorem take_nil (h : r.row = []) : (r.take 0).2 = r := by
  unfold Ro.take
  rw [if_neg]
  intro e
  have := (Ro.is_iff.1 e).2
  rw [h] at this
  exact absurd this (by simp)
/-- A round, as far as it went. -/
structure Rd3 (r : Ro) (o : Nat) (b : Bl) (M : Nat) (top : Bool) (L : List UInt8 → Prop) (x0 : Gh) (k : Nat) : Prop where
  rd : Rd2 r o b M
  mu : r.row = [] ∨ mu r o + k ≤ 48
  pi : ∃ x, PI r x L ∧ x0.Ext x
  cov : top = true → Cov r o b
theorem Rd3.take {top : Bool} {x0 : Gh} {k : Nat} (h : Rd3 r o b M top L x0 k) : Rd3 (r.take 0).2 o b M top L x0 (k + 1) := by
  by_cases hr : r.row = []
  · rw [take_nil hr]
    exact ⟨h.rd, .inl hr, h.pi, h.cov⟩
  · obtain ⟨g1, g2⟩ := h.rd.take hr
    obtain ⟨x, hp, he⟩ := h.pi
    obtain ⟨x', hp', he'⟩ := hp.take 0
    exact ⟨g1, .inr (by rcases h.mu with e | e
                        · exact absurd e hr
                        · omega), ⟨x', hp', he.trans he'⟩, fun e => (h.cov e).take hp hr⟩
/-- Its end. -/
theorem Rd3.end_ {top : Bool} {x0 : Gh} {k : Nat} (h : Rd3 r o b M top L x0 k) (hk : 48 < k ∨ r.row = []) : r.row = [] ∧ (top = true → (r.node o).knows = true) ∧ (∀ i, i < r.nodes.length → b.n ≤ (r.node i).seen) := by
  have hr : r.row = [] := by
    rcases hk with e | e
    · rcases h.mu with e2 | e2
      · exact e2
      · omega
    · exact e
  obtain ⟨x, hp, _⟩ := h.pi
  refine ⟨hr, fun e => (h.cov e).end_ hp hr, fun i hi => ?_⟩
  rcases h.rd.one i hi with ⟨m, hm, _⟩ | hs
  · rw [hr] at hm; cases hm
  · exact hs
end
end Go.Proofs.Ytjapmolmgfaocaa
