/- Of the proofs of layer 4, merged: SynZ3. -/
import Derived.Test.YtjapmolmgfaocaaM1SynZ2

/- Layer 11, plain: a round whose ballot is above all that was promised: at its end the starter knows. -/
namespace Go.Proofs.Ytjapmolmgfaocaa

structure CovP (r : Ro) (o : Nat) (b : Bl) (p : Pp) : Prop where
  nr : p.ready = false → p.props = [] ∧ ∀ i, i < r.nodes.length → (∃ m ∈ r.row, m.kind = 1 ∧ m.dst = i) ∨ (∃ m ∈ r.row, m.kind = 2 ∧ m.frm = i) ∨ p.prom.testBit i = true
  ls : p.ready = false → ∀ m ∈ r.row, m.kind = 2 → ∀ v ∈ m.votes, Bl.less v.bal b = true
  rd : p.ready = true → ∃ z, getK p.props 1 = some z ∧ (∀ i, i < r.nodes.length → (∃ m ∈ r.row, m.kind = 3 ∧ m.dst = i) ∨ (∃ m ∈ r.row, m.kind = 4 ∧ m.frm = i) ∨ z.acc.testBit i = true) ∧ (p.q.isQ true z.acc = true → (r.node o).knows = true)
structure Cov (r : Ro) (o : Nat) (b : Bl) : Prop where
  rnd : Rnd r o b
  low : mu r o ≤ 48
  top : ∀ i, Bl.le (r.node i).prom b
  pro : ∃ p, (r.node o).pro = some p ∧ CovP r o b p
section
variable {r : Ro} {o : Nat} {b : Bl}
theorem send_row {r : Ro} (u : Ml) (h : r.row.length < 200) : (r.send u).row = r.row ++ [u] := by unfold Ro.send; rw [if_neg (by omega)]
theorem sends_has {r : Ro} {f kd : Nat} {b : Bl} {vs : List Vt} : ∀ k, r.row.length + k ≤ 200 → (r.sends k f kd b vs).row.length = r.row.length + k ∧ (∀ u ∈ r.row, u ∈ (r.sends k f kd b vs).row) ∧ ∀ j, j < k → (⟨kd, f, j, b, vs⟩ : Ml) ∈ (r.sends k f kd b vs).row
  | 0, _ => ⟨rfl, fun _ h => h, fun j h => absurd h (Nat.not_lt_zero j)⟩
  | k + 1, h => by
    obtain ⟨h1, h2, h3⟩ := sends_has (r := r) (f := f) (kd := kd) (b := b) (vs := vs) k (by omega)
    have e : (r.sends (k + 1) f kd b vs).row = (r.sends k f kd b vs).row ++ [⟨kd, f, k, b, vs⟩] := send_row _ (by omega)
    rw [e]
    refine ⟨by rw [List.length_append, h1]; rfl, fun u hu => List.mem_append.2 (.inl (h2 u hu)), fun j hj => ?_⟩
    by_cases hk : j = k
    · subst hk
      exact List.mem_append.2 (.inr (List.mem_singleton.2 rfl))
    · exact List.mem_append.2 (.inl (h3 j (by omega)))
theorem promise_top {n : Nd} {b : Bl} (h : Bl.le n.prom b) : (n.promise b).1 = true ∧ (n.promise b).2.prom = b := by
  unfold Nd.promise
  have h' : Bl.less b n.prom = false := h
  rw [h']
  exact ⟨rfl, rfl⟩
theorem top_set {i : Nat} {n : Nd} (h : ∀ j, Bl.le (r.node j).prom b) (hn : Bl.le n.prom b) : ∀ j, Bl.le ((r.setN i n).node j).prom b := fun j => by
  by_cases hi : i < r.nodes.length
  · rw [Ro.node_set r n hi]
    split
    · exact hn
    · exact h j
  · have : r.setN i n = r := by unfold Ro.setN; rw [List.set_eq_of_length_le (by omega)]
    rw [this]; exact h j
theorem knows_set {i : Nat} {n : Nd} (hn : n.knows = (r.node i).knows) (o : Nat) : ((r.setN i n).node o).knows = (r.node o).knows := by
  by_cases hi : i < r.nodes.length
  · rw [Ro.node_set r n hi]
    split
    · rename_i e; rw [e]; exact hn
    · rfl
  · have : r.setN i n = r := by unfold Ro.setN; rw [List.set_eq_of_length_le (by omega)]
    rw [this]
/-- One of the letters: the first, or one behind it. -/
theorem split_row {m : Ml} {l l' : List Ml} {P : Ml → Prop} (h : ∃ u ∈ m :: l, P u) (hl : ∀ u ∈ l, u ∈ l') : P m ∨ ∃ u ∈ l', P u := by
  obtain ⟨u, hu, hp⟩ := h
  rcases List.mem_cons.1 hu with rfl | hu
  · exact .inl hp
  · exact .inr ⟨u, hl u hu, hp⟩
theorem less_of {a b : Bl} (h : Bl.le a b) (hn : a ≠ b) : Bl.less a b = true := by
  rcases Bl.le_total b a with h1 | h1
  · exact absurd (Bl.le_antisymm h h1) hn
  · exact h1
section
variable {r0 : Ro} {x : Gh} {L : List UInt8 → Prop} {m : Ml} {l : List Ml}
theorem Cov.take1 (hc : Cov r0 o b) (hpi : PI r0 x L) (hrow : r0.row = m :: l) (hk : m.kind = 1) : Cov (r0.take 0).2 o b := by
  obtain ⟨g1, g2⟩ := hc.rnd.take (by rw [hrow]; intro e; cases e)
  obtain ⟨e1, e2⟩ := take_head hrow
  have hmo := hpi.ok.row m (by rw [hrow]; exact List.mem_cons_self ..)
  obtain ⟨hmb, hkk⟩ := hc.rnd.row m (by rw [hrow]; exact List.mem_cons_self ..)
  have hfo : m.frm = o := by rcases hkk with h | h | h | h <;> first | exact h.2 | omega
  have hlen : l.length < 200 := by
    have h1 := sumW_len r0.row
    have h2 := hc.low
    unfold mu at h2
    rw [hrow, List.length_cons] at h1
    rw [hrow] at h2
    omega
  have hp := promise_top (hc.top m.dst)
  rw [← hmb] at hp
  have hpb := promise_pb (r0.node m.dst) m.bal
  have hps := Nd.promise_same (r0.node m.dst) m.bal
  have ea : (r0.take 0).2 = ((r0.cut 0).setN m.dst ((r0.node m.dst).promise m.bal).2).send ⟨2, m.dst, m.frm, m.bal, ((r0.node m.dst).promise m.bal).2.votes⟩ := by
    rw [e1]
    unfold Ro.arrive
    rw [if_pos hk]
    exact if_pos hp.1
  have er : (r0.take 0).2.row = l ++ [⟨2, m.dst, m.frm, m.bal, ((r0.node m.dst).promise m.bal).2.votes⟩] := by
    rw [ea, send_row]
    · exact congrArg (· ++ _) e2
    · show (r0.cut 0).row.length < 200
      rw [e2]; exact hlen
  have en : (r0.take 0).2.node = ((r0.cut 0).setN m.dst ((r0.node m.dst).promise m.bal).2).node := by rw [ea, Ro.send_node]
  have el : (r0.take 0).2.nodes.length = r0.nodes.length := by rw [ea, send_len, setN_len]; rfl
  have hsub : ∀ u ∈ l, u ∈ (r0.take 0).2.row := fun u hu => by rw [er]; exact List.mem_append.2 (.inl hu)
  have hnew : (⟨2, m.dst, m.frm, m.bal, ((r0.node m.dst).promise m.bal).2.votes⟩ : Ml) ∈ (r0.take 0).2.row := by rw [er]; exact List.mem_append.2 (.inr (List.mem_singleton.2 rfl))
  obtain ⟨p, hpp, hcp⟩ := hc.pro
  have hpo := (setN_pro (r := r0.cut 0) (i := m.dst) (n := ((r0.node m.dst).promise m.bal).2) hpb.1 hpb.2 o).1
  refine ⟨g1, by have := hc.low; omega, fun j => by rw [en]; exact top_set (r := r0.cut 0) hc.top (by rw [hp.2, hmb]; exact Bl.le_refl _) j, p, by rw [en, hpo]; exact hpp, fun hr => ⟨(hcp.nr hr).1, fun i hi => ?_⟩, fun hr u hu hu2 v hv => ?_, fun hr => ?_⟩
  · rw [el] at hi
    rcases (hcp.nr hr).2 i hi with h | h | h
    · rw [hrow] at h
      rcases split_row h hsub with h | h
      · exact .inr (.inl ⟨_, hnew, rfl, h.2⟩)
      · exact .inl h
    · rw [hrow] at h
      rcases split_row h hsub with h | h
      · omega
      · exact .inr (.inl h)
    · exact .inr (.inr h)
  · rw [er] at hu
    rcases List.mem_append.1 hu with hu | hu
    · exact hcp.ls hr u (by rw [hrow]; exact List.mem_cons_of_mem _ hu) hu2 v hv
    · rw [List.mem_singleton.1 hu] at hv
      unfold Nd.votes at hv
      dsimp only at hv
      rw [hps.1] at hv
      split at hv
      · rename_i h1
        rw [List.mem_singleton.1 hv]
        obtain ⟨q1, q2, q3⟩ := hpi.vot m.dst h1
        refine less_of (Bl.le_trans q3 (hc.top _)) fun e => ?_
        have hq := hpi.pro o p hpp
        have hb : p.bal = b := by
          have h2 := ((hpi.ok.nodes _ (Ro.node_mem hc.rnd.oi)).pro p hpp).2.2.1
          rw [h2]; exact hc.rnd.bal
        have h3 := hq.none_ (hcp.nr hr).1
        rw [hb, ← e, q1] at h3
        cases h3
      · cases hv
  · obtain ⟨z, z1, z2, z3⟩ := hcp.rd hr
    refine ⟨z, z1, fun i hi => ?_, fun e => by rw [en, knows_set (r := r0.cut 0) hps.2.2.2.2.1]; exact z3 e⟩
    rw [el] at hi
    rcases z2 i hi with h | h | h
    · rw [hrow] at h
      rcases split_row h hsub with h | h
      · omega
      · exact .inl h
    · rw [hrow] at h
      rcases split_row h hsub with h | h
      · omega
      · exact .inr (.inl h)
    · exact .inr (.inr h)
end
end
end Go.Proofs.Ytjapmolmgfaocaa
