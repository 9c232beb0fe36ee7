/- Of the proofs of layer 4, merged: SynZ4. -/
import Derived.Test.YtjapmolmgfaocaaM1SynZ3

/- Layer 11, plain: a round, letters 3 and 4. -/
namespace Go.Proofs.Ytjapmolmgfaocaa

section
variable {r : Ro} {o : Nat} {b : Bl} {r0 : Ro} {x : Gh} {L : List UInt8 → Prop} {m : Ml} {l : List Ml}
theorem Cov.take3 (hc : Cov r0 o b) (hrow : r0.row = m :: l) (hk : m.kind = 3) : Cov (r0.take 0).2 o b := by
  obtain ⟨g1, g2⟩ := hc.rnd.take (by rw [hrow]; intro e; cases e)
  obtain ⟨e1, e2⟩ := take_head hrow
  obtain ⟨hmb, hkk⟩ := hc.rnd.row m (by rw [hrow]; exact List.mem_cons_self ..)
  have hlen : l.length < 200 := by
    have h1 := sumW_len r0.row
    have h2 := hc.low
    unfold mu at h2
    rw [hrow, List.length_cons] at h1
    rw [hrow] at h2
    omega
  have hp := promise_top (hc.top m.dst)
  rw [← hmb] at hp
  have hpb := promise_pb (r0.node m.dst) m.bal
  have hps := Nd.promise_same (r0.node m.dst) m.bal
  obtain ⟨n3, hn3⟩ : ∃ n3 : Nd, n3 = { ((r0.node m.dst).promise m.bal).2 with vote := m.votes.headD Vt.none_ } := ⟨_, rfl⟩
  have k1 : n3.pro = (r0.node m.dst).pro := by rw [hn3]; exact hpb.1
  have k2 : n3.bal = (r0.node m.dst).bal := by rw [hn3]; exact hpb.2
  have k3 : n3.knows = (r0.node m.dst).knows := by rw [hn3]; exact hps.2.2.2.2.1
  have k4 : n3.prom = m.bal := by rw [hn3]; exact hp.2
  have ea : (r0.take 0).2 = ((r0.cut 0).setN m.dst n3).send ⟨4, m.dst, m.frm, m.bal, []⟩ := by
    rw [e1, hn3]
    unfold Ro.arrive
    rw [if_neg (by omega), if_neg (by omega), if_pos hk]
    exact if_pos hp.1
  have er : (r0.take 0).2.row = l ++ [⟨4, m.dst, m.frm, m.bal, []⟩] := by
    rw [ea, send_row]
    · exact congrArg (· ++ _) e2
    · show (r0.cut 0).row.length < 200
      rw [e2]; exact hlen
  have en : (r0.take 0).2.node = ((r0.cut 0).setN m.dst n3).node := by rw [ea, Ro.send_node]
  have el : (r0.take 0).2.nodes.length = r0.nodes.length := by rw [ea, send_len, setN_len]; rfl
  have hsub : ∀ u ∈ l, u ∈ (r0.take 0).2.row := fun u hu => by rw [er]; exact List.mem_append.2 (.inl hu)
  have hnew : (⟨4, m.dst, m.frm, m.bal, []⟩ : Ml) ∈ (r0.take 0).2.row := by rw [er]; exact List.mem_append.2 (.inr (List.mem_singleton.2 rfl))
  obtain ⟨p, hpp, hcp⟩ := hc.pro
  have hpo := (setN_pro (r := r0.cut 0) (i := m.dst) (n := n3) k1 k2 o).1
  refine ⟨g1, by have := hc.low; omega, fun j => by rw [en]; exact top_set (r := r0.cut 0) hc.top (by rw [k4, hmb]; exact Bl.le_refl _) j, p, by rw [en, hpo]; exact hpp, fun hr => ⟨(hcp.nr hr).1, fun i hi => ?_⟩, fun hr u hu hu2 v hv => ?_, fun hr => ?_⟩
  · rw [el] at hi
    rcases (hcp.nr hr).2 i hi with h | h | h
    · rw [hrow] at h
      rcases split_row h hsub with h | h
      · omega
      · exact .inl h
    · rw [hrow] at h
      rcases split_row h hsub with h | h
      · omega
      · exact .inr (.inl h)
    · exact .inr (.inr h)
  · rw [er] at hu
    rcases List.mem_append.1 hu with hu | hu
    · exact hcp.ls hr u (by rw [hrow]; exact List.mem_cons_of_mem _ hu) hu2 v hv
    · rw [List.mem_singleton.1 hu] at hu2
      cases hu2
  · obtain ⟨z, z1, z2, z3⟩ := hcp.rd hr
    refine ⟨z, z1, fun i hi => ?_, fun e => by rw [en, knows_set (r := r0.cut 0) k3]; exact z3 e⟩
    rw [el] at hi
    rcases z2 i hi with h | h | h
    · rw [hrow] at h
      rcases split_row h hsub with h | h
      · exact .inr (.inl ⟨_, hnew, rfl, h.2⟩)
      · exact .inl h
    · rw [hrow] at h
      rcases split_row h hsub with h | h
      · omega
      · exact .inr (.inl h)
    · exact .inr (.inr h)
theorem Cov.take4 (hc : Cov r0 o b) (hpi : PI r0 x L) (hrow : r0.row = m :: l) (hk : m.kind = 4) : Cov (r0.take 0).2 o b := by
  obtain ⟨g1, g2⟩ := hc.rnd.take (by rw [hrow]; intro e; cases e)
  obtain ⟨e1, e2⟩ := take_head hrow
  have hmo := hpi.ok.row m (by rw [hrow]; exact List.mem_cons_self ..)
  obtain ⟨hmb, hkk⟩ := hc.rnd.row m (by rw [hrow]; exact List.mem_cons_self ..)
  have hdo : m.dst = o := by rcases hkk with h | h | h | h <;> first | exact h.2 | omega
  have ea : (r0.take 0).2 = (r0.cut 0).setN m.dst ((r0.node m.dst).count m) := by
    rw [e1]
    unfold Ro.arrive
    rw [if_neg (by omega), if_neg (by omega), if_neg (by omega), if_pos hk]
    rfl
  have er : (r0.take 0).2.row = l := by rw [ea]; exact e2
  have el : (r0.take 0).2.nodes.length = r0.nodes.length := by rw [ea, setN_len]; rfl
  have hsub : ∀ u ∈ l, u ∈ (r0.take 0).2.row := fun u hu => by rw [er]; exact hu
  obtain ⟨p, hpp, hcp⟩ := hc.pro
  have hno := Ro.node_set (r0.cut 0) ((r0.node m.dst).count m) (i := m.dst) (by rw [hdo]; exact hc.rnd.oi)
  have hnoo : (r0.take 0).2.node o = (r0.node o).count m := by rw [ea, hno, if_pos hdo.symm, hdo]
  have hcp4 := Low.count_ (r0.node m.dst) m
  have htop : ∀ j, Bl.le ((r0.take 0).2.node j).prom b := fun j => by rw [ea]; exact top_set (r := r0.cut 0) hc.top (by rw [hcp4.2]; exact hc.top _) j
  have hpq : p.q = r0.q := ((hpi.ok.nodes _ (Ro.node_mem hc.rnd.oi)).pro p hpp).2.1
  have hpok := ((hpi.ok.nodes _ (Ro.node_mem hc.rnd.oi)).pro p hpp).1
  have hbe : Bl.eqB (r0.node o).bal m.bal = true := by rw [hc.rnd.bal, hmb]; unfold Bl.eqB; simp
  have hisn : p.isNode (m.frm : Int) = true := by
    have := (p.q.n_le hpok.right).2.2
    have h2 := hmo.frm
    rw [← hpq] at h2
    unfold Pp.isNode
    rw [decide_eq_true (by omega), decide_eq_true (by omega)]
    rfl
  have hcount : (r0.node o).count m = (match (p.accepted m.frm 1).2.chosen 1 with
      | none => { (r0.node o) with pro := some (p.accepted m.frm 1).2 }
      | some v => { (r0.node o) with pro := some (p.accepted m.frm 1).2, learned := v, knows := true }) := by
    unfold Nd.count
    rw [hpp]
    dsimp only
    rw [if_neg (by rw [hbe]; decide)]
    cases (p.accepted (m.frm : Int) 1).2.chosen 1 <;> rfl
  have hpro : ((r0.node o).count m).pro = some (p.accepted m.frm 1).2 := by
    rw [hcount]
    split <;> rfl
  have hready := accepted_ready p (m.frm : Int) 1
  refine ⟨g1, by have := hc.low; omega, htop, (p.accepted m.frm 1).2, by rw [hnoo]; exact hpro, fun hr => ?_, fun hr u hu hu2 v hv => ?_, fun hr => ?_⟩
  · rw [hready] at hr
    have hnr := hcp.nr hr
    have hacc : (p.accepted m.frm 1).2 = p := by
      unfold Pp.accepted
      rw [if_neg (by rw [hisn]; decide), hnr.1]
      rfl
    rw [hacc]
    refine ⟨hnr.1, fun i hi => ?_⟩
    rw [el] at hi
    rcases hnr.2 i hi with h | h | h
    · rw [hrow] at h
      rcases split_row h hsub with h | h
      · omega
      · exact .inl h
    · rw [hrow] at h
      rcases split_row h hsub with h | h
      · omega
      · exact .inr (.inl h)
    · exact .inr (.inr h)
  · rw [hready] at hr
    rw [er] at hu
    exact hcp.ls hr u (by rw [hrow]; exact List.mem_cons_of_mem _ hu) hu2 v hv
  · rw [hready] at hr
    obtain ⟨z, z1, z2, z3⟩ := hcp.rd hr
    have hq : (p.accepted m.frm 1).2.q = p.q ∧ getK (p.accepted m.frm 1).2.props 1 = some ⟨z.val, z.acc ||| 2 ^ m.frm⟩ := by
      unfold Pp.accepted
      rw [if_neg (by rw [hisn]; decide), z1]
      refine ⟨rfl, ?_⟩
      dsimp only
      rw [getK_put, if_pos rfl]
      rfl
    refine ⟨_, hq.2, fun i hi => ?_, fun e => ?_⟩
    · rw [el] at hi
      have hbit : z.acc.testBit i = true → (z.acc ||| 2 ^ m.frm).testBit i = true := fun e => by rw [Nat.testBit_or, e]; rfl
      rcases z2 i hi with h | h | h
      · rw [hrow] at h
        rcases split_row h hsub with h | h
        · omega
        · exact .inl h
      · rw [hrow] at h
        rcases split_row h hsub with h | h
        · refine .inr (.inr ?_)
          show (z.acc ||| 2 ^ m.frm).testBit i = true
          rw [Nat.testBit_or, h.2, Nat.testBit_two_pow_self, Bool.or_true]
        · exact .inr (.inl h)
      · exact .inr (.inr (hbit h))
    · rw [hnoo, hcount]
      have hch : (p.accepted m.frm 1).2.chosen 1 = some z.val := by
        unfold Pp.chosen
        rw [hq.2]
        dsimp only
        exact if_pos e
      rw [hch]
end
end Go.Proofs.Ytjapmolmgfaocaa
