/- Of the proofs of layer 4, merged: SynZ5. -/
import Derived.Test.YtjapmolmgfaocaaM1SynZ4

/- Layer 11, plain: a round: letters 2, its start, its end. -/
namespace Go.Proofs.Ytjapmolmgfaocaa

section
variable {r : Ro} {o : Nat} {b : Bl} {r0 : Ro} {x : Gh} {L : List UInt8 → Prop} {m : Ml} {l : List Ml}
theorem mayL_one {b : Bl} {n : Nat} (hn : n ≤ 12) {vs : List Vt} (h1 : vs.length ≤ 1) (hv : ∀ v ∈ vs, v.One n ∧ Bl.less v.bal b = true) : mayL b 1 vs = true := by
  match vs, h1, hv with
  | [], _, _ => rfl
  | [v], _, hv =>
    obtain ⟨h2, h3⟩ := hv v (List.mem_cons_self ..)
    rw [mayL_cons]
    unfold okV
    rw [h2.slot, h2.bal.right hn, h3, decide_eq_true h2.len]
    rfl
  | _ :: _ :: _, h, _ => simp at h
/-- A promise that is told. -/
theorem promise_told {p : Pp} {i : Nat} {vs : List Vt} (hi : p.isNode (i : Int) = true) (hm : mayL p.bal p.base vs = true) :
    (p.promise i vs).2.props = p.props ∧ (p.promise i vs).2.q = p.q ∧ (p.promise i vs).2.base = p.base ∧ (p.promise i vs).2.prom.testBit i = true ∧ ∀ j, p.prom.testBit j = true → (p.promise i vs).2.prom.testBit j = true := by
  unfold Pp.promise
  rw [if_neg (by rw [hi]; decide), if_neg (by rw [hm]; decide), Int.toNat_natCast]
  split
  · rename_i h
    exact ⟨rfl, rfl, rfl, h, fun j e => e⟩
  · have hs := Pp.hears_same i vs { p with prom := p.prom ||| 2 ^ i }
    refine ⟨hs.2.2.2.2.1, hs.1, hs.2.2.1, ?_, fun j e => ?_⟩
    · show (({ p with prom := p.prom ||| 2 ^ i } : Pp).hears i vs).prom.testBit i = true
      rw [hs.2.2.2.1]
      show (p.prom ||| 2 ^ i).testBit i = true
      rw [Nat.testBit_or, Nat.testBit_two_pow_self, Bool.or_true]
    · show (({ p with prom := p.prom ||| 2 ^ i } : Pp).hears i vs).prom.testBit j = true
      rw [hs.2.2.2.1]
      show (p.prom ||| 2 ^ i).testBit j = true
      rw [Nat.testBit_or, e]
      rfl
/-- A first proposal. -/
theorem propose_first {p : Pp} {own : List UInt8} (hr : p.ready = true) (hb : p.base = 1) (hp : p.props = []) (ho : own.length ≤ 100) :
    ∃ v V p', p.propose 1 own = (0, v, p') ∧ p'.props = putK 1 ⟨V, 0⟩ [] ∧ p'.q = p.q ∧ p'.prom = p.prom := by
  unfold Pp.propose
  rw [if_neg (by rw [hr]; decide), if_neg (by omega), hp]
  show ∃ v V p', (match p.must 1 with
      | some v => ((0 : Int), (⟨1, p.bal, v⟩ : Vt), { p with props := putK 1 ⟨v, 0⟩ [] })
      | none => if 100 < own.length then (3, ⟨0, Bl.zero, []⟩, p) else (0, ⟨1, p.bal, own⟩, { p with props := putK 1 ⟨own, 0⟩ [] })) = (0, v, p') ∧ _
  cases p.must 1 with
  | some v => exact ⟨_, v, _, rfl, rfl, rfl, rfl⟩
  | none =>
    dsimp only
    rw [if_neg (by omega)]
    exact ⟨_, own, _, rfl, rfl, rfl, rfl⟩
theorem Cov.take2 (hc : Cov r0 o b) (hpi : PI r0 x L) (hrow : r0.row = m :: l) (hk : m.kind = 2) : Cov (r0.take 0).2 o b := by
  obtain ⟨g1, g2⟩ := hc.rnd.take (by rw [hrow]; intro e; cases e)
  obtain ⟨e1, e2⟩ := take_head hrow
  have hmo := hpi.ok.row m (by rw [hrow]; exact List.mem_cons_self ..)
  obtain ⟨hmb, hkk⟩ := hc.rnd.row m (by rw [hrow]; exact List.mem_cons_self ..)
  have hdo : m.dst = o := by rcases hkk with h | h | h | h <;> first | exact h.2 | omega
  subst hdo
  have hl48 : l.length ≤ 48 := by
    have h1 := sumW_len r0.row
    have h2 := hc.low
    unfold mu at h2
    rw [hrow, List.length_cons] at h1
    rw [hrow] at h2
    omega
  have ea0 : (r0.take 0).2 = (match ((r0.node m.dst).gather m).1 with
      | some v => ((r0.cut 0).setN m.dst ((r0.node m.dst).gather m).2).sends r0.nodes.length m.dst 3 m.bal [v]
      | none => (r0.cut 0).setN m.dst ((r0.node m.dst).gather m).2) := by
    rw [e1]
    unfold Ro.arrive
    rw [if_neg (by omega), if_pos hk]
    show (match ((r0.node m.dst).gather m).1 with
      | some v => ((r0.cut 0).setN m.dst ((r0.node m.dst).gather m).2).sends (r0.cut 0).nodes.length m.dst 3 m.bal [v]
      | none => (r0.cut 0).setN m.dst ((r0.node m.dst).gather m).2) = _
    cases ((r0.node m.dst).gather m).1 <;> rfl
  obtain ⟨p, hpp, hcp⟩ := hc.pro
  have hokn := hpi.ok.nodes _ (Ro.node_mem hc.rnd.oi)
  obtain ⟨hpok, hpq, hpb, hbase, _, _⟩ := hokn.pro p hpp
  have hpb' : p.bal = b := by rw [hpb]; exact hc.rnd.bal
  have hbe : Bl.eqB (r0.node m.dst).bal m.bal = true := by rw [hc.rnd.bal, hmb]; unfold Bl.eqB; simp
  have hn12 := (p.q.n_le hpok.right).2.1
  have hisn : p.isNode (m.frm : Int) = true := by
    have := (p.q.n_le hpok.right).2.2
    have h2 := hmo.frm
    rw [← hpq] at h2
    unfold Pp.isNode
    rw [decide_eq_true (by omega), decide_eq_true (by omega)]
    rfl
  have hgp := Low.gather_ (r0.node m.dst) m
  have htop : ∀ j, Bl.le (((r0.cut 0).setN m.dst ((r0.node m.dst).gather m).2).node j).prom b := top_set (r := r0.cut 0) hc.top (by rw [hgp.2]; exact hc.top _)
  have hno := Ro.node_set (r0.cut 0) ((r0.node m.dst).gather m).2 (i := m.dst) hc.rnd.oi m.dst
  rw [if_pos rfl] at hno
  cases hr : p.ready with
  | true =>
    have hg : (r0.node m.dst).gather m = (none, r0.node m.dst) := by
      unfold Nd.gather
      rw [hpp]
      dsimp only
      rw [if_neg (by rw [hbe]; decide), if_pos hr]
    rw [hg] at ea0 hno htop
    dsimp only at ea0 hno htop
    have er : (r0.take 0).2.row = l := by rw [ea0]; exact e2
    have el : (r0.take 0).2.nodes.length = r0.nodes.length := by rw [ea0, setN_len]; rfl
    have hsub : ∀ u ∈ l, u ∈ (r0.take 0).2.row := fun u hu => by rw [er]; exact hu
    refine ⟨g1, by have := hc.low; omega, by rw [ea0]; exact htop, p, by rw [ea0, hno]; exact hpp, fun e => (by rw [hr] at e; cases e), fun e => (by rw [hr] at e; cases e), fun _ => ?_⟩
    obtain ⟨z, z1, z2, z3⟩ := hcp.rd hr
    refine ⟨z, z1, fun i hi => ?_, fun e => by rw [ea0, hno]; exact z3 e⟩
    rw [el] at hi
    rcases z2 i hi with h | h | h
    · rw [hrow] at h
      rcases split_row h hsub with h | h
      · omega
      · exact .inl h
    · rw [hrow] at h
      rcases split_row h hsub with h | h
      · omega
      · exact .inr (.inl h)
    · exact .inr (.inr h)
  | false =>
    obtain ⟨hprops, hcov⟩ := hcp.nr hr
    have hmay : mayL p.bal p.base m.votes = true := by
      rw [hbase, hpb']
      exact mayL_one (n := r0.q.n) (by rw [← hpq]; exact hn12) hmo.one fun v hv => ⟨hmo.votes v hv, hcp.ls hr m (by rw [hrow]; exact List.mem_cons_self ..) hk v hv⟩
    obtain ⟨t1, t2, t3, t4, t5⟩ := promise_told hisn hmay
    have hg : (r0.node m.dst).gather m = (if ((p.promise m.frm m.votes).2.propose 1 (r0.node m.dst).own).1 = 0 then some ((p.promise m.frm m.votes).2.propose 1 (r0.node m.dst).own).2.1 else none, { (r0.node m.dst) with pro := some ((p.promise m.frm m.votes).2.propose 1 (r0.node m.dst).own).2.2 }) := by
      unfold Nd.gather
      rw [hpp]
      dsimp only
      rw [if_neg (by rw [hbe]; decide), if_neg (by rw [hr]; decide)]
    cases hr1 : (p.promise m.frm m.votes).2.ready with
    | false =>
      have hpr : (p.promise m.frm m.votes).2.propose 1 (r0.node m.dst).own = (100, ⟨0, Bl.zero, []⟩, (p.promise m.frm m.votes).2) := by
        unfold Pp.propose
        rw [if_pos hr1]
      rw [hpr] at hg
      rw [hg] at ea0 hno htop
      dsimp only at ea0 hno htop
      rw [if_neg (by decide)] at ea0
      have er : (r0.take 0).2.row = l := by rw [ea0]; exact e2
      have el : (r0.take 0).2.nodes.length = r0.nodes.length := by rw [ea0, setN_len]; rfl
      have hsub : ∀ u ∈ l, u ∈ (r0.take 0).2.row := fun u hu => by rw [er]; exact hu
      refine ⟨g1, by have := hc.low; omega, by rw [ea0]; exact htop, (p.promise m.frm m.votes).2, by rw [ea0, hno], fun _ => ⟨by rw [t1]; exact hprops, fun i hi => ?_⟩, fun _ u hu hu2 v hv => ?_, fun e => by rw [hr1] at e; cases e⟩
      · rw [el] at hi
        rcases hcov i hi with h | h | h
        · rw [hrow] at h
          rcases split_row h hsub with h | h
          · omega
          · exact .inl h
        · rw [hrow] at h
          rcases split_row h hsub with h | h
          · rw [← h.2]; exact .inr (.inr t4)
          · exact .inr (.inl h)
        · exact .inr (.inr (t5 i h))
      · rw [er] at hu
        exact hcp.ls hr u (by rw [hrow]; exact List.mem_cons_of_mem _ hu) hu2 v hv
    | true =>
      obtain ⟨v, V, p', hpr, hp1, hp2, hp3⟩ := propose_first hr1 (t3.trans hbase) (t1.trans hprops) hokn.own
      rw [hpr] at hg
      rw [hg] at ea0 hno htop
      dsimp only at ea0 hno htop
      rw [if_pos rfl] at ea0
      dsimp only at ea0
      have hnl : r0.nodes.length ≤ 12 := by rw [hpi.ok.len, ← hpq]; exact hn12
      obtain ⟨_, s2, s3⟩ := sends_has (r := (r0.cut 0).setN m.dst { (r0.node m.dst) with pro := some p' }) (f := m.dst) (kd := 3) (b := m.bal) (vs := [v]) r0.nodes.length (by
        show (r0.cut 0).row.length + _ ≤ 200
        rw [e2]; omega)
      have en : (r0.take 0).2.node = ((r0.cut 0).setN m.dst { (r0.node m.dst) with pro := some p' }).node := by rw [ea0, Ro.sends_node]
      have el : (r0.take 0).2.nodes.length = r0.nodes.length := by rw [ea0, sends_len, setN_len]; rfl
      have hrd : p'.ready = true := by
        unfold Pp.ready at hr1 ⊢
        rw [hp2, hp3]; exact hr1
      refine ⟨g1, by have := hc.low; omega, by rw [en]; exact htop, p', by rw [en, hno], fun e => (by rw [hrd] at e; cases e), fun e => (by rw [hrd] at e; cases e), fun _ => ⟨⟨V, 0⟩, by rw [hp1, getK_put, if_pos rfl], fun i hi => ?_, fun e => ?_⟩⟩
      · rw [el] at hi
        rw [ea0]
        exact .inl ⟨_, s3 i hi, rfl, rfl⟩
      · have h0 : p'.q.isQ true 0 = false := p'.q.isQ_none (by rw [hp2, t2]; exact hpok.right) true fun i _ => Nat.zero_testBit i
        rw [h0] at e
        cases e
theorem Cov.take (hc : Cov r0 o b) (hpi : PI r0 x L) (hr : r0.row ≠ []) : Cov (r0.take 0).2 o b := by
  obtain ⟨m, l, hml⟩ : ∃ m l, r0.row = m :: l := by
    cases e : r0.row with
    | nil => exact absurd e hr
    | cons m l => exact ⟨m, l, rfl⟩
  have hk := (hpi.ok.row m (by rw [hml]; exact List.mem_cons_self ..)).kind
  have hk' : m.kind = 1 ∨ m.kind = 2 ∨ m.kind = 3 ∨ m.kind = 4 := by omega
  rcases hk' with h | h | h | h
  · exact hc.take1 hpi hml h
  · exact hc.take2 hpi hml h
  · exact hc.take3 hml h
  · exact hc.take4 hpi hml h
/-- The end of a round. -/
theorem Cov.end_ (hc : Cov r0 o b) (hpi : PI r0 x L) (hr : r0.row = []) : (r0.node o).knows = true := by
  obtain ⟨p, hpp, hcp⟩ := hc.pro
  obtain ⟨hpok, hpq, _⟩ := (hpi.ok.nodes _ (Ro.node_mem hc.rnd.oi)).pro p hpp
  have hlen : r0.nodes.length = p.q.n := by rw [hpi.ok.len, hpq]
  have nomem : ∀ P : Ml → Prop, ¬ ∃ m ∈ r0.row, P m := fun P h => by
    obtain ⟨m, hm, _⟩ := h
    rw [hr] at hm
    cases hm
  cases hrd : p.ready with
  | false =>
    have h1 : p.q.isQ false p.prom = true := p.q.isQ_full hpok.right false fun i hi => by
      rcases (hcp.nr hrd).2 i (by omega) with h | h | h
      · exact absurd h (nomem _)
      · exact absurd h (nomem _)
      · exact h
    unfold Pp.ready at hrd
    rw [h1] at hrd
    cases hrd
  | true =>
    obtain ⟨z, _, z2, z3⟩ := hcp.rd hrd
    refine z3 (p.q.isQ_full hpok.right true fun i hi => ?_)
    rcases z2 i (by omega) with h | h | h
    · exact absurd h (nomem _)
    · exact absurd h (nomem _)
    · exact h
end
end Go.Proofs.Ytjapmolmgfaocaa
