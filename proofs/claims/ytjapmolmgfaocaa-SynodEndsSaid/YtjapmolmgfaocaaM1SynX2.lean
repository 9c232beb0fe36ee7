/- Of the proofs of layer 4, merged: SynX2. -/
import Derived.Test.YtjapmolmgfaocaaM1SynX

/- Layer 11, plain: what always holds is kept by each act. No program is named here. -/
namespace Go.Proofs.Ytjapmolmgfaocaa

section
variable {r : Ro} {x : Gh} {L : List UInt8 → Prop}
theorem PI.new {q : Qm} (hq : q.right = 0) : PI (Ro.new q) ⟨fun _ _ => False, fun _ => none⟩ L := by
  have hn : ∀ i, (Ro.new q).node i = Nd.zero := fun i => by
    unfold Ro.new Ro.node
    dsimp only
    rw [List.getD_eq_getElem?_getD, List.getElem?_replicate]
    split <;> rfl
  exact ⟨Ro.Ok.new hq, fun i p e => (by rw [hn] at e; cases e), fun i p e => (by rw [hn] at e; cases e), fun b v e => (by cases e), fun b v e => (by cases e), fun i e => (by rw [hn] at e; cases e), fun i b e => e.elim, fun m hm => (List.not_mem_nil hm).elim, fun b v e => (by cases e), fun i e => (by rw [hn] at e; cases e)⟩
theorem Nd.promise_same (n : Nd) (b : Bl) : (n.promise b).2.vote = n.vote ∧ (n.promise b).2.pro = n.pro ∧ (n.promise b).2.own = n.own ∧ (n.promise b).2.learned = n.learned ∧ (n.promise b).2.knows = n.knows ∧ n.seen ≤ (n.promise b).2.seen ∧ Bl.le n.prom (n.promise b).2.prom ∧ (n.promise b).2.bal = n.bal := by
  unfold Nd.promise
  split
  · exact ⟨rfl, rfl, rfl, rfl, rfl, Nat.le_max_left _ _, Bl.le_refl _, rfl⟩
  · rename_i h
    refine ⟨rfl, rfl, rfl, rfl, rfl, Nat.le_max_left _ _, ?_, rfl⟩
    show Bl.less b n.prom = false
    cases e : Bl.less b n.prom with
    | false => rfl
    | true => exact absurd e h
theorem Nd.promise_ok (n : Nd) (b : Bl) (h : (n.promise b).1 = true) : (n.promise b).2.prom = b := by
  unfold Nd.promise at h ⊢
  split at h
  · cases h
  · rename_i h2
    first | (rw [if_neg h2]) | rfl
/-- A promise. -/
theorem PI.setProm (h : PI r x L) {i : Nat} (hi : i < r.nodes.length) {b : Bl} (hb : b.Fine r.q.n) : PI (r.setN i ((r.node i).promise b).2) x L := by
  obtain ⟨s1, s2, s3, s4, s5, s6, s7, _⟩ := Nd.promise_same (r.node i) b
  have hno := Ro.node_set r ((r.node i).promise b).2 hi
  have hk := h.ok.nodes _ (Ro.node_mem hi)
  refine h.turn (x' := x) hi (hk.promise hb) s7 s6 (Gh.Ext.refl x) (fun j b e => .inl e) (fun p hp => ?_) (fun p hp => ?_) (fun b v e => .inl e) (fun e => ?_) (fun b e => ?_) (fun e => ?_)
  · rw [s2] at hp
    have hpp := h.pro i p hp
    refine hpp.mono (fun j => ?_) ?_ (Gh.Ext.refl x) (fun j b e => .inl e) hpp.none_
    · rw [hno]
      split
      · rename_i e; rw [e]; exact s7
      · exact Bl.le_refl _
    · rw [hno, if_pos rfl]; exact s6
  · rw [s3]; rw [s2] at hp; exact h.own i p hp
  · rw [s1] at e ⊢
    have := h.vot i e
    exact ⟨this.1, this.2.1, Bl.le_trans this.2.2 s7⟩
  · rw [s1]; exact h.gmax i b e
  · rw [s4]; rw [s5] at e; exact h.lrn i e
theorem Nd.vote_one {n : Nd} (hs : n.vote.slot = 1) : n.votes = [n.vote] := by unfold Nd.votes; rw [if_pos hs]
/-- A letter 1 arrives. -/
theorem PI.arrive1 (h : PI r x L) {m : Ml} (hm : m.Ok r.q.n) (hk : m.kind = 1) : PI (r.arrive m) x L := by
  have hd : m.dst < r.nodes.length := by rw [h.ok.len]; exact hm.dst
  have h1 := h.setProm hd hm.bal
  have hno := Ro.node_set r ((r.node m.dst).promise m.bal).2 hd
  have hkk := (h.ok.nodes _ (Ro.node_mem hd)).promise hm.bal
  unfold Ro.arrive
  rw [if_pos hk]
  split
  · rename_i hp
    have hpr := Nd.promise_ok _ _ hp
    have hvo := Nd.votes_ok hkk
    refine h1.send ⟨fun _ => ⟨?_, fun b hb hl => ?_, fun v hv => ?_⟩, fun e => (by cases e), fun e => (by cases e)⟩ ⟨⟨by show 1 ≤ 2; omega, by show 2 ≤ 4; omega⟩, hm.dst, hm.frm, hm.bal, hvo.1, hvo.2, fun e => by cases e⟩
    · show Bl.le m.bal (((r.setN m.dst ((r.node m.dst).promise m.bal).2)).node m.dst).prom
      rw [hno, if_pos rfl, hpr]
      exact Bl.le_refl _
    · have hg := h1.gmax m.dst b hb
      rw [hno, if_pos rfl] at hg
      refine ⟨_, ?_, hg.2⟩
      show _ ∈ ((r.node m.dst).promise m.bal).2.votes
      rw [Nd.vote_one hg.1]
      exact List.mem_singleton.2 rfl
    · have hv : v ∈ ((r.node m.dst).promise m.bal).2.votes := hv
      unfold Nd.votes at hv
      split at hv
      · rename_i hs
        rw [List.mem_singleton.1 hv]
        have := h1.vot m.dst (by rw [hno, if_pos rfl]; exact hs)
        rw [hno, if_pos rfl] at this
        exact this.1
      · exact (List.not_mem_nil hv).elim
  · exact h1
/-- A letter 3 arrives: the node votes. -/
theorem PI.arrive3 (h : PI r x L) {m : Ml} (hm : m.Ok r.q.n) (hmi : MI r.node x m) (hk : m.kind = 3) : ∃ x', PI (r.arrive m) x' L ∧ x.Ext x' := by
  have hd : m.dst < r.nodes.length := by rw [h.ok.len]; exact hm.dst
  have h1 := h.setProm hd hm.bal
  have hno := Ro.node_set r ((r.node m.dst).promise m.bal).2 hd
  have hkk := (h.ok.nodes _ (Ro.node_mem hd)).promise hm.bal
  unfold Ro.arrive
  rw [if_neg (by omega), if_neg (by omega), if_pos hk]
  split
  · rename_i hp
    have hpr := Nd.promise_ok _ _ hp
    obtain ⟨v0, vr, hvs⟩ : ∃ v l, m.votes = v :: l := by
      cases e : m.votes with
      | nil => exact absurd e (hm.three hk)
      | cons v l => exact ⟨v, l, rfl⟩
    have hv0 : v0 ∈ m.votes := by rw [hvs]; exact List.mem_cons_self ..
    have hone := hm.votes v0 hv0
    obtain ⟨hb3, hP3⟩ := hmi.three hk v0 hv0
    have hhd : m.votes.headD Vt.none_ = v0 := by rw [hvs]; rfl
    rw [hhd]
    obtain ⟨n1, hn1⟩ : ∃ n1, ((r.node m.dst).promise m.bal).2 = n1 := ⟨_, rfl⟩
    rw [hn1] at h1 hno hkk hpr ⊢
    have hd1 : m.dst < (r.setN m.dst n1).nodes.length := by unfold Ro.setN; simpa using hd
    have hn1' : (r.setN m.dst n1).node m.dst = n1 := by rw [hno, if_pos rfl]
    obtain ⟨x', hx'⟩ : ∃ x' : Gh, x' = ⟨fun j b => x.G j b ∨ (j = m.dst ∧ b = m.bal), x.P⟩ := ⟨_, rfl⟩
    have hext : x.Ext x' := by rw [hx']; exact ⟨fun j b e => .inl e, fun b v e => e⟩
    have hG : ∀ j b, x'.G j b ↔ x.G j b ∨ (j = m.dst ∧ b = m.bal) := fun j b => by rw [hx']
    have hPP : x'.P = x.P := by rw [hx']
    have hss : ({ n1 with vote := v0 } : Nd) = { (r.setN m.dst n1).node m.dst with vote := v0 } := by rw [hn1']
    have h2 : PI ((r.setN m.dst n1).setN m.dst { n1 with vote := v0 }) x' L := by
      have hno2 := Ro.node_set (r.setN m.dst n1) { n1 with vote := v0 } hd1
      refine h1.turn (x' := x') hd1 ⟨hkk.seen, hkk.prom, .inr hone, hkk.pro, hkk.nopro, hkk.own, hkk.len⟩ (by rw [hn1']; exact Bl.le_refl _) (by rw [hn1']; exact Nat.le_refl _) hext (fun j b e => ?_) (fun p hp => ?_) (fun p hp => ?_) (fun b v e => .inl (by rw [hPP] at e; exact e)) (fun _ => ⟨?_, ?_, ?_⟩) (fun b e => ⟨hone.slot, ?_⟩) (fun e => ?_)
      · rcases (hG j b).1 e with h' | ⟨h', rfl⟩
        · exact .inl h'
        · exact .inr ⟨h', by rw [hn1', hpr]; exact Bl.le_refl _⟩
      · have hpp := h1.pro m.dst p (by rw [hn1']; exact hp)
        refine hpp.mono (fun j => ?_) ?_ hext (fun j b e => ?_) (by rw [hPP]; exact hpp.none_)
        · rw [hno2]
          split
          · rename_i e; rw [e, hn1']; exact Bl.le_refl _
          · exact Bl.le_refl _
        · rw [hno2, if_pos rfl, hn1']; exact Nat.le_refl _
        · rcases (hG j b).1 e with h' | ⟨rfl, rfl⟩
          · exact .inl h'
          · exact .inr (by rw [hn1', hpr]; exact Bl.le_refl _)
      · have := h1.own m.dst p (by rw [hn1']; exact hp)
        rw [hn1'] at this
        exact this
      · show x'.P v0.bal = some v0.val
        rw [hPP, hb3]
        exact hP3
      · show x'.G m.dst v0.bal
        exact (hG _ _).2 (.inr ⟨rfl, hb3⟩)
      · show Bl.le v0.bal n1.prom
        rw [hb3, hpr]
        exact Bl.le_refl _
      · show Bl.le b v0.bal
        rw [hb3]
        rcases (hG m.dst b).1 e with h' | ⟨_, rfl⟩
        · have hgm := h1.gmax m.dst b h'
          have hvt := h1.vot m.dst hgm.1
          rw [hn1'] at hgm hvt
          have := Bl.le_trans hgm.2 hvt.2.2
          rw [hpr] at this
          exact this
        · exact Bl.le_refl _
      · have := h1.lrn m.dst (by rw [hn1']; exact e)
        rw [hn1'] at this
        exact this.ext hext
    have he : (r.setN m.dst n1).setN m.dst { n1 with vote := v0 } = r.setN m.dst { n1 with vote := v0 } := by unfold Ro.setN; dsimp only; rw [List.set_set]
    rw [he] at h2
    refine ⟨x', h2.send ⟨fun e => (by cases e), fun e => (by cases e), fun _ => ?_⟩ ⟨⟨by show 1 ≤ 4; omega, by show 4 ≤ 4; omega⟩, hm.dst, hm.frm, hm.bal, Nat.zero_le _, fun u hu => (List.not_mem_nil hu).elim, fun e => by cases e⟩, hext⟩
    show x'.G m.dst m.bal
    exact (hG _ _).2 (.inr ⟨rfl, rfl⟩)
  · exact ⟨x, h1, Gh.Ext.refl x⟩
theorem Pp.accepted_z {p : Pp} {n : Int} {e : Nat × Pz} (he : e ∈ (p.accepted n 1).2.props) : e ∈ p.props ∨ ∃ z, (1, z) ∈ p.props ∧ e = (1, ⟨z.val, z.acc ||| 2 ^ n.toNat⟩) := by
  unfold Pp.accepted at he
  split at he
  · exact .inl he
  split at he
  · exact .inl he
  · rename_i z hz
    rcases putK_mem he with rfl | ⟨he, _⟩
    · exact .inr ⟨z, getK_mem hz, rfl⟩
    · exact .inl he
theorem Pp.accepted_nil {p : Pp} {n : Int} (h : (p.accepted n 1).2.props = []) : p.props = [] := by
  unfold Pp.accepted at h
  split at h
  · exact h
  split at h
  · exact h
  · rename_i z hz
    have := putK_has (β := Pz) 1 ⟨z.val, z.acc ||| 2 ^ n.toNat⟩ p.props
    have h : putK 1 ⟨z.val, z.acc ||| 2 ^ n.toNat⟩ p.props = [] := h
    rw [h] at this
    exact (List.not_mem_nil this).elim
theorem Pp.chosen_z {p : Pp} {v : List UInt8} (h : p.chosen 1 = some v) : ∃ z, (1, z) ∈ p.props ∧ z.val = v ∧ p.q.isQ true z.acc = true := by
  unfold Pp.chosen at h
  split at h
  · cases h
  · rename_i z hz
    split at h
    · rename_i hq
      injection h with h
      exact ⟨z, getK_mem hz, h, hq⟩
    · cases h
theorem PPI.accepted {i : Nat} {p : Pp} (h : PPI r.node x i p) {f : Nat} (hG : x.G f p.bal) : PPI r.node x i (p.accepted f 1).2 := by
  obtain ⟨s1, s2, s3, s4, s5⟩ := Pp.accepted_same p f 1
  refine ⟨by rw [s3]; exact h.node, by rw [s3]; exact h.seen, fun e he => ?_, fun e => by rw [s3]; exact h.none_ (Pp.accepted_nil e), fun e he j hj => ?_, by rw [s1, s3]; exact h.told, by rw [s5, s3, s1]; exact h.prom⟩
  · rw [s3]
    rcases Pp.accepted_z he with h' | ⟨z, hz, rfl⟩
    · exact h.some_ e h'
    · exact h.some_ (1, z) hz
  · rw [s3]
    rcases Pp.accepted_z he with h' | ⟨z, hz, rfl⟩
    · exact h.acc e h' j hj
    · have hj : (z.acc ||| 2 ^ ((f : Int)).toNat).testBit j = true := hj
      rw [Nat.testBit_or, Bool.or_eq_true, Int.toNat_natCast] at hj
      rcases hj with h' | h'
      · exact h.acc _ hz j h'
      · rw [Nat.testBit_two_pow] at h'
        have : f = j := of_decide_eq_true h'
        rw [← this]
        exact hG
/-- A letter 4 arrives. -/
theorem PI.arrive4 (h : PI r x L) {m : Ml} (hm : m.Ok r.q.n) (hmi : MI r.node x m) (hk : m.kind = 4) : PI (r.arrive m) x L := by
  have hd : m.dst < r.nodes.length := by rw [h.ok.len]; exact hm.dst
  have hkk := (h.ok.nodes _ (Ro.node_mem hd)).count m
  unfold Ro.arrive
  rw [if_neg (by omega), if_neg (by omega), if_neg (by omega), if_pos hk]
  have hG := hmi.four hk
  -- node by node
  cases hpro : (r.node m.dst).pro with
  | none =>
    have e : (r.node m.dst).count m = r.node m.dst := by unfold Nd.count; rw [hpro]
    rw [e]
    exact h.rowTo rfl (by funext j; rw [Ro.node_set r _ hd]; split; rename_i e; rw [e]; rfl) (h.ok.setN (h.ok.nodes _ (Ro.node_mem hd))) fun m hm => .inl hm
  | some p =>
    have hpp := h.pro _ p hpro
    obtain ⟨o1, o2, o3, o4, o5, o6⟩ := (h.ok.nodes _ (Ro.node_mem hd)).pro p hpro
    cases heq : Bl.eqB (r.node m.dst).bal m.bal with
    | false =>
      have e : (r.node m.dst).count m = r.node m.dst := by unfold Nd.count; rw [hpro]; dsimp only; rw [if_pos heq]
      rw [e]
      exact h.rowTo rfl (by funext j; rw [Ro.node_set r _ hd]; split; rename_i e; rw [e]; rfl) (h.ok.setN (h.ok.nodes _ (Ro.node_mem hd))) fun m hm => .inl hm
    | true =>
      have hbal : p.bal = m.bal := by
        unfold Bl.eqB at heq
        rw [Bool.and_eq_true, decide_eq_true_eq, decide_eq_true_eq] at heq
        rw [o3]
        exact Bl.ext_ heq.1 heq.2
      have hG' : x.G m.frm p.bal := by rw [hbal]; exact hG
      have hacc := hpp.accepted hG'
      have hs := Pp.accepted_same p m.frm 1
      obtain ⟨n', hn', hc⟩ : ∃ n', (r.node m.dst).count m = n' ∧ n'.pro = some (p.accepted m.frm 1).2 ∧ n'.prom = (r.node m.dst).prom ∧ n'.seen = (r.node m.dst).seen ∧ n'.vote = (r.node m.dst).vote ∧ n'.own = (r.node m.dst).own ∧ (n'.knows = true → (n'.learned = (r.node m.dst).learned ∧ (r.node m.dst).knows = true) ∨ (p.accepted m.frm 1).2.chosen 1 = some n'.learned) := by
        refine ⟨_, rfl, ?_⟩
        unfold Nd.count
        rw [hpro]
        dsimp only
        rw [if_neg (by rw [heq]; decide)]
        split
        · exact ⟨rfl, rfl, rfl, rfl, rfl, fun e => .inl ⟨rfl, e⟩⟩
        · rename_i v hv
          exact ⟨rfl, rfl, rfl, rfl, rfl, fun _ => .inr hv⟩
      rw [hn'] at hkk ⊢
      obtain ⟨c1, c2, c3, c4, c5, c6⟩ := hc
      have hno := Ro.node_set r n' hd
      refine h.turn (x' := x) hd hkk (by rw [c2]; exact Bl.le_refl _) (by rw [c3]; exact Nat.le_refl _) (Gh.Ext.refl x) (fun j b e => .inl e) (fun q hq => ?_) (fun q hq => ?_) (fun b v e => .inl e) (fun e => ?_) (fun b e => ?_) (fun e => ?_)
      · rw [c1] at hq
        injection hq with hq
        subst hq
        refine hacc.mono (fun j => ?_) ?_ (Gh.Ext.refl x) (fun j b e => .inl e) hacc.none_
        · rw [hno]
          split
          · rename_i e; rw [e, c2]; exact Bl.le_refl _
          · exact Bl.le_refl _
        · rw [hno, if_pos rfl, c3]; exact Nat.le_refl _
      · rw [c5]; exact h.own _ p hpro
      · rw [c4] at e ⊢; rw [c2]; exact h.vot _ e
      · rw [c4]; exact h.gmax _ b e
      · rcases c6 e with ⟨h1, h2⟩ | h1
        · rw [h1]; exact h.lrn _ h2
        · obtain ⟨z, hz, hzv, hzq⟩ := Pp.chosen_z h1
          refine ⟨p.bal, z.acc, by rw [hs.2.1, o2] at hzq; exact hzq, fun j _ hj => ?_, ?_⟩
          · have := hacc.acc _ hz j hj
            rw [hs.2.2.1] at this
            exact this
          · have := hacc.some_ _ hz
            rw [hs.2.2.1] at this
            rw [← hzv]
            exact this
theorem Vt.One.num' {v : Vt} {n : Nat} (h : v.One n) : v.Num := ⟨by rw [h.slot]; omega, by have := h.bal.n1; omega⟩
/-! ### a letter 2 -/
theorem Pp.promise_cases (p : Pp) (f : Nat) (l : List Vt) : (p.promise f l).2 = p ∨ (mayL p.bal p.base l = true ∧ (p.promise f l).2 = { p with prom := p.prom ||| 2 ^ f }.hears f l) := by
  unfold Pp.promise
  split
  · exact .inl rfl
  split
  · exact .inl rfl
  split
  · exact .inl rfl
  · rename_i h1 h2 _
    refine .inr ⟨by simpa using h2, ?_⟩
    rw [Int.toNat_natCast]
theorem PPI.promise {i : Nat} {p : Pp} {m : Ml} (h : PPI r.node x i p) (hok : p.Ok) (ht : ∀ e ∈ p.told, e.1 = 1) (hmi : MI r.node x m) (hk : m.kind = 2) (hb : p.bal = m.bal) (hv1 : ∀ v ∈ m.votes, v.slot = 1) : PPI r.node x i (p.promise m.frm m.votes).2 := by
  rcases Pp.promise_cases p m.frm m.votes with e | ⟨hmay, e⟩
  · rw [e]; exact h
  · rw [e]
    obtain ⟨p1, hp1⟩ : ∃ p1 : Pp, p1 = { p with prom := p.prom ||| 2 ^ m.frm } := ⟨_, rfl⟩
    rw [← hp1]
    have t1 : p1.told = p.told := by rw [hp1]
    obtain ⟨f1, f2, f3⟩ := hears_facts m.frm m.votes p1 (by rw [t1]; exact hok.tsrt) (by rw [t1]; exact ht) hv1
    have hs := Pp.hears_same m.frm m.votes p1
    have b1 : (p1.hears m.frm m.votes).bal = p.bal := hs.2.1.trans (by rw [hp1])
    have pr1 : (p1.hears m.frm m.votes).props = p.props := hs.2.2.2.2.1.trans (by rw [hp1])
    have prm : (p1.hears m.frm m.votes).prom = p.prom ||| 2 ^ m.frm := hs.2.2.2.1.trans (by rw [hp1])
    obtain ⟨m1, m2, m3⟩ := hmi.two hk
    refine ⟨by rw [b1]; exact h.node, by rw [b1]; exact h.seen, by rw [b1, pr1]; exact h.some_, by rw [b1, pr1]; exact h.none_, by rw [b1, pr1]; exact h.acc, fun e he => ?_, fun j hj => ?_⟩
    · rw [b1]
      rcases f1 e he with h' | ⟨v, hv, e1, e2⟩
      · rw [t1] at h'; exact h.told e h'
      · rw [e1, e2]
        exact ⟨m3 v hv, (mayL_each _ _ _ hmay v hv).2.2.1⟩
    · rw [b1]
      rw [prm, Nat.testBit_or, Bool.or_eq_true] at hj
      rcases hj with h' | h'
      · have hh := h.prom j h'
        refine ⟨hh.1, fun b hb' hl => ?_⟩
        obtain ⟨e, he, hle⟩ := hh.2 b hb' hl
        obtain ⟨e', he', hle'⟩ := f3 e (by rw [t1]; exact he)
        exact ⟨e', he', Bl.le_trans hle hle'⟩
      · rw [Nat.testBit_two_pow] at h'
        have : m.frm = j := of_decide_eq_true h'
        subst this
        refine ⟨by rw [hb]; exact m1, fun b hb' hl => ?_⟩
        obtain ⟨v, hv, hle⟩ := m2 b hb' (by rw [← hb]; exact hl)
        obtain ⟨e, he, hle'⟩ := f2 v hv
        exact ⟨e, he, Bl.le_trans hle hle'⟩
/-- What Propose does. -/
theorem Pp.propose_cases (p : Pp) (own : List UInt8) : ((p.propose 1 own).1 ≠ 0 ∧ (p.propose 1 own).2.2 = p) ∨
    (∃ z, (1, z) ∈ p.props ∧ (p.propose 1 own).2.2 = p ∧ (p.propose 1 own).2.1 = ⟨1, p.bal, z.val⟩) ∨
    (p.ready = true ∧ getK p.props 1 = none ∧ ∃ v, (p.propose 1 own).2.1 = ⟨1, p.bal, v⟩ ∧ (p.propose 1 own).2.2 = { p with props := putK 1 ⟨v, 0⟩ p.props } ∧ ((p.must 1 = some v) ∨ (p.must 1 = none ∧ v = own))) := by
  unfold Pp.propose
  split
  · exact .inl ⟨(by decide : (100 : Int) ≠ 0), rfl⟩
  rename_i h1
  split
  · exact .inl ⟨(by decide : (2 : Int) ≠ 0), rfl⟩
  split
  · rename_i z hz
    exact .inr (.inl ⟨z, getK_mem hz, rfl, rfl⟩)
  · rename_i hz
    split
    · rename_i v hv
      exact .inr (.inr ⟨by simpa using h1, hz, v, rfl, rfl, .inl hv⟩)
    · rename_i hv
      split
      · exact .inl ⟨(by decide : (3 : Int) ≠ 0), rfl⟩
      · exact .inr (.inr ⟨by simpa using h1, hz, own, rfl, rfl, .inr ⟨hv, rfl⟩⟩)
theorem props_nil {p : Pp} (h1 : ∀ e ∈ p.props, e.1 = 1) (hs : SrtK p.props) (hg : getK p.props 1 = none) : p.props = [] := by
  match hp : p.props with
  | [] => rfl
  | e :: l =>
    have hm : e ∈ p.props := by rw [hp]; exact List.mem_cons_self ..
    have := getK_of_mem hs hm
    rw [h1 e hm, hg] at this
    cases this
/-- A letter 2 arrives. -/
theorem PI.arrive2 (h : PI r x L) {m : Ml} (hm : m.Ok r.q.n) (hmi : MI r.node x m) (hk : m.kind = 2) : ∃ x', PI (r.arrive m) x' L ∧ x.Ext x' := by
  have hd : m.dst < r.nodes.length := by rw [h.ok.len]; exact hm.dst
  have hokn := h.ok.nodes _ (Ro.node_mem hd)
  have hkk := hokn.gather hm
  have hsame : PI (r.setN m.dst (r.node m.dst)) x L := h.rowTo rfl (by funext j; rw [Ro.node_set r _ hd]; split; rename_i e; rw [e]; rfl) (h.ok.setN hokn) fun m hm => .inl hm
  unfold Ro.arrive
  rw [if_neg (by omega), if_pos hk]
  cases hpro : (r.node m.dst).pro with
  | none =>
    have e : (r.node m.dst).gather m = (none, r.node m.dst) := by unfold Nd.gather; rw [hpro]
    rw [e]
    exact ⟨x, hsame, Gh.Ext.refl x⟩
  | some p =>
    have hpp := h.pro _ p hpro
    obtain ⟨o1, o2, o3, o4, o5, o6⟩ := hokn.pro p hpro
    cases heq : Bl.eqB (r.node m.dst).bal m.bal with
    | false =>
      have e : (r.node m.dst).gather m = (none, r.node m.dst) := by unfold Nd.gather; rw [hpro]; dsimp only; rw [if_pos heq]
      rw [e]
      exact ⟨x, hsame, Gh.Ext.refl x⟩
    | true =>
      cases hrd : p.ready with
      | true =>
        have e : (r.node m.dst).gather m = (none, r.node m.dst) := by unfold Nd.gather; rw [hpro]; dsimp only; rw [if_neg (by rw [heq]; decide), if_pos hrd]
        rw [e]
        exact ⟨x, hsame, Gh.Ext.refl x⟩
      | false =>
        have hbal : p.bal = m.bal := by
          unfold Bl.eqB at heq
          rw [Bool.and_eq_true, decide_eq_true_eq, decide_eq_true_eq] at heq
          rw [o3]
          exact Bl.ext_ heq.1 heq.2
        have hv1 : ∀ v ∈ m.votes, v.slot = 1 := fun v hv => (hm.votes v hv).slot
        have hp1 := hpp.promise o1 o5 hmi hk hbal hv1
        have hs := Pp.promise_same p m.frm m.votes
        have hok1 : (p.promise m.frm m.votes).2.Ok := o1.promise _ _ fun v hv => (hm.votes v hv).num'
        have ht1 := Pp.promise_told (p := p) (n := m.frm) o5 hv1
        have e : (r.node m.dst).gather m = (if ((p.promise m.frm m.votes).2.propose 1 (r.node m.dst).own).1 = 0 then some ((p.promise m.frm m.votes).2.propose 1 (r.node m.dst).own).2.1 else none, { r.node m.dst with pro := some ((p.promise m.frm m.votes).2.propose 1 (r.node m.dst).own).2.2 }) := by
          unfold Nd.gather
          rw [hpro]
          dsimp only
          rw [if_neg (by rw [heq]; decide), if_neg (by rw [hrd]; decide)]
        rw [e] at hkk ⊢
        dsimp only at hkk ⊢
        obtain ⟨p1, hp1e⟩ : ∃ p1, (p.promise m.frm m.votes).2 = p1 := ⟨_, rfl⟩
        rw [hp1e] at hp1 hs hok1 ht1 hkk ⊢
        have hb1 : p1.bal = m.bal := hs.2.1.trans hbal
        -- the node with its proposer turned, where nothing is proposed anew
        have key : ∀ (x' : Gh) (p2 : Pp), x.Ext x' → x'.G = x.G → (∀ b v, x'.P b = some v → x.P b = some v ∨ (b = m.bal ∧ L v ∧ SafeB r.q r.node x b v)) → PPI r.node x' m.dst p2 → Nd.Ok { r.node m.dst with pro := some p2 } r.q → PI (r.setN m.dst { r.node m.dst with pro := some p2 }) x' L := fun x' p2 hx hG hP hp2 hn2 => by
          have hno := Ro.node_set r { r.node m.dst with pro := some p2 } hd
          have hpj : ∀ j, Bl.le (r.node j).prom ((r.setN m.dst { r.node m.dst with pro := some p2 }).node j).prom := fun j => by
            rw [hno]
            split
            · rename_i e; rw [e]; exact Bl.le_refl _
            · exact Bl.le_refl _
          have hgj : ∀ j b, x'.G j b → x.G j b ∨ Bl.le (r.node j).prom b := fun j b e => .inl (by rw [hG] at e; exact e)
          refine h.turn (x' := x') hd hn2 (Bl.le_refl _) (Nat.le_refl _) hx (fun j b e => .inl (by rw [hG] at e; exact e)) (fun q hq => ?_) (fun q _ => h.own _ p hpro) (fun b v e => ?_) (fun e => ?_) (fun b e => ?_) (fun e => (h.lrn _ e).ext hx)
          · injection hq with hq
            subst hq
            refine hp2.mono (fun j => hpj j) ?_ (Gh.Ext.refl x') (fun j b e => .inl e) hp2.none_
            rw [hno, if_pos rfl]
            exact Nat.le_refl _
          · rcases hP b v e with h' | ⟨rfl, h1, h2⟩
            · exact .inl h'
            · refine .inr ⟨by rw [← hbal]; exact hpp.node, by rw [← hbal]; exact hpp.seen, h1, h2.mono hpj hx hgj⟩
          · have := h.vot _ e
            exact ⟨hx.P _ _ this.1, hx.G _ _ this.2.1, this.2.2⟩
          · rw [hG] at e
            exact h.gmax _ b e
        have send3 : ∀ (x' : Gh) (n2 : Nd) (v : Vt), PI (r.setN m.dst n2) x' L → v = ⟨1, m.bal, v.val⟩ → x'.P m.bal = some v.val → v.val.length ≤ 100 → PI ((r.setN m.dst n2).sends r.nodes.length m.dst 3 m.bal [v]) x' L := fun x' n2 v hpi hve hP hlen =>
          hpi.sends _ (Nat.le_of_eq h.ok.len) fun i hi => ⟨⟨fun e => (by cases e), fun _ u hu => by
            have hu : u ∈ [v] := hu
            rw [List.mem_singleton.1 hu]
            exact ⟨by rw [hve], hP⟩, fun e => (by cases e)⟩, ⟨⟨by show 1 ≤ 3; omega, by show 3 ≤ 4; omega⟩, hm.dst, hi, hm.bal, by show 1 ≤ 1; omega, fun u hu => by
            have hu : u ∈ [v] := hu
            rw [List.mem_singleton.1 hu]
            exact ⟨by rw [hve], by rw [hve]; exact hm.bal, hlen⟩, fun _ e => by cases e⟩⟩
        have hlen : ∀ v, ((p1.propose 1 (r.node m.dst).own).1 = 0) → (p1.propose 1 (r.node m.dst).own).2.1 = v → v.val.length ≤ 100 := fun v h0 e => by
          rw [← e]
          exact (Pp.propose_val hok1 hokn.own h0).2.2
        rcases Pp.propose_cases p1 (r.node m.dst).own with ⟨g1, g2⟩ | ⟨z, g1, g2, g3⟩ | ⟨g0, g1, v, g2, g3, g4⟩
        · rw [g2] at hkk ⊢
          rw [if_neg g1]
          exact ⟨x, key x p1 (Gh.Ext.refl x) rfl (fun b v e => .inl e) hp1 hkk, Gh.Ext.refl x⟩
        · rw [g2] at hkk ⊢
          have hpi := key x p1 (Gh.Ext.refl x) rfl (fun b v e => .inl e) hp1 hkk
          split
          · rename_i u hu
            split at hu
            · rename_i h0
              injection hu with hu
              refine ⟨x, send3 x _ u hpi ?_ ?_ (hlen u h0 hu), Gh.Ext.refl x⟩
              · rw [← hu, g3, hb1]
              · rw [← hu, g3, ← hb1]; exact hp1.some_ _ g1
            · cases hu
          · exact ⟨x, hpi, Gh.Ext.refl x⟩
        · -- proposed anew
          have hnil : p1.props = [] := props_nil (by rw [hs.2.2.2.1]; exact o6) hok1.psrt g1
          have hnone := hp1.none_ hnil
          rw [hb1] at hnone
          obtain ⟨x', hx'⟩ : ∃ x' : Gh, x' = ⟨x.G, fun b => if Bl.eqB b m.bal then some v else x.P b⟩ := ⟨_, rfl⟩
          have hself : Bl.eqB m.bal m.bal = true := by unfold Bl.eqB; simp
          have hPm : x'.P m.bal = some v := by rw [hx']; dsimp only; rw [hself, if_pos rfl]
          have hG : x'.G = x.G := by rw [hx']
          have hPc : ∀ b u, x'.P b = some u → x.P b = some u ∨ (b = m.bal ∧ u = v) := fun b u e => by
            rw [hx'] at e
            dsimp only at e
            split at e
            · rename_i hb
              unfold Bl.eqB at hb
              rw [Bool.and_eq_true, decide_eq_true_eq, decide_eq_true_eq] at hb
              injection e with e
              exact .inr ⟨Bl.ext_ hb.1 hb.2, e.symm⟩
            · exact .inl e
          have hext : x.Ext x' := by
            refine ⟨fun j b e => by rw [hG]; exact e, fun b u e => ?_⟩
            rw [hx']
            dsimp only
            split
            · rename_i hb
              unfold Bl.eqB at hb
              rw [Bool.and_eq_true, decide_eq_true_eq, decide_eq_true_eq] at hb
              rw [Bl.ext_ hb.1 hb.2, hnone] at e
              cases e
            · exact e
          -- the value is safe
          have hsafe : SafeB r.q r.node x m.bal v := by
            refine ⟨p1.prom, ?_, fun j _ hj => by rw [← hb1]; exact (hp1.prom j hj).1, ?_⟩
            · have : p1.q.isQ false p1.prom = true := g0
              rw [hs.1, o2] at this
              exact this
            · rcases g4 with hmust | ⟨hmust, _⟩
              · unfold Pp.must at hmust
                obtain ⟨t, ht, htv⟩ := Option.map_eq_some_iff.1 hmust
                have hmem := getK_mem ht
                have htt := hp1.told _ hmem
                refine .inr ⟨t.bal, by rw [← hb1]; exact htt.2, by rw [← htv]; exact htt.1, fun j _ hj d hd' hl => ?_⟩
                obtain ⟨e, he, hle⟩ := (hp1.prom j hj).2 d hd' (by rw [hb1]; exact hl)
                have := Pp.told_one hok1.tsrt ht1 he
                rw [ht] at this
                injection this with this
                rw [this]
                exact hle
              · refine .inl fun j _ hj c hc hl => ?_
                obtain ⟨e, he, hle⟩ := (hp1.prom j hj).2 c hc (by rw [hb1]; exact hl)
                have := Pp.told_one hok1.tsrt ht1 he
                unfold Pp.must at hmust
                rw [this] at hmust
                cases hmust
          have hLv : L v := by
            rcases g4 with hmust | ⟨_, rfl⟩
            · unfold Pp.must at hmust
              obtain ⟨t, ht, htv⟩ := Option.map_eq_some_iff.1 hmust
              have htt := hp1.told _ (getK_mem ht)
              exact h.val _ v (by rw [← htv]; exact htt.1)
            · exact h.own _ p hpro
          have hp2 : PPI r.node x' m.dst (p1.propose 1 (r.node m.dst).own).2.2 := by
            rw [g3]
            refine ⟨hp1.node, hp1.seen, fun e he => ?_, fun e => ?_, fun e he j hj => ?_, fun e he => ⟨hext.P _ _ (hp1.told e he).1, (hp1.told e he).2⟩, fun j hj => ⟨(hp1.prom j hj).1, fun b hb' hl => (hp1.prom j hj).2 b (by rw [hG] at hb'; exact hb') hl⟩⟩
            · rcases putK_mem he with rfl | ⟨he, _⟩
              · show x'.P p1.bal = some v
                rw [hb1]; exact hPm
              · rw [hnil] at he; exact (List.not_mem_nil he).elim
            · have := putK_has (β := Pz) 1 ⟨v, 0⟩ p1.props
              have e : putK 1 ⟨v, 0⟩ p1.props = [] := e
              rw [e] at this
              exact (List.not_mem_nil this).elim
            · rcases putK_mem he with rfl | ⟨he, _⟩
              · have hj : (0 : Nat).testBit j = true := hj
                rw [Nat.zero_testBit] at hj
                cases hj
              · rw [hnil] at he; exact (List.not_mem_nil he).elim
          have hpi := key x' _ hext hG (fun b u e => by
            rcases hPc b u e with h' | ⟨rfl, rfl⟩
            · exact .inl h'
            · exact .inr ⟨rfl, hLv, hsafe⟩) hp2 hkk
          split
          · rename_i u hu
            split at hu
            · rename_i h0
              injection hu with hu
              refine ⟨x', send3 x' _ u hpi ?_ ?_ (hlen u h0 hu), hext⟩
              · rw [← hu, g2, hb1]
              · rw [← hu, g2]; exact hPm
            · cases hu
          · exact ⟨x', hpi, hext⟩
/-! ### all acts -/
theorem PI.arrive (h : PI r x L) {m : Ml} (hm : m.Ok r.q.n) (hmi : MI r.node x m) : ∃ x', PI (r.arrive m) x' L ∧ x.Ext x' := by
  rcases (by have := hm.kind; omega : m.kind = 1 ∨ m.kind = 2 ∨ m.kind = 3 ∨ m.kind = 4) with hk | hk | hk | hk
  · exact ⟨x, h.arrive1 hm hk, Gh.Ext.refl x⟩
  · exact h.arrive2 hm hmi hk
  · exact h.arrive3 hm hmi hk
  · exact ⟨x, h.arrive4 hm hmi hk, Gh.Ext.refl x⟩
theorem PI.take (h : PI r x L) (a : Int) : ∃ x', PI (r.take a).2 x' L ∧ x.Ext x' := by
  unfold Ro.take
  split
  · rename_i hi
    exact (h.cut a.toNat).arrive (h.ok.row _ (Ro.at_mem hi)) (h.row _ (Ro.at_mem hi))
  · exact ⟨x, h, Gh.Ext.refl x⟩
theorem PI.drop (h : PI r x L) (a : Int) : PI (r.drop a).2 x L := by
  unfold Ro.drop
  split
  · exact h.cut a.toNat
  · exact h
theorem PI.twice (h : PI r x L) (a : Int) : PI (r.twice a).2 x L := by
  unfold Ro.twice
  split
  · rename_i hi
    split
    · exact h
    · exact h.send (h.row _ (Ro.at_mem hi)) (h.ok.row _ (Ro.at_mem hi))
  · exact h
theorem PI.crash (h : PI r x L) (a : Int) : PI (r.crash a).2 x L := by
  unfold Ro.crash
  split
  · rename_i hi
    have hd := (Ro.has_iff.1 hi).2
    have hok := (h.ok.nodes _ (Ro.node_mem hd)).crash
    refine h.turn (x' := x) hd hok (Bl.le_refl _) (Nat.le_refl _) (Gh.Ext.refl x) (fun j b e => .inl e) (fun p hp => by cases hp) (fun p hp => by cases hp) (fun b v e => .inl e) (fun e => h.vot _ e) (fun b e => h.gmax _ b e) (fun e => by cases e)
  · exact h
theorem PI.start (h : PI r x L) (a : Int) (v : List UInt8) : PI (r.start a v).2.2 x (fun u => L u ∨ (u = v ∧ v.length ≤ 100 ∧ r.has a = true)) := by
  have h0 := h.monoL (L' := fun u => L u ∨ (u = v ∧ v.length ≤ 100 ∧ r.has a = true)) fun u e => .inl e
  unfold Ro.start
  split
  · exact h0
  rename_i h1
  split
  · exact h0
  rename_i h2
  split
  · exact h0
  rename_i h3
  have hh : r.has a = true := by simpa using h1
  have hi := Ro.has_iff.1 hh
  have hokn := h.ok.nodes _ (Ro.node_mem hi.2)
  have hsn := hokn.seen
  have hlen := h.ok.len
  have hf : (⟨(r.node a.toNat).seen + 1, a⟩ : Bl).Fine r.q.n := ⟨by show 0 < _ + 1; omega, by show _ + 1 ≤ 4611686018427387904; omega, hi.1, by show a < _; omega⟩
  have hok := hokn.start h.ok.right hf (v := v) (by omega)
  have hnode : a = (a.toNat : Int) := by omega
  have hturn := h0.turn (x' := x) (i := a.toNat) (n := (r.node a.toNat).start r.q ⟨(r.node a.toNat).seen + 1, a⟩ v) hi.2 hok (Bl.le_refl _) (by show _ ≤ _ + 1; omega) (Gh.Ext.refl x) (fun j b e => .inl e) (fun p hp => by
      injection hp with hp
      subst hp
      have hno := Ro.node_set r ((r.node a.toNat).start r.q ⟨(r.node a.toNat).seen + 1, a⟩ v) hi.2
      refine ⟨hnode, by rw [hno, if_pos rfl]; exact Nat.le_refl _, fun e he => (List.not_mem_nil he).elim, fun _ => ?_, fun e he => (List.not_mem_nil he).elim, fun e he => (List.not_mem_nil he).elim, fun j hj => ?_⟩
      · show x.P ⟨(r.node a.toNat).seen + 1, a⟩ = none
        cases e : x.P ⟨(r.node a.toNat).seen + 1, a⟩ with
        | none => rfl
        | some u =>
          have := (h.seenP _ u e).2.2
          dsimp only at this
          omega
      · have hj : (0 : Nat).testBit j = true := hj
        rw [Nat.zero_testBit] at hj
        cases hj) (fun p hp => .inr ⟨rfl, by omega, hh⟩) (fun b u e => .inl e) (fun e => h0.vot _ e) (fun b e => h0.gmax _ b e) (fun e => h0.lrn _ e)
  refine hturn.sends _ (Nat.le_of_eq hlen) fun i hi' => ⟨⟨fun e => (by cases e), fun e => (by cases e), fun e => (by cases e)⟩, ⟨⟨by show 1 ≤ 1; omega, by show 1 ≤ 4; omega⟩, by show a.toNat < r.q.n; omega, hi', hf, Nat.zero_le _, fun u hu => (List.not_mem_nil hu).elim, fun e => by cases e⟩⟩
end
/-! ### promised ballots never fall; what was learned stays -/
/-- From one room to a later one. -/
structure Grow (r r' : Ro) : Prop where
  prom : ∀ i, Bl.le (r.node i).prom (r'.node i).prom
theorem Grow.refl (r : Ro) : Grow r r := ⟨fun _ => Bl.le_refl _⟩
theorem Grow.trans {a b c : Ro} (h : Grow a b) (k : Grow b c) : Grow a c := ⟨fun i => Bl.le_trans (h.prom i) (k.prom i)⟩
theorem Grow.of_node {r r' : Ro} (h : r'.node = r.node) : Grow r r' := ⟨fun i => by rw [h]; exact Bl.le_refl _⟩
theorem Grow.setN {r : Ro} {i : Nat} {n : Nd} (h : Bl.le (r.node i).prom n.prom) : Grow r (r.setN i n) := ⟨fun j => by
  by_cases hi : i < r.nodes.length
  · rw [Ro.node_set r n hi]
    split
    · rename_i e; rw [e]; exact h
    · exact Bl.le_refl _
  · have : r.setN i n = r := by unfold Ro.setN; rw [List.set_eq_of_length_le (by omega)]
    rw [this]; exact Bl.le_refl _⟩
theorem Nd.gather_prom (n : Nd) (m : Ml) : (n.gather m).2.prom = n.prom ∧ (n.gather m).2.knows = n.knows := by
  unfold Nd.gather
  split
  · exact ⟨rfl, rfl⟩
  split
  · exact ⟨rfl, rfl⟩
  split <;> exact ⟨rfl, rfl⟩
theorem Nd.count_prom (n : Nd) (m : Ml) : (n.count m).prom = n.prom ∧ (n.knows = true → (n.count m).knows = true) := by
  unfold Nd.count
  split
  · exact ⟨rfl, fun h => h⟩
  split
  · exact ⟨rfl, fun h => h⟩
  split
  · exact ⟨rfl, fun h => h⟩
  · exact ⟨rfl, fun _ => rfl⟩
theorem Ro.arrive_grow (r : Ro) (m : Ml) : Grow r (r.arrive m) := by
  have hp := (Nd.promise_same (r.node m.dst) m.bal).2.2.2.2.2.2.1
  unfold Ro.arrive
  split
  · split
    · exact (Grow.setN hp).trans (Grow.of_node (Ro.send_node _ _))
    · exact Grow.setN hp
  split
  · have hg := (Nd.gather_prom (r.node m.dst) m).1
    split
    · exact (Grow.setN (by rw [hg]; exact Bl.le_refl _)).trans (Grow.of_node (Ro.sends_node _ _ _ _ _ _))
    · exact Grow.setN (by rw [hg]; exact Bl.le_refl _)
  split
  · split
    · exact (Grow.setN (by exact hp)).trans (Grow.of_node (Ro.send_node _ _))
    · exact Grow.setN hp
  split
  · exact Grow.setN (by rw [(Nd.count_prom _ _).1]; exact Bl.le_refl _)
  · exact Grow.refl r
theorem Ro.take_grow (r : Ro) (a : Int) : Grow r (r.take a).2 := by
  unfold Ro.take
  split
  · exact (Grow.of_node (r := r) (r' := r.cut a.toNat) rfl).trans (Ro.arrive_grow _ _)
  · exact Grow.refl r
theorem Ro.drop_grow (r : Ro) (a : Int) : Grow r (r.drop a).2 := by
  unfold Ro.drop
  split
  · exact Grow.of_node rfl
  · exact Grow.refl r
theorem Ro.twice_grow (r : Ro) (a : Int) : Grow r (r.twice a).2 := by
  unfold Ro.twice
  split
  · split
    · exact Grow.refl r
    · exact Grow.of_node (Ro.send_node _ _)
  · exact Grow.refl r
theorem Ro.crash_grow (r : Ro) (a : Int) : Grow r (r.crash a).2 := by
  unfold Ro.crash
  split
  · exact Grow.setN (Bl.le_refl _)
  · exact Grow.refl r
theorem Ro.start_grow (r : Ro) (a : Int) (v : List UInt8) : Grow r (r.start a v).2.2 := by
  unfold Ro.start
  split
  · exact Grow.refl r
  split
  · exact Grow.refl r
  split
  · exact Grow.refl r
  · exact (Grow.setN (i := a.toNat) (n := (r.node a.toNat).start r.q ⟨(r.node a.toNat).seen + 1, a⟩ v) (Bl.le_refl _)).trans (Grow.of_node (Ro.sends_node _ _ _ _ _ _))
end Go.Proofs.Ytjapmolmgfaocaa
