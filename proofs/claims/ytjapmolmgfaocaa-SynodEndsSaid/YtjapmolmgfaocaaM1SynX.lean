/- Of the proofs of layer 4, merged: SynX. -/
import Derived.Test.YtjapmolmgfaocaaMProP
import Derived.Test.YtjapmolmgfaocaaMQuP

/- Layer 11, plain: what always holds of what nodes promised, voted for and learned: at most one value a ballot, at most one value chosen. No program is named here. -/
namespace Go.Proofs.Ytjapmolmgfaocaa

/-- Not less, the other way about. -/
def Bl.le (a b : Bl) : Prop := Bl.less b a = false
theorem Bl.le_refl (a : Bl) : Bl.le a a := Bl.less_self a
theorem Bl.le_trans {a b c : Bl} (h : Bl.le a b) (k : Bl.le b c) : Bl.le a c := Bl.less_trans_f h k
theorem Bl.le_of_less {a b : Bl} (h : Bl.less a b = true) : Bl.le a b := Bl.less_f_of h
theorem Bl.le_antisymm {a b : Bl} (h : Bl.le a b) (k : Bl.le b a) : a = b := Bl.eq_of k h
theorem Bl.le_total (a b : Bl) : Bl.le a b ∨ Bl.less b a = true := by unfold Bl.le; cases Bl.less b a <;> simp
theorem Bl.less_le {a b c : Bl} (h : Bl.less a b = true) (k : Bl.le b c) : Bl.less a c = true := by
  rcases Bl.le_total c a with h1 | h1
  · have := Bl.le_trans k h1
    unfold Bl.le at this
    rw [h] at this
    cases this
  · exact h1
theorem Bl.le_less {a b c : Bl} (h : Bl.le a b) (k : Bl.less b c = true) : Bl.less a c = true := by
  rcases Bl.le_total c a with h1 | h1
  · have := Bl.le_trans h1 h
    unfold Bl.le at this
    rw [k] at this
    cases this
  · exact h1
theorem Bl.zero_le (b : Bl) (h : 0 ≤ b.node) : Bl.le Bl.zero b := by
  unfold Bl.le Bl.less Bl.zero
  split
  · simp; omega
  · simp

/-! ### a proposer: what it was told -/
section
variable {p : Pp}
theorem Pp.told_one (hs : SrtK p.told) (h1 : ∀ e ∈ p.told, e.1 = 1) {e : Nat × Tl} (he : e ∈ p.told) : getK p.told 1 = some e.2 := by
  have := getK_of_mem hs he
  rw [h1 e he] at this
  exact this
theorem hear_facts (hs : SrtK p.told) (h1 : ∀ e ∈ p.told, e.1 = 1) (node : Nat) (v : Vt) (hv : v.slot = 1) :
    (∀ e ∈ (p.hear node v).told, e ∈ p.told ∨ (e.2.bal = v.bal ∧ e.2.val = v.val)) ∧ (∃ e ∈ (p.hear node v).told, Bl.le v.bal e.2.bal) ∧ (∀ e ∈ p.told, ∃ e' ∈ (p.hear node v).told, Bl.le e.2.bal e'.2.bal) ∧ SrtK (p.hear node v).told ∧ (∀ e ∈ (p.hear node v).told, e.1 = 1) := by
  unfold Pp.hear
  rw [hv]
  split
  · rename_i hw
    have hmem := putK_has (β := Tl) 1 ⟨node, v.bal, v.val⟩ p.told
    refine ⟨fun e he => ?_, ⟨_, hmem, Bl.le_refl _⟩, fun e he => ⟨_, hmem, ?_⟩, hs.put _ _, fun e he => ?_⟩
    · rcases putK_mem he with rfl | ⟨he, _⟩
      · exact .inr ⟨rfl, rfl⟩
      · exact .inl he
    · rw [Pp.told_one hs h1 he] at hw
      unfold wins at hw
      dsimp only at hw
      rw [Bool.or_eq_true, Bool.and_eq_true] at hw
      rcases hw with h | ⟨h, _⟩
      · exact Bl.le_of_less h
      · unfold Bl.eqB at h
        rw [Bool.and_eq_true, decide_eq_true_eq, decide_eq_true_eq] at h
        rw [Bl.ext_ h.1 h.2]
        exact Bl.le_refl _
    · rcases putK_mem he with rfl | ⟨he, _⟩
      · rfl
      · exact h1 e he
  · rename_i hw
    refine ⟨fun e he => .inl he, ?_, fun e he => ⟨e, he, Bl.le_refl _⟩, hs, h1⟩
    cases hg : getK p.told 1 with
    | none => rw [hg] at hw; exact absurd rfl hw
    | some t =>
      rw [hg] at hw
      unfold wins at hw
      dsimp only at hw
      refine ⟨(1, t), getK_mem hg, ?_⟩
      unfold Bl.le
      cases hl : Bl.less t.bal v.bal with
      | false => rfl
      | true => rw [hl] at hw; exact absurd rfl hw
theorem hears_facts (node : Nat) : ∀ (l : List Vt) (p : Pp), SrtK p.told → (∀ e ∈ p.told, e.1 = 1) → (∀ v ∈ l, v.slot = 1) →
    (∀ e ∈ (p.hears node l).told, e ∈ p.told ∨ ∃ v ∈ l, e.2.bal = v.bal ∧ e.2.val = v.val) ∧ (∀ v ∈ l, ∃ e ∈ (p.hears node l).told, Bl.le v.bal e.2.bal) ∧ (∀ e ∈ p.told, ∃ e' ∈ (p.hears node l).told, Bl.le e.2.bal e'.2.bal)
  | [], _, _, _, _ => ⟨fun e he => .inl he, fun v hv => (List.not_mem_nil hv).elim, fun e he => ⟨e, he, Bl.le_refl _⟩⟩
  | v :: r, p, hs, h1, hv => by
    have e : p.hears node (v :: r) = (p.hear node v).hears node r := rfl
    rw [e]
    obtain ⟨a1, a2, a3, a4, a5⟩ := hear_facts hs h1 node v (hv v (List.mem_cons_self ..))
    obtain ⟨b1, b2, b3⟩ := hears_facts node r _ a4 a5 fun u hu => hv u (List.mem_cons_of_mem _ hu)
    refine ⟨fun e he => ?_, fun u hu => ?_, fun e he => ?_⟩
    · rcases b1 e he with h | ⟨u, hu, h⟩
      · rcases a1 e h with h' | h'
        · exact .inl h'
        · exact .inr ⟨v, List.mem_cons_self .., h'⟩
      · exact .inr ⟨u, List.mem_cons_of_mem _ hu, h⟩
    · rcases List.mem_cons.1 hu with rfl | hu
      · obtain ⟨e, he, hl⟩ := a2
        obtain ⟨e', he', hl'⟩ := b3 e he
        exact ⟨e', he', Bl.le_trans hl hl'⟩
      · exact b2 u hu
    · obtain ⟨e', he', hl⟩ := a3 e he
      obtain ⟨e2, he2, hl2⟩ := b3 e' he'
      exact ⟨e2, he2, Bl.le_trans hl hl2⟩
end

/-! ### the invariant -/
/-- Who voted at which ballot, ever; what was proposed at a ballot; which values there are. -/
structure Gh where
  G : Nat → Bl → Prop
  P : Bl → Option (List UInt8)
structure Gh.Ext (x y : Gh) : Prop where
  G : ∀ i b, x.G i b → y.G i b
  P : ∀ b v, x.P b = some v → y.P b = some v
theorem Gh.Ext.refl (x : Gh) : x.Ext x := ⟨fun _ _ h => h, fun _ _ h => h⟩
theorem Gh.Ext.trans {x y z : Gh} (h : x.Ext y) (k : y.Ext z) : x.Ext z := ⟨fun i b e => k.G i b (h.G i b e), fun b v e => k.P b v (h.P b v e)⟩
/-- What a proposer knows. -/
structure PPI (nd : Nat → Nd) (x : Gh) (i : Nat) (p : Pp) : Prop where
  node : p.bal.node = (i : Int)
  seen : p.bal.n ≤ (nd i).seen
  some_ : ∀ e ∈ p.props, x.P p.bal = some e.2.val
  none_ : p.props = [] → x.P p.bal = none
  acc : ∀ e ∈ p.props, ∀ j, e.2.acc.testBit j = true → x.G j p.bal
  told : ∀ e ∈ p.told, x.P e.2.bal = some e.2.val ∧ Bl.less e.2.bal p.bal = true
  prom : ∀ j, p.prom.testBit j = true → Bl.le p.bal (nd j).prom ∧ ∀ b, x.G j b → Bl.less b p.bal = true → ∃ e ∈ p.told, Bl.le b e.2.bal
/-- A value is safe at a ballot. -/
def SafeB (q : Qm) (nd : Nat → Nd) (x : Gh) (b : Bl) (v : List UInt8) : Prop :=
  ∃ Q, q.isQ false Q = true ∧ (∀ j, j < q.n → Q.testBit j = true → Bl.le b (nd j).prom) ∧
    ((∀ j, j < q.n → Q.testBit j = true → ∀ c, x.G j c → Bl.less c b = true → False) ∨ ∃ c, Bl.less c b = true ∧ x.P c = some v ∧ ∀ j, j < q.n → Q.testBit j = true → ∀ d, x.G j d → Bl.less d b = true → Bl.le d c)
structure MI (nd : Nat → Nd) (x : Gh) (m : Ml) : Prop where
  two : m.kind = 2 → Bl.le m.bal (nd m.frm).prom ∧ (∀ b, x.G m.frm b → Bl.less b m.bal = true → ∃ v ∈ m.votes, Bl.le b v.bal) ∧ ∀ v ∈ m.votes, x.P v.bal = some v.val
  three : m.kind = 3 → ∀ v ∈ m.votes, v.bal = m.bal ∧ x.P m.bal = some v.val
  four : m.kind = 4 → x.G m.frm m.bal
/-- Chosen at a ballot. -/
def Chosen (q : Qm) (x : Gh) (v : List UInt8) : Prop := ∃ b A, q.isQ true A = true ∧ (∀ j, j < q.n → A.testBit j = true → x.G j b) ∧ x.P b = some v
structure PI (r : Ro) (x : Gh) (L : List UInt8 → Prop) : Prop where
  ok : r.Ok
  pro : ∀ i p, (r.node i).pro = some p → PPI r.node x i p
  own : ∀ i p, (r.node i).pro = some p → L (r.node i).own
  seenP : ∀ b v, x.P b = some v → 0 ≤ b.node ∧ b.node < (r.q.n : Int) ∧ b.n ≤ (r.node b.node.toNat).seen
  val : ∀ b v, x.P b = some v → L v
  vot : ∀ i, (r.node i).vote.slot = 1 → x.P (r.node i).vote.bal = some (r.node i).vote.val ∧ x.G i (r.node i).vote.bal ∧ Bl.le (r.node i).vote.bal (r.node i).prom
  gmax : ∀ i b, x.G i b → (r.node i).vote.slot = 1 ∧ Bl.le b (r.node i).vote.bal
  row : ∀ m ∈ r.row, MI r.node x m
  safe : ∀ b v, x.P b = some v → SafeB r.q r.node x b v
  lrn : ∀ i, (r.node i).knows = true → Chosen r.q x (r.node i).learned
theorem Chosen.ext {q : Qm} {x y : Gh} {v : List UInt8} (h : Chosen q x v) (he : x.Ext y) : Chosen q y v := by
  obtain ⟨b, A, h1, h2, h3⟩ := h
  exact ⟨b, A, h1, fun j hj e => he.G j b (h2 j hj e), he.P b v h3⟩
section
variable {r : Ro} {x : Gh} {L : List UInt8 → Prop}
theorem agree_up (h : PI r x L) {b : Bl} {v : List UInt8} {A : Nat} (hA : r.q.isQ true A = true) (hG : ∀ j, j < r.q.n → A.testBit j = true → x.G j b) (hP : x.P b = some v) :
    ∀ (N : Nat) (d : Bl) (u : List UInt8), d.n * 100 + d.node.toNat < N → Bl.less b d = true → x.P d = some u → u = v
  | 0, d, u, hN, _, _ => by omega
  | N + 1, d, u, hN, hl, hd => by
    obtain ⟨Q, h1, h2, h3⟩ := h.safe d u hd
    obtain ⟨j, hjn, hjQ, hjA⟩ := Qm.meets (q := r.q) h.ok.right h1 hA
    rcases h3 with h3 | ⟨c, c1, c2, c3⟩
    · exact (h3 j hjn hjQ b (hG j hjn hjA) hl).elim
    · have hbc := c3 j hjn hjQ b (hG j hjn hjA) hl
      rcases Bl.le_total c b with e | e
      · have := Bl.le_antisymm hbc e
        subst this
        rw [hP] at c2
        injection c2 with c2
        exact c2.symm
      · refine agree_up h hA hG hP N c u ?_ e c2
        have hc := h.seenP c u c2
        have hdd := h.seenP d u hd
        have hcn := (h.ok.n12)
        unfold Bl.less at c1
        split at c1
        · simp only [decide_eq_true_eq] at c1
          omega
        · simp only [decide_eq_true_eq] at c1
          omega
/-- AT MOST ONE VALUE IS CHOSEN. -/
theorem Chosen.one (h : PI r x L) {v u : List UInt8} (hv : Chosen r.q x v) (hu : Chosen r.q x u) : u = v := by
  obtain ⟨b, A, a1, a2, a3⟩ := hv
  obtain ⟨c, B, b1, b2, b3⟩ := hu
  rcases Bl.le_total b c with e | e
  · rcases Bl.le_total c b with e' | e'
    · have := Bl.le_antisymm e e'
      subst this
      rw [a3] at b3
      injection b3 with b3
      exact b3.symm
    · exact agree_up h a1 a2 a3 _ c u (Nat.lt_succ_self _) e' b3
  · exact (agree_up h b1 b2 b3 _ b v (Nat.lt_succ_self _) e a3).symm
end
/-! ### how it is kept -/
section
variable {nd nd' : Nat → Nd} {x x' : Gh}
theorem MI.mono {m : Ml} (h : MI nd x m) (hp : ∀ j, Bl.le (nd j).prom (nd' j).prom) (hx : x.Ext x') (hg : ∀ j b, x'.G j b → x.G j b ∨ Bl.le (nd j).prom b) : MI nd' x' m :=
  ⟨fun e => ⟨Bl.le_trans (h.two e).1 (hp _), (fun b hb hl => by
    rcases hg _ b hb with h' | h'
    · exact (h.two e).2.1 b h' hl
    · have := Bl.le_trans (h.two e).1 h'
      unfold Bl.le at this
      rw [hl] at this
      cases this), fun v hv => hx.P _ _ ((h.two e).2.2 v hv)⟩, fun e v hv => ⟨(h.three e v hv).1, hx.P _ _ (h.three e v hv).2⟩, fun e => hx.G _ _ (h.four e)⟩
theorem SafeB.mono {q : Qm} {b : Bl} {v : List UInt8} (h : SafeB q nd x b v) (hp : ∀ j, Bl.le (nd j).prom (nd' j).prom) (hx : x.Ext x') (hg : ∀ j b, x'.G j b → x.G j b ∨ Bl.le (nd j).prom b) : SafeB q nd' x' b v := by
  obtain ⟨Q, h1, h2, h3⟩ := h
  have key : ∀ j, j < q.n → Q.testBit j = true → ∀ c, x'.G j c → Bl.less c b = true → x.G j c := fun j hj hQ c hc hl => by
    rcases hg j c hc with h' | h'
    · exact h'
    · have := Bl.le_trans (h2 j hj hQ) h'
      unfold Bl.le at this
      rw [hl] at this
      cases this
  refine ⟨Q, h1, fun j hj hQ => Bl.le_trans (h2 j hj hQ) (hp j), ?_⟩
  rcases h3 with h3 | ⟨c, c1, c2, c3⟩
  · exact .inl fun j hj hQ c hc hl => h3 j hj hQ c (key j hj hQ c hc hl) hl
  · exact .inr ⟨c, c1, hx.P _ _ c2, fun j hj hQ d hd hl => c3 j hj hQ d (key j hj hQ d hd hl) hl⟩
theorem PPI.mono {i : Nat} {p : Pp} (h : PPI nd x i p) (hp : ∀ j, Bl.le (nd j).prom (nd' j).prom) (hs : (nd i).seen ≤ (nd' i).seen) (hx : x.Ext x') (hg : ∀ j b, x'.G j b → x.G j b ∨ Bl.le (nd j).prom b) (hn : p.props = [] → x'.P p.bal = none) : PPI nd' x' i p :=
  ⟨h.node, Nat.le_trans h.seen hs, fun e he => hx.P _ _ (h.some_ e he), hn, fun e he j hj => hx.G _ _ (h.acc e he j hj), fun e he => ⟨hx.P _ _ (h.told e he).1, (h.told e he).2⟩, fun j hj => ⟨Bl.le_trans (h.prom j hj).1 (hp j), fun b hb hl => by
    rcases hg j b hb with h' | h'
    · exact (h.prom j hj).2 b h' hl
    · have := Bl.le_trans (h.prom j hj).1 h'
      unfold Bl.le at this
      rw [hl] at this
      cases this⟩⟩
end
section
variable {r : Ro} {x : Gh} {L : List UInt8 → Prop}
theorem Ro.send_node (r : Ro) (m : Ml) : (r.send m).node = r.node := by unfold Ro.node; rw [(Ro.send_same r m).2]
theorem Ro.sends_node (r : Ro) (k f kd : Nat) (b : Bl) (vs : List Vt) : (r.sends k f kd b vs).node = r.node := by unfold Ro.node; rw [(Ro.sends_same r k f kd b vs).2]
theorem PI.rowTo {r' : Ro} (h : PI r x L) (hq : r'.q = r.q) (hn : r'.node = r.node) (hok : r'.Ok) (hr : ∀ m ∈ r'.row, m ∈ r.row ∨ MI r.node x m) : PI r' x L :=
  ⟨hok, by rw [hn]; exact h.pro, by rw [hn]; exact h.own, by rw [hn, hq]; exact h.seenP, h.val, by rw [hn]; exact h.vot, by rw [hn]; exact h.gmax, fun m hm => by
    rw [hn]
    rcases hr m hm with h' | h'
    · exact h.row m h'
    · exact h', by rw [hn, hq]; exact h.safe, by rw [hn, hq]; exact h.lrn⟩
theorem PI.cut (h : PI r x L) (k : Nat) : PI (r.cut k) x L := h.rowTo rfl rfl (h.ok.cut k) fun _ hm => .inl ((List.eraseIdx_sublist r.row k).subset hm)
theorem PI.send (h : PI r x L) {m : Ml} (hm : MI r.node x m) (hmo : m.Ok r.q.n) : PI (r.send m) x L := h.rowTo (Ro.send_same r m).1 (Ro.send_node r m) (h.ok.send hmo) fun m' hm' => by
  unfold Ro.send at hm'
  split at hm'
  · exact .inl hm'
  · rcases List.mem_append.1 hm' with h' | h'
    · exact .inl h'
    · rw [List.mem_singleton.1 h']; exact .inr hm
theorem PI.sends (h : PI r x L) {f kd : Nat} {b : Bl} {vs : List Vt} : ∀ (k : Nat), k ≤ r.q.n → (∀ i, i < r.q.n → MI r.node x ⟨kd, f, i, b, vs⟩ ∧ (⟨kd, f, i, b, vs⟩ : Ml).Ok r.q.n) → PI (r.sends k f kd b vs) x L
  | 0, _, _ => h
  | k + 1, hk, hm => by
    unfold Ro.sends
    refine (PI.sends h k (by omega) hm).send ?_ ?_
    · rw [Ro.sends_node]; exact (hm k (by omega)).1
    · rw [(Ro.sends_same r k f kd b vs).1]; exact (hm k (by omega)).2
theorem PI.monoL (h : PI r x L) {L' : List UInt8 → Prop} (hl : ∀ v, L v → L' v) : PI r x L' := ⟨h.ok, h.pro, fun i p e => hl _ (h.own i p e), h.seenP, fun b v e => hl _ (h.val b v e), h.vot, h.gmax, h.row, h.safe, h.lrn⟩
/-- A node turned; what is told of the turned one is to be shown. -/
theorem PI.turn {x' : Gh} {i : Nat} {n : Nd} (h : PI r x L) (hi : i < r.nodes.length) (hn : n.Ok r.q) (hp : Bl.le (r.node i).prom n.prom) (hs : (r.node i).seen ≤ n.seen) (hx : x.Ext x') (hg : ∀ j b, x'.G j b → x.G j b ∨ (j = i ∧ Bl.le (r.node i).prom b))
    (hpro : ∀ p, n.pro = some p → PPI (r.setN i n).node x' i p) (hown : ∀ p, n.pro = some p → L n.own) (hP : ∀ b v, x'.P b = some v → x.P b = some v ∨ (b.node = (i : Int) ∧ b.n ≤ n.seen ∧ L v ∧ SafeB r.q (r.setN i n).node x' b v))
    (hvot : n.vote.slot = 1 → x'.P n.vote.bal = some n.vote.val ∧ x'.G i n.vote.bal ∧ Bl.le n.vote.bal n.prom) (hgm : ∀ b, x'.G i b → n.vote.slot = 1 ∧ Bl.le b n.vote.bal) (hl : n.knows = true → Chosen r.q x' n.learned) : PI (r.setN i n) x' L := by
  have hno : ∀ j, (r.setN i n).node j = if j = i then n else r.node j := fun j => Ro.node_set r n hi j
  have hpj : ∀ j, Bl.le (r.node j).prom ((r.setN i n).node j).prom := fun j => by
    rw [hno]
    split
    · rename_i e; rw [e]; exact hp
    · exact Bl.le_refl _
  have hsj : ∀ j, (r.node j).seen ≤ ((r.setN i n).node j).seen := fun j => by
    rw [hno]
    split
    · rename_i e; rw [e]; exact hs
    · exact Nat.le_refl _
  have hgj : ∀ j b, x'.G j b → x.G j b ∨ Bl.le (r.node j).prom b := fun j b e => by
    rcases hg j b e with h' | ⟨rfl, h'⟩
    · exact .inl h'
    · exact .inr h'
  have hin : i < r.q.n := by rw [← h.ok.len]; exact hi
  refine ⟨h.ok.setN hn, fun j p hjp => ?_, fun j p hjp => ?_, fun b v hb => ?_, fun b v hb => ?_, fun j hj => ?_, fun j b hb => ?_, fun m hm => (h.row m hm).mono hpj hx hgj, fun b v hb => ?_, fun j hj => ?_⟩
  · by_cases e : j = i
    · rw [hno, if_pos e] at hjp
      rw [e]
      exact hpro p hjp
    · rw [hno, if_neg e] at hjp
      have hpp := h.pro j p hjp
      refine hpp.mono hpj (hsj j) hx hgj fun e0 => ?_
      cases hc : x'.P p.bal with
      | none => rfl
      | some v =>
        rcases hP _ v hc with h' | ⟨h', _⟩
        · rw [hpp.none_ e0] at h'; cases h'
        · rw [hpp.node] at h'
          omega
  · by_cases e : j = i
    · rw [hno, if_pos e] at hjp ⊢
      exact hown p hjp
    · rw [hno, if_neg e] at hjp ⊢
      exact h.own j p hjp
  · rcases hP b v hb with h' | ⟨h1, h2, _⟩
    · have := h.seenP b v h'
      exact ⟨this.1, this.2.1, Nat.le_trans this.2.2 (hsj _)⟩
    · rw [h1, Int.toNat_natCast, hno, if_pos rfl]
      exact ⟨by omega, (by show (i : Int) < (r.q.n : Int); omega), h2⟩
  · rcases hP b v hb with h' | ⟨_, _, h', _⟩
    · exact h.val b v h'
    · exact h'
  · by_cases e : j = i
    · rw [hno, if_pos e] at hj ⊢
      rw [e]
      exact hvot hj
    · rw [hno, if_neg e] at hj ⊢
      have := h.vot j hj
      exact ⟨hx.P _ _ this.1, hx.G _ _ this.2.1, this.2.2⟩
  · by_cases e : j = i
    · rw [hno, if_pos e]
      rw [e] at hb
      exact hgm b hb
    · rw [hno, if_neg e]
      rcases hg j b hb with h' | ⟨h', _⟩
      · exact h.gmax j b h'
      · exact absurd h' e
  · rcases hP b v hb with h' | ⟨_, _, _, h'⟩
    · exact (h.safe b v h').mono hpj hx hgj
    · exact h'
  · by_cases e : j = i
    · rw [hno, if_pos e] at hj ⊢
      exact hl hj
    · rw [hno, if_neg e] at hj ⊢
      exact (h.lrn j hj).ext hx
end
end Go.Proofs.Ytjapmolmgfaocaa
