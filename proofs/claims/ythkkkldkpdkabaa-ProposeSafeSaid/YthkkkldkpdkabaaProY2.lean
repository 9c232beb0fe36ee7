/- ProposeSafe: a round. -/
import Derived.Test.YthkkkldkpdkabaaProY
import Derived.Test.YthkkkldkpdkabaaProK
namespace Go.Proofs.Ythkkkldkpdkabaa
open Go.RowKit Go.Maps

theorem RdG.of_own {w : World} {base n c : Nat} {A : Option Addr} {l : List UInt8} (h : w.ownsRow base 5 1 (.slice A n c) n (u8s l)) (hn : l.length = n) : RdG w (fun k => (Value.slice A n c).ownBlock = some k) A n l := by
  refine ⟨hn, fun h0 => ?_⟩
  rcases h.2 with ⟨_, h1⟩ | ⟨g, cap, cur, hv, _, hh, _⟩
  · omega
  · have hA : A = some ⟨g, 0, none⟩ := by injection hv
    subst hA
    refine ⟨g, 0, rfl, rfl, (Array.getElem?_eq_some_iff.1 hh).1, fun j hj => ?_⟩
    have := h.cells (g := g) rfl j (.int .u8 (l[j].toNat : Int)) (by simp [u8s, hj])
    rwa [Addr.add_lit] at this
theorem Pp.promise_zero {p : Pp} {x : Int} {l : List Vt} (h : p.isNode x = true) (h2 : mayL p.bal p.base l = true) : (p.promise x l).1 = 0 := by
  unfold Pp.promise
  rw [if_neg (by rw [h]; simp), if_neg (by rw [h2]; simp)]
  split <;> rfl
theorem mayL_vote {b : Bl} {x : Option (Bl × List UInt8)} (h : ∀ y, x = some y → Bl.less y.1 b = true ∧ y.1.right = true ∧ y.2.length ≤ 100) : mayL b 1 (voteL x) = true := by
  cases x with
  | none => rfl
  | some y =>
    obtain ⟨h1, h2, h3⟩ := h y rfl
    show (decide (1 ≤ 1) && (y.1.right && (Bl.less y.1 b && (decide (y.2.length ≤ 100) && true)))) = true
    rw [h1, h2, decide_eq_true h3]
    rfl
/-- Ahead of a round of the first loop within: the nodes below k were asked. -/
structure R1 (W1 w : World) (gv gp g gb k : Nat) (q : Qm) (b : Bl) (F G : Nat → Prop) (vt : Vts) (first : List UInt8) (fv : Value) (p : Pp) : Prop where
  own : OwP W1 w F g p
  sf : Sf W1 w gv gp F G vt first fv
  q : p.q = q
  bal : p.bal = b
  base : p.base = 1
  props : p.props = []
  told : p.told.length ≤ k
  lt : p.prom < 2 ^ k
  ti : TI p 1 (gather vt p.prom k)
  bb : Bk w gb 27 #[.int .u64 (b.n : Int), .int .i64 b.node]
  fbb : ¬ F gb
/-- Ahead of a round of the second one: the votes are cast for m, a have accepted. -/
structure R2 (W1 w : World) (gv gp g gb gx k a m : Nat) (q : Qm) (b : Bl) (F G : Nat → Prop) (vt : Vts) (first : List UInt8) (fv : Value) (v : List UInt8) (A : Option Addr) (c : Nat) (p : Pp) : Prop where
  own : OwP W1 w F g p
  sf : Sf W1 w gv gp F G (castV vt m b v) first fv
  q : p.q = q
  props : p.props = [(1, ⟨v, a⟩)]
  lt : a < 2 ^ k
  rd : RdG w G A v.length v
  cap : v.length ≤ c ∧ c ≤ 9223372036854775807
  bx : Bk w gx 48 #[.int .u64 1, .int .u64 (b.n : Int), .int .i64 b.node, .slice A v.length c]
  fbx : ¬ F gx
  bb : Bk w gb 27 #[.int .u64 (b.n : Int), .int .i64 b.node]
  fbb : ¬ F gb
section
variable {W1 w w' : World} {gv gp g gb gx k a m : Nat} {q : Qm} {b : Bl} {F G : Nat → Prop} {vt : Vts} {first v : List UInt8} {fv : Value} {A : Option Addr} {c : Nat} {p : Pp}
theorem R1.below (h : R1 W1 w gv gp g gb k q b F G vt first fv p) (hb : Below w.heap.size w w') : R1 W1 w' gv gp g gb k q b F G vt first fv p := ⟨h.own.below hb, h.sf.below hb, h.q, h.bal, h.base, h.props, h.told, h.lt, h.ti, h.bb.below hb h.bb.lt, h.fbb⟩
theorem R2.below (h : R2 W1 w gv gp g gb gx k a m q b F G vt first fv v A c p) (hb : Below w.heap.size w w') : R2 W1 w' gv gp g gb gx k a m q b F G vt first fv v A c p := ⟨h.own.below hb, h.sf.below hb, h.q, h.props, h.lt, h.rd.below hb, h.cap, h.bx.below hb h.bx.lt, h.fbx, h.bb.below hb h.bb.lt, h.fbb⟩
theorem OwP.sets {F2 : Nat → Prop} (h : OwP W1 w F g p) (hk : Kp F2 w w') (hd : ∀ j, F j → ¬ F2 j) (hg : ∀ j, F2 j → W1.heap.size ≤ j) : OwP W1 w' F g p := h.kp hk hg hd
theorem R1.turn (h : R1 W1 w gv gp g gb k q b F G vt first fv p) {n : Nat} (hn : n < 12) {w2 : World} (hw : w2 = (w.setCell ⟨gp, n * 2, none⟩ (.int .u64 (b.n : Int))).setCell ⟨gp, n * 2 + 1, none⟩ (.int .i64 b.node)) : R1 W1 w2 gv gp g gb k q b F G vt first fv p := by
  obtain ⟨h1, hk⟩ := h.sf.turn hn b hw
  obtain ⟨pr, hp⟩ := h.sf.pa
  exact ⟨h.own.sets hk (fun j hf e => h.sf.fgp (by rw [← e]; exact hf)) fun j e => by subst e; exact h.sf.gep, h1, h.q, h.bal, h.base, h.props, h.told, h.lt, h.ti, h.bb.kp hk (bk_types h.bb hp (by decide)), h.fbb⟩
theorem R2.turn (h : R2 W1 w gv gp g gb gx k a m q b F G vt first fv v A c p) {n : Nat} (hn : n < 12) {w2 : World} (hw : w2 = (w.setCell ⟨gp, n * 2, none⟩ (.int .u64 (b.n : Int))).setCell ⟨gp, n * 2 + 1, none⟩ (.int .i64 b.node)) : R2 W1 w2 gv gp g gb gx k a m q b F G vt first fv v A c p := by
  obtain ⟨h1, hk⟩ := h.sf.turn hn b hw
  obtain ⟨pr, hp⟩ := h.sf.pa
  exact ⟨h.own.sets hk (fun j hf e => h.sf.fgp (by rw [← e]; exact hf)) fun j e => by subst e; exact h.sf.gep, h1, h.q, h.props, h.lt, h.rd.kp hk (fun j hg e => h.sf.ggp (by rw [← e]; exact hg)), h.cap, h.bx.kp hk (bk_types h.bx hp (by decide)), h.fbx, h.bb.kp hk (bk_types h.bb hp (by decide)), h.fbb⟩
theorem R2.vote (h : R2 W1 w gv gp g gb gx k a a q b F G vt first fv v A c p) (hn : k < 12) (hb : b.Ok) {w1 w2 : World}
    (hw1 : w1 = w.alloc (.cells #[.int .u64 1, .int .u64 (b.n : Int), .int .i64 b.node, .slice A v.length c] 48)) (hw : w2 = w1.setCell ⟨gv, k, none⟩ (.slice (some ⟨w.heap.size, 0, none⟩) 1 1)) :
    R2 W1 w2 gv gp g gb gx k a (a ||| 2 ^ k) q b F (fun j => G j ∨ j = w.heap.size) vt first fv v A c p := by
  obtain ⟨h1, hk⟩ := h.sf.vote hn hb h.cap h.rd hw1 hw
  obtain ⟨sl, hs, _⟩ := h.sf.va
  rw [← castV_on] at h1
  exact ⟨h.own.sets hk (fun j hf e => h.sf.fgv (by rw [← e]; exact hf)) fun j e => by subst e; exact h.sf.gev, h1, h.q, h.props, h.lt, (h.rd.kp hk (fun j hg e => h.sf.ggv (by rw [← e]; exact hg))).mono fun _ => .inl, h.cap, h.bx.kp hk (bk_types h.bx hs (by decide)), h.fbx, h.bb.kp hk (bk_types h.bb hs (by decide)), h.fbb⟩
/-- A node that is not asked. -/
theorem R1.pass (h : R1 W1 w gv gp g gb k q b F G vt first fv p) : R1 W1 w gv gp g gb (k + 1) q b F G vt first fv p :=
  ⟨h.own, h.sf, h.q, h.bal, h.base, h.props, by have := h.told; omega, lt_up h.lt, by rw [gather_off h.lt]; exact h.ti, h.bb, h.fbb⟩
theorem R2.pass (h : R2 W1 w gv gp g gb gx k a m q b F G vt first fv v A c p) : R2 W1 w gv gp g gb gx (k + 1) a m q b F G vt first fv v A c p := ⟨h.own, h.sf, h.q, h.props, lt_up h.lt, h.rd, h.cap, h.bx, h.fbx, h.bb, h.fbb⟩
def R1O (W1 : World) (gv gp g gb k : Nat) (q : Qm) (b : Bl) (G : Nat → Prop) (vt : Vts) (first : List UInt8) (fv : Value) (e : Ending) (w' : World) : Prop := ∃ F' p', e = .returned (.int .i64 0) ∧ R1 W1 w' gv gp g gb k q b F' G vt first fv p'
theorem R1.promise (h : R1 W1 w gv gp g gb k q b F G vt first fv p) (hk : k < 12) (hkq : (k : Int) < q.nodes) {won : Bool} (hh : Heart q won first vt b) :
    ∃ A N C, w.cell? ⟨gv, k, none⟩ = some (.slice A N C) ∧ Calls Try.prog 16 #[.pointer (some ⟨g, 0, none⟩), .int .i64 (k : Int), .slice A N C] w (R1O W1 gv gp g gb (k + 1) q b G vt first fv) := by
  obtain ⟨sl, hb, hs⟩ := h.sf.va
  obtain ⟨A, N, C, es, e, hv, he⟩ := hs k hk
  have hc : w.cell? ⟨gv, k, none⟩ = some (.slice A N C) := by rw [hb.cell, slA_at _ hk, e]
  have hlen : es.length = N := hv.len
  have hl1 : es.length ≤ 1 := by
    have := congrArg List.length he
    rw [List.length_map] at this
    rw [this]
    cases vt k <;> simp [voteL]
  have ht := h.told
  refine ⟨A, N, C, hc, (h.own.promise hv h.sf.off h.sf.glt (by omega) k).mono ?_⟩
  rintro e w' ⟨F', rfl, ho, hm⟩
  rw [he] at ho ⊢
  have hi : p.isNode k = true := by
    unfold Pp.isNode
    rw [h.q, decide_eq_true (by omega), decide_eq_true hkq]
    rfl
  have hkn : k < q.n := by unfold Qm.n; omega
  have hz : (p.promise k (voteL (vt k))).1 = 0 := Pp.promise_zero hi (by
    rw [h.bal, h.base]
    exact mayL_vote fun y hy => by obtain ⟨h1, h2, h3, _⟩ := hh.less k y hkn hy; exact ⟨h1, h2, h3⟩)
  have hd := p.promise_does h.own.pm.ok.right k (voteL (vt k)) 1 _ h.ti
  have hsm := p.promise_same k (voteL (vt k))
  have htl := p.promise_toldS k (voteL (vt k))
  rw [hz]
  refine ⟨F', _, rfl, ho, h.sf.mv hm (fun j hj => ho.pm.lt j hj), by rw [hsm.1]; exact h.q, by rw [hsm.2.1]; exact h.bal, by rw [hsm.2.2.1]; exact h.base, by rw [hsm.2.2.2.1]; exact h.props, ?_, ?_, ?_, h.bb.kp hm.kp h.fbb, not_mvS hm h.bb.lt h.fbb⟩
  · have : (voteL (vt k)).length ≤ 1 := by cases vt k <;> simp [voteL]
    omega
  · rcases hd with ⟨h1 | ⟨_, nd, h2, _, h3⟩, _⟩ | ⟨_, ⟨nd, h2, _, h3, h4⟩, _⟩
    · exact absurd hz h1
    · have : nd = k := by omega
      subst this
      rw [bit_off h.lt] at h3
      cases h3
    · have : nd = k := by omega
      subst this
      rw [h4]
      exact or_bit_lt h.lt
  · rcases hd with ⟨h1 | ⟨_, nd, h2, _, h3⟩, _⟩ | ⟨_, ⟨nd, h2, _, h3, h4⟩, h5⟩
    · exact absurd hz h1
    · have : nd = k := by omega
      subst this
      rw [bit_off h.lt] at h3
      cases h3
    · have : nd = k := by omega
      subst this
      rw [h4, gather_on]
      rw [atS_vote] at h5
      exact h5
/-- What is proposed. -/
theorem R1.propose (h : R1 W1 w gv gp g gb k q b F G vt first fv p) (hr : q.right = 0) (hk : k = q.n) (hrd : p.ready = true) {won : Bool} (hh : Heart q won first vt b) {oA : Option Addr} {on oc : Nat} {own : List UInt8} (hown : own.length ≤ 100) (hor : Rd w w.heap.size oA on own) :
    Calls Try.prog 20 #[.pointer (some ⟨g, 0, none⟩), .int .u64 1, .slice oA on oc] w fun e w' => ∃ F' G' p' A c v, e = .returned (.tuple #[.agg #[.int .u64 1, .int .u64 (b.n : Int), .int .i64 b.node, .slice A v.length c], .int .i64 0]) ∧ v.length ≤ 100 ∧ (won = true → v = first) ∧
      R2 W1 (w'.alloc (.cells #[.int .u64 1, .int .u64 (b.n : Int), .int .i64 b.node, .slice A v.length c] 48)) gv gp g gb w'.heap.size 0 0 0 q b F' G' vt first fv v A c p' := by
  have hol := hor.1
  refine (h.own.propose 1 (by decide) oA on oc own (by omega) hor (by rw [h.props]; decide)).mono ?_
  rintro e w' ⟨F', A, c, rfl, ha, ho, hm⟩
  have hrq : q.isQ false p.prom = true := by rw [← h.q]; exact hrd
  have hmust := h.ti.must
  have e1 : p.propose 1 own = (0, ⟨1, p.bal, (p.must 1).getD own⟩, { p with props := putK 1 ⟨(p.must 1).getD own, 0⟩ p.props }) := by
    unfold Pp.propose
    rw [if_neg (by rw [hrd]; simp), if_neg (by rw [h.base]; omega), show getK p.props 1 = none by rw [h.props]; rfl]
    cases p.must 1 with
    | none => simp only [Option.getD_none]; rw [if_neg (by omega)]
    | some v => rfl
  have hv100 : ((p.must 1).getD own).length ≤ 100 := by
    cases hmv : p.must 1 with
    | none => exact hown
    | some v =>
      obtain ⟨u, hu, e2, _⟩ := hmust.2 v hmv
      obtain ⟨i, hi, _, hvi, _⟩ := gather_mem hu
      have := (hh.less i _ (by omega) hvi).2.2.1
      rw [e2] at this
      exact this
  have hfirst : won = true → (p.must 1).getD own = first := fun hw => by
    subst hw
    rw [hh.must hr hrq (by rw [← hk]; exact h.ti)]
    rfl
  rw [e1] at ho ha ⊢
  dsimp only at ho ha ⊢
  rw [h.bal] at ho ⊢
  generalize (p.must 1).getD own = v at *
  have hsf := h.sf.mv hm (fun j hj => ho.pm.lt j hj)
  have hsf2 := hsf.more ha.1 ha.2
  have hbb : Below w'.heap.size w' (w'.alloc (.cells #[.int .u64 1, .int .u64 (b.n : Int), .int .i64 b.node, .slice A v.length c] 48)) := bel1P _
  have hcap : v.length ≤ c ∧ c ≤ 9223372036854775807 := by
    obtain ⟨A2, c2, e3, h1, h2⟩ := own_shape ha.1
    injection e3 with _ _ e4
    subst e4
    unfold maxLen at h2
    omega
  refine ⟨F', _, _, A, c, v, rfl, hv100, hfirst, ho.below hbb, by rw [castV_zero]; exact hsf2.below hbb, h.q, by show putK 1 ⟨v, 0⟩ p.props = _; rw [h.props]; rfl, by decide, ?_, ?_, Bk.new w' _ _, fun hf => ?_, (h.bb.kp hm.kp h.fbb).below hbb (h.bb.kp hm.kp h.fbb).lt, not_mvS hm h.bb.lt h.fbb⟩
  · exact ((RdG.of_own ha.1 rfl).below hbb).mono fun _ => .inr
  · exact hcap
  · have := ho.pm.lt _ hf
    omega
theorem R2.accepted (h : R2 W1 w gv gp g gb gx k a m q b F G vt first fv v A c p) (hkq : (k : Int) < q.nodes) :
    Calls Try.prog 24 #[.pointer (some ⟨g, 0, none⟩), .int .i64 (k : Int), .int .u64 1] w fun e w' => ∃ F' p', e = .returned (.int .i64 0) ∧ R2 W1 w' gv gp g gb gx (k + 1) (a ||| 2 ^ k) m q b F' G vt first fv v A c p' := by
  have hi : p.isNode k = true := by
    unfold Pp.isNode
    rw [h.q, decide_eq_true (by omega), decide_eq_true hkq]
    rfl
  have hln := p.accepted_len k 1
  refine (h.own.accepted k 1 (by decide)).mono ?_
  rintro e w' ⟨F', rfl, ho, hm⟩
  have e1 : (p.accepted k 1).1 = 0 ∧ (p.accepted k 1).2.props = putK 1 ⟨v, a ||| 2 ^ k⟩ p.props := by
    unfold Pp.accepted
    rw [if_neg (by rw [hi]; simp), h.props]
    exact ⟨rfl, rfl⟩
  rw [e1.1]
  refine ⟨F', _, rfl, ho, h.sf.mv hm (fun j hj => ho.pm.lt j hj), by rw [hln.2.2.2.1]; exact h.q, by rw [e1.2, h.props]; rfl, or_bit_lt h.lt, h.rd.kp hm.kp h.sf.off, h.cap, h.bx.kp hm.kp h.fbx, fun hf => ?_, h.bb.kp hm.kp h.fbb, not_mvS hm h.bb.lt h.fbb⟩
  rcases hm.new _ hf with h1 | h1
  · exact h.fbx h1
  · have := h.bx.lt; omega
theorem R2.chosen (h : R2 W1 w gv gp g gb gx k a m q b F G vt first fv v A c p) : Calls Try.prog 25 #[.pointer (some ⟨g, 0, none⟩), .int .u64 1] w (GiveO (if q.isQ true a then some v else none) w) := by
  have := h.own.chosen 1 (by decide)
  have e1 : p.chosen 1 = if q.isQ true a then some v else none := by
    unfold Pp.chosen
    rw [h.props, h.q]
    rfl
  rw [e1] at this
  exact this
theorem R1.readyC (h : R1 W1 w gv gp g gb k q b F G vt first fv p) : Calls Try.prog 19 #[.pointer (some ⟨g, 0, none⟩)] w fun e w' => e = .returned (.bool p.ready) ∧ Below w.heap.size w w' := h.own.ready
end
def balK (k : Nat) : Bl := ⟨k / 2 + 1, ((k % 2 : Nat) : Int)⟩
theorem balK_right (k : Nat) : (balK k).right = true := by rw [Bl.right_iff]; show 0 < k / 2 + 1 ∧ (0 : Int) ≤ ((k % 2 : Nat) : Int) ∧ ((k % 2 : Nat) : Int) < 12; omega
theorem balK_less (k : Nat) : Bl.less (balK k) (balK (k + 1)) = true := by
  unfold Bl.less balK
  split <;> simp only [decide_eq_true_eq] at * <;> omega
theorem balK_ok {k : Nat} (h : k < 100) : (balK k).Ok := ⟨by show k / 2 + 1 < _; omega, by show (-9223372036854775808 : Int) ≤ ((k % 2 : Nat) : Int); omega, by show ((k % 2 : Nat) : Int) ≤ (9223372036854775807 : Int); omega⟩
/-- Ahead of a round. -/
structure R0 (W1 w : World) (gv gp : Nat) (q : Qm) (k : Nat) (won : Bool) (G : Nat → Prop) (vt : Vts) (first : List UInt8) (fv : Value) : Prop where
  sf : Sf W1 w gv gp (fun _ => False) G vt first fv
  heart : Heart q won first vt (balK k)
theorem R0.start {W1 w : World} (hb : Below W1.heap.size W1 w) (q : Qm) : R0 W1 ((w.alloc (.cells (slA fun _ => .slice none 0 0) 59)).alloc (.cells (baA fun _ => Bl.zero) 60)) w.heap.size (w.heap.size + 1) q 0 false (fun _ => False) (fun _ => none) [] (.slice none 0 0) := by
  have e1 : (w.alloc (.cells (slA fun _ => .slice none 0 0) 59)).heap.size = w.heap.size + 1 := by first | exact Array.size_push _ | simp
  have k1 := Bk.new w 59 (slA fun _ => .slice none 0 0)
  have b1 : Below w.heap.size w (w.alloc (.cells (slA fun _ => .slice none 0 0) 59)) := bel1P _
  have hz := hb.size
  generalize w.alloc (.cells (slA fun _ => .slice none 0 0) 59) = wa at *
  have b2 : Below wa.heap.size wa (wa.alloc (.cells (baA fun _ => Bl.zero) 60)) := bel1P _
  have k2 := Bk.new wa 60 (baA fun _ => Bl.zero)
  rw [e1] at k2
  exact ⟨⟨below_then (below_then hb b1) b2, ⟨_, k1.below b2 k1.lt, fun i _ => ⟨none, 0, 0, [], rfl, vsr_nil _ _, rfl⟩⟩, ⟨_, k2⟩, hz, by omega, fun h => h, fun h => h, fun h => h, fun h => h, fun _ h => h.elim, fun _ h => h.elim, fun _ h => h.elim, fun _ h => h.elim, World.ownsRow_nil _ _ _ _, fun k e => (by cases e)⟩, Heart.start q _⟩
theorem R0.new {W1 w wb w' : World} {gv gp g gb k : Nat} {q : Qm} {won : Bool} {F G : Nat → Prop} {vt : Vts} {first : List UInt8} {fv : Value} (h : R0 W1 w gv gp q k won G vt first fv) (hb : Below w.heap.size w wb)
    (hk : Bk wb gb 27 #[.int .u64 ((balK k).n : Int), .int .i64 (balK k).node]) (ho : OwP wb w' F g (Pp.new q (balK k) 1)) : R1 W1 w' gv gp g gb 0 q (balK k) F G vt first fv (Pp.new q (balK k) 1) := by
  have h1 := h.sf.below hb
  refine ⟨⟨ho.pm, fun j hj => Nat.le_trans h1.bel.size (ho.ge j hj), below_then h1.bel ho.bel⟩, h1.keep (Kp.of_below ho.bel) (fun j hj => .inr (ho.ge j hj)) (fun j hj => ho.pm.lt j hj), rfl, rfl, rfl, rfl, Nat.le_refl _, (by decide : 0 < 2 ^ 0), TI.new _ _ _ _, hk.below ho.bel hk.lt, fun hf => ?_⟩
  have := ho.ge _ hf
  have := hk.lt
  omega
/-- Behind a round that is not ready. -/
theorem R1.next {W1 w : World} {gv gp g gb k i : Nat} {q : Qm} {won : Bool} {F G : Nat → Prop} {vt : Vts} {first : List UInt8} {fv : Value} {p : Pp} (h : R1 W1 w gv gp g gb k q (balK i) F G vt first fv p) (hh : Heart q won first vt (balK i)) : R0 W1 w gv gp q (i + 1) won G vt first fv := ⟨h.sf.done, hh.next (balK_less i)⟩
/-- Behind a round in which nothing was chosen. -/
theorem R2.nextN {W1 w w' : World} {gv gp g gb gx k a i : Nat} {q : Qm} {won : Bool} {F G : Nat → Prop} {vt : Vts} {first v : List UInt8} {fv : Value} {A : Option Addr} {c : Nat} {p : Pp} (h : R2 W1 w gv gp g gb gx k a a q (balK i) F G vt first fv v A c p) (hr : q.right = 0) (hi : i < 100) (hv : v.length ≤ 100) (hw : won = true → v = first) (hh : Heart q won first vt (balK i)) (hb : Below w.heap.size w w') :
    R0 W1 w' gv gp q (i + 1) won G (castV vt a (balK i) v) first fv := ⟨(h.sf.below hb).done, (hh.cast hr (balK_right i) (balK_ok hi).n hv hw a (balK_less i)).1⟩
/-- .. in which its value was. -/
theorem R2.nextY {W1 w w' : World} {gv gp g gb gx k a i : Nat} {q : Qm} {won : Bool} {F G : Nat → Prop} {vt : Vts} {first v : List UInt8} {fv : Value} {A B : Option Addr} {c d : Nat} {p : Pp} (h : R2 W1 w gv gp g gb gx k a a q (balK i) F G vt first fv v A c p) (hr : q.right = 0) (hi : i < 100) (hv : v.length ≤ 100) (hw : won = true → v = first) (hh : Heart q won first vt (balK i)) (hc : q.isQ true a = true)
    (ho : w'.ownsRow w.heap.size 5 1 (.slice B v.length d) v.length (u8s v)) (hb : Below w.heap.size w w') : ∃ G', R0 W1 w' gv gp q (i + 1) true G' (castV vt a (balK i) v) v (.slice B v.length d) :=
  ⟨_, ((h.sf.below hb).first_ ho fun j e hf => by have := (ho.lt j e).1; have := h.sf.flt j hf; omega).done, (hh.cast hr (balK_right i) (balK_ok hi).n hv hw a (balK_less i)).2 hc⟩
end Go.Proofs.Ythkkkldkpdkabaa
