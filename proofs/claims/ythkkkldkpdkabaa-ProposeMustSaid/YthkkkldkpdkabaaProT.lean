/- Layer 10: what ProposeSame plays. -/
import Derived.Test.YthkkkldkpdkabaaProN
import Derived.Test.YthkkkldkpdkabaaProS2
namespace Go.Proofs.Ythkkkldkpdkabaa
open Go.ChangeShapes Go.WideShapes Go.ChangeAt Go.RowKit Go.Maps

theorem Pp.promise_prom (p : Pp) (x : Int) (l : List Vt) (i : Nat) (h : p.prom.testBit i = true) : (p.promise x l).2.prom.testBit i = true := by
  unfold Pp.promise
  split
  · exact h
  split
  · exact h
  split
  · exact h
  · rw [(Pp.hears_same x.toNat l _).2.2.2.1]
    exact testBit_or _ _ _ h
theorem Pp.promise_told (p : Pp) (x : Int) (l : List Vt) : (p.promise x l).2.told.length ≤ p.told.length + l.length := by
  unfold Pp.promise
  split
  · exact Nat.le_add_right _ _
  split
  · exact Nat.le_add_right _ _
  split
  · exact Nat.le_add_right _ _
  · exact Pp.hears_len x.toNat l _
structure S1 (W w : World) (g k : Nat) (F : Nat → Prop) (p : Pp) : Prop where
  own : OwP W w F g p
  q : p.q = kq3
  bal : p.bal = ⟨900, 0⟩
  base : p.base = 1
  told : p.told.length ≤ 4000 * k
  props : p.props = []
structure S2 (W w : World) (g k s : Nat) (v : List UInt8) (F : Nat → Prop) (p : Pp) : Prop where
  own : OwP W w F g p
  q : p.q = kq3
  bal : p.bal = ⟨900, 0⟩
  base : p.base = 1
  told : p.told.length ≤ 4000 * k
  len : p.props.length = 1
  ready : p.ready = true
  z : ∃ a, getK p.props s = some ⟨v, a⟩
/-- In the slot it is chosen. -/
def S2.Cho (p : Pp) (s : Nat) : Prop := p.isChosen s = true
section
variable {W w : World} {g k s : Nat} {v : List UInt8} {F : Nat → Prop} {p : Pp}
theorem S1.below {w' : World} (h : S1 W w g k F p) (hb : Below w.heap.size w w') : S1 W w' g k F p := ⟨h.own.below hb, h.q, h.bal, h.base, h.told, h.props⟩
theorem S2.below {w' : World} (h : S2 W w g k s v F p) (hb : Below w.heap.size w w') : S2 W w' g k s v F p := ⟨h.own.below hb, h.q, h.bal, h.base, h.told, h.len, h.ready, h.z⟩
theorem S1.prom (h : S1 W w g k F p) {x : Ac10} (hx : x.Ok W W.heap.size) (hn : x.vn ≤ 4000) (hk : k < 1000) : Calls Try.prog 16 #[.pointer (some ⟨g, 0, none⟩), .int .i64 x.node, .slice x.vA x.vn x.vc] w fun e w' => ∃ F' p' r, e = .returned (.int .i64 r) ∧ S1 W w' g (k + 1) F' p' := by
  have hx' := hx.below h.own.bel
  have ht := h.told
  have hl := hx'.vs.len
  refine (h.own.promise hx'.vs (fun j h1 h2 => by have := h.own.ge j h2; omega) (fun j hj => Nat.lt_of_lt_of_le hj h.own.bel.size) (by omega) x.node).mono ?_
  rintro e w' ⟨F', rfl, ho, hmv⟩
  have hs := p.promise_same x.node (x.es.map (·.1))
  have htl := p.promise_told x.node (x.es.map (·.1))
  rw [List.length_map, hl] at htl
  exact ⟨F', _, _, rfl, ho, by rw [hs.1]; exact h.q, by rw [hs.2.1]; exact h.bal, by rw [hs.2.2.1]; exact h.base, by omega, by rw [hs.2.2.2.1]; exact h.props⟩
theorem S1.nil (h : S1 W w g k F p) (hk : k < 1000) (nd : Nat) (hnd : nd < 3) : Calls Try.prog 16 #[.pointer (some ⟨g, 0, none⟩), .int .i64 (nd : Int), .slice none 0 0] w fun e w' => ∃ F' p', e = .returned (.int .i64 0) ∧ S1 W w' g k F' p' ∧ p'.prom.testBit nd = true ∧ ∀ i, p.prom.testBit i = true → p'.prom.testBit i = true := by
  have ht := h.told
  have hi : p.isNode nd = true := by
    unfold Pp.isNode
    rw [h.q, decide_eq_true (by omega), decide_eq_true (by show (nd : Int) < 3; omega)]
    rfl
  refine (h.own.promise (vsr_nil w (fun _ => False)) (fun _ h => h.elim) (fun _ h => h.elim) (by omega) nd).mono ?_
  rintro e w' ⟨F', rfl, ho, hmv⟩
  have e1 : p.promise nd (List.map (fun e : Vtr => e.1) []) = (0, { p with prom := p.prom ||| 2 ^ nd }) := Pp.promise_nil nd hi
  rw [e1] at ho ⊢
  exact ⟨F', _, rfl, ⟨ho, h.q, h.bal, h.base, h.told, h.props⟩, by show (p.prom ||| 2 ^ nd).testBit nd = true; rw [Nat.testBit_or, Nat.testBit_two_pow]; simp, fun i hb => testBit_or _ _ _ hb⟩
theorem kq3_ready {a : Nat} (h0 : a.testBit 0 = true) (h1 : a.testBit 1 = true) : kq3.isQ false a = true := by
  refine Qm.isQ_mono kq3 kq3_right false (s := 3) (fun i hi hb => ?_) (by decide +kernel)
  have hi : i < 3 := hi
  have : i = 0 ∨ i = 1 ∨ i = 2 := by omega
  rcases this with rfl | rfl | rfl
  · exact h0
  · exact h1
  · exact absurd hb (by decide)
/-- What is proposed. -/
def sameV (p : Pp) (s : Nat) (own : List UInt8) : List UInt8 := (p.must s).getD own
theorem S1.propose (h : S1 W w g k F p) (h0 : p.prom.testBit 0 = true) (h1 : p.prom.testBit 1 = true) (hs0 : 0 < s) (hs : s < 18446744073709551616) {oA : Option Addr} {on oc : Nat} {own : List UInt8} (hown : own.length ≤ 100) (hrd : Rd w w.heap.size oA on own) :
    Calls Try.prog 20 #[.pointer (some ⟨g, 0, none⟩), .int .u64 (s : Int), .slice oA on oc] w fun e w' => ∃ F' p' A c, e = .returned (.tuple #[.agg #[.int .u64 (s : Int), .int .u64 900, .int .i64 0, .slice A (sameV p s own).length c], .int .i64 0]) ∧ Ap w' F' w.heap.size (.slice A (sameV p s own).length c) (sameV p s own) ∧ S2 W w' g k s (sameV p s own) F' p' := by
  have hr : p.ready = true := by unfold Pp.ready; rw [h.q]; exact kq3_ready h0 h1
  have hrl := hrd.1
  refine (h.own.propose s hs oA on oc own (by omega) hrd (by rw [h.props]; decide)).mono ?_
  rintro e w' ⟨F', A, c, rfl, ha, ho, hmv⟩
  have hlt : ¬ s < p.base := by rw [h.base]; omega
  have hnone : getK p.props s = none := by rw [h.props]; rfl
  have e1 : p.propose s own = (0, ⟨s, p.bal, sameV p s own⟩, { p with props := putK s ⟨sameV p s own, 0⟩ p.props }) := by
    unfold Pp.propose sameV
    rw [if_neg (by rw [hr]; simp), if_neg hlt, hnone]
    cases p.must s with
    | none => simp only [Option.getD_none]; rw [if_neg (by omega)]
    | some v => rfl
  rw [e1] at ho ha ⊢
  dsimp only at ho ha ⊢
  rw [h.bal]
  have e2 : putK s ⟨sameV p s own, 0⟩ p.props = [(s, ⟨sameV p s own, 0⟩)] := by rw [h.props]; rfl
  exact ⟨F', _, A, c, rfl, ha, ho, h.q, h.bal, h.base, h.told, by show (putK s _ p.props).length = 1; rw [e2]; rfl, hr, 0, by show getK (putK s _ p.props) s = _; rw [getK_put, if_pos rfl]⟩
theorem S2.prom (h : S2 W w g k s v F p) (hc : p.isChosen s = true) {x : Ac10} (hx : x.Ok W W.heap.size) (hn : x.vn ≤ 4000) (hk : k < 1000) : Calls Try.prog 16 #[.pointer (some ⟨g, 0, none⟩), .int .i64 x.node, .slice x.vA x.vn x.vc] w fun e w' => ∃ F' p' r, e = .returned (.int .i64 r) ∧ S2 W w' g (k + 1) s v F' p' ∧ p'.isChosen s = true ∧ Mv F F' w w' := by
  have hx' := hx.below h.own.bel
  have ht := h.told
  have hl := hx'.vs.len
  refine (h.own.promise hx'.vs (fun j h1 h2 => by have := h.own.ge j h2; omega) (fun j hj => Nat.lt_of_lt_of_le hj h.own.bel.size) (by omega) x.node).mono ?_
  rintro e w' ⟨F', rfl, ho, hmv⟩
  have hs := p.promise_same x.node (x.es.map (·.1))
  have htl := p.promise_told x.node (x.es.map (·.1))
  rw [List.length_map, hl] at htl
  refine ⟨F', _, _, rfl, ⟨ho, by rw [hs.1]; exact h.q, by rw [hs.2.1]; exact h.bal, by rw [hs.2.2.1]; exact h.base, by omega, by rw [hs.2.2.2.1]; exact h.len, ?_, by rw [hs.2.2.2.1]; exact h.z⟩, by rw [Pp.isChosen_promise]; exact hc, hmv⟩
  have hr := h.ready
  unfold Pp.ready at hr ⊢
  rw [hs.1]
  exact Qm.isQ_mono p.q h.own.pm.ok.right false (fun i _ hb => p.promise_prom _ _ i hb) hr
theorem S2.acc (h : S2 W w g k s v F p) (x : Int) (a : Nat) (ha : a < 18446744073709551616) : Calls Try.prog 24 #[.pointer (some ⟨g, 0, none⟩), .int .i64 x, .int .u64 (a : Int)] w fun e w' => ∃ F', e = .returned (.int .i64 (p.accepted x a).1) ∧ S2 W w' g k s v F' (p.accepted x a).2 ∧ (p.isChosen s = true → (p.accepted x a).2.isChosen s = true) ∧ Mv F F' w w' := by
  refine (h.own.accepted x a ha).mono ?_
  rintro e w' ⟨F', rfl, ho, hmv⟩
  have hln := p.accepted_len x a
  refine ⟨F', rfl, ⟨ho, by rw [hln.2.2.2.1]; exact h.q, by rw [hln.2.2.2.2.1]; exact h.bal, by rw [hln.2.2.1]; exact h.base, by rw [hln.2.1]; exact h.told, ?_, ?_, ?_⟩, fun hc => Pp.accepted_keeps h.own.pm.ok x a s hc, hmv⟩
  · unfold Pp.accepted
    split
    · exact h.len
    split
    · exact h.len
    · rename_i z hz
      -- the slot is the one that is there
      have hl := h.len
      match hp : p.props, hl with
      | [e], _ =>
        rw [hp] at hz
        have he := getK_mem hz
        rw [List.mem_singleton] at he
        show (putK a _ [e]).length = 1
        rw [← he]
        unfold putK delK
        simp [insK]
  · have hr := h.ready
    unfold Pp.ready at hr ⊢
    rw [hln.2.2.2.1, hln.2.2.2.2.2]
    exact hr
  · obtain ⟨b, hb⟩ := h.z
    unfold Pp.accepted
    split
    · exact ⟨b, hb⟩
    split
    · exact ⟨b, hb⟩
    · rename_i z hz
      show ∃ b', getK (putK a _ p.props) s = _
      rw [getK_put]
      by_cases hsa : s = a
      · subst hsa
        rw [if_pos rfl]
        rw [hb] at hz
        injection hz with hz
        subst hz
        exact ⟨_, rfl⟩
      · rw [if_neg hsa]
        exact ⟨b, hb⟩
theorem S2.again (h : S2 W w g k s v F p) (hs0 : 0 < s) (hs : s < 18446744073709551616) {oA : Option Addr} {on oc : Nat} {own : List UInt8} (hon : on ≤ 4000) (hrd : Rd w w.heap.size oA on own) :
    Calls Try.prog 20 #[.pointer (some ⟨g, 0, none⟩), .int .u64 (s : Int), .slice oA on oc] w fun e w' => ∃ F' A c, e = .returned (.tuple #[.agg #[.int .u64 (s : Int), .int .u64 900, .int .i64 0, .slice A v.length c], .int .i64 0]) ∧ Ap w' F' w.heap.size (.slice A v.length c) v ∧ S2 W w' g k s v F' p ∧ Mv F F' w w' := by
  refine (h.own.propose s hs oA on oc own (by omega) hrd (by rw [h.len]; decide)).mono ?_
  rintro e w' ⟨F', A, c, rfl, ha, ho, hmv⟩
  obtain ⟨b, hb⟩ := h.z
  have e1 : p.propose s own = (0, ⟨s, p.bal, v⟩, p) := by
    unfold Pp.propose
    rw [if_neg (by rw [h.ready]; simp), if_neg (by rw [h.base]; omega), hb]
  rw [e1] at ho ha ⊢
  dsimp only at ho ha ⊢
  rw [h.bal]
  exact ⟨F', A, c, rfl, ha, ⟨ho, h.q, h.bal, h.base, h.told, h.len, h.ready, h.z⟩, hmv⟩
theorem S2.chosen (h : S2 W w g k s v F p) (hc : p.isChosen s = true) (hs : s < 18446744073709551616) : Calls Try.prog 25 #[.pointer (some ⟨g, 0, none⟩), .int .u64 (s : Int)] w fun e w' => ∃ A c, e = .returned (.tuple #[.slice A v.length c, .bool true]) ∧ Rd w' w'.heap.size A v.length v ∧ Below w.heap.size w w' := by
  refine (h.own.chosen s hs).mono ?_
  rintro e w' ⟨A, c, rfl, ho, hb⟩
  obtain ⟨b, hz⟩ := h.z
  have e1 : p.chosen s = some v := by
    unfold Pp.isChosen at hc
    unfold Pp.chosen
    rw [hz] at hc ⊢
    dsimp only at hc ⊢
    rw [if_pos hc]
  rw [e1] at ho ⊢
  exact ⟨A, c, rfl, Rd.of_own ho, hb⟩
/-- The two that accept first. -/
theorem S2.two (h : S2 W w g k s v F p) (x : Nat) (hx : x < 3) : (p.accepted x s).1 = 0 ∧ ∀ z, getK p.props s = some z → getK (p.accepted x s).2.props s = some ⟨z.val, z.acc ||| 2 ^ x⟩ := by
  obtain ⟨b, hz⟩ := h.z
  have hi : p.isNode x = true := by
    unfold Pp.isNode
    rw [h.q, decide_eq_true (by omega), decide_eq_true (by show (x : Int) < 3; omega)]
    rfl
  unfold Pp.accepted
  rw [if_neg (by rw [hi]; simp), hz]
  refine ⟨rfl, fun z hz' => ?_⟩
  injection hz' with hz'
  subst hz'
  show getK (putK s _ p.props) s = _
  rw [getK_put, if_pos rfl]
  rfl
theorem S2.a0 (h : S2 W w g k s v F p) (hs : s < 18446744073709551616) : Calls Try.prog 24 #[.pointer (some ⟨g, 0, none⟩), .int .i64 0, .int .u64 (s : Int)] w fun e w' => ∃ F' p', e = .returned (.int .i64 0) ∧ S2 W w' g k s v F' p' ∧ (∃ z, getK p'.props s = some z ∧ z.acc.testBit 0 = true) ∧ Mv F F' w w' := by
  obtain ⟨b, hb⟩ := h.z
  have ht := h.two 0 (by decide)
  refine (h.acc 0 s hs).mono ?_
  rintro e w' ⟨F', rfl, hS, _, hmv⟩
  rw [show (p.accepted 0 s).1 = 0 from ht.1]
  exact ⟨F', _, rfl, hS, ⟨_, ht.2 _ hb, by rw [Nat.testBit_or]; simp⟩, hmv⟩
theorem S2.a2 (h : S2 W w g k s v F p) (h0 : ∃ z, getK p.props s = some z ∧ z.acc.testBit 0 = true) (hs : s < 18446744073709551616) : Calls Try.prog 24 #[.pointer (some ⟨g, 0, none⟩), .int .i64 2, .int .u64 (s : Int)] w fun e w' => ∃ F' p', e = .returned (.int .i64 0) ∧ S2 W w' g k s v F' p' ∧ p'.isChosen s = true ∧ Mv F F' w w' := by
  obtain ⟨z, hz, hz0⟩ := h0
  have ht := h.two 2 (by decide)
  have hln := p.accepted_len 2 s
  refine (h.acc 2 s hs).mono ?_
  rintro e w' ⟨F', rfl, hS, _, hmv⟩
  rw [show (p.accepted 2 s).1 = 0 from ht.1]
  refine ⟨F', _, rfl, hS, ?_, hmv⟩
  unfold Pp.isChosen
  rw [show getK (p.accepted 2 s).2.props s = some ⟨z.val, z.acc ||| 2 ^ 2⟩ from ht.2 z hz, hln.2.2.2.1, h.q]
  refine Qm.isQ_mono kq3 kq3_right true (s := 5) (fun i hi hb => ?_) (by decide +kernel)
  have hi : i < 3 := hi
  have : i = 0 ∨ i = 1 ∨ i = 2 := by omega
  rcases this with rfl | rfl | rfl
  · exact testBit_or _ _ _ hz0
  · exact absurd hb (by decide)
  · show (z.acc ||| 2 ^ 2).testBit 2 = true
    rw [Nat.testBit_or, Nat.testBit_two_pow]
    simp
end
end Go.Proofs.Ythkkkldkpdkabaa
