/- Layer 10: what ProposeNeeds plays. -/
import Derived.Test.YthkkkldkpdkabaaProGv
import Derived.Test.YthkkkldkpdkabaaProK
import Derived.Test.YthkkkldkpdkabaaProQ
namespace Go.Proofs.Ythkkkldkpdkabaa
open Go.ChangeShapes Go.WideShapes Go.ChangeAt Go.RowKit Go.Maps

theorem Pp.promise_none {p : Pp} (x : Int) (h : p.isNode x = false) : p.promise x [] = (2, p) := by unfold Pp.promise; rw [if_pos h]
theorem Pp.promise_nil {p : Pp} (nd : Nat) (h : p.isNode nd = true) : p.promise nd [] = (0, { p with prom := p.prom ||| 2 ^ nd }) := by
  unfold Pp.promise
  rw [if_neg (by rw [h]; simp), if_neg (by simp [mayL])]
  simp only [Int.toNat_natCast]
  split
  · rename_i hb
    have e : p.prom ||| 2 ^ nd = p.prom := by
      apply Nat.eq_of_testBit_eq
      intro i
      rw [Nat.testBit_or, Nat.testBit_two_pow]
      by_cases hi : nd = i
      · subst hi; rw [hb]; rfl
      · simp [hi]
    rw [e]
  · rfl
/-- Ahead of a round of the first loop, of the second. -/
structure N1 (W w : World) (g : Nat) (q : Qm) (set : Nat) (F : Nat → Prop) (p : Pp) : Prop where
  own : OwP W w F g p
  pre : p.Pre
  q : p.q = q
  prom : p.prom = set
  told : p.told = []
  props : p.props = []
  base : p.base = 7
structure N2 (W w : World) (g : Nat) (q : Qm) (set : Nat) (F : Nat → Prop) (p : Pp) : Prop where
  own : OwP W w F g p
  pre : p.Pre
  q : p.q = q
  props : p.props = [(7, ⟨[118], set⟩)]
  base : p.base = 7
section
variable {W w w' : World} {g : Nat} {q : Qm} {set : Nat} {F : Nat → Prop} {p : Pp}
theorem N1.below (h : N1 W w g q set F p) (hb : Below w.heap.size w w') : N1 W w' g q set F p := ⟨h.own.below hb, h.pre, h.q, h.prom, h.told, h.props, h.base⟩
theorem N2.below (h : N2 W w g q set F p) (hb : Below w.heap.size w w') : N2 W w' g q set F p := ⟨h.own.below hb, h.pre, h.q, h.props, h.base⟩
theorem N1.isNode (h : N1 W w g q set F p) (x : Int) : p.isNode x = (decide (0 ≤ x) && decide (x < q.nodes)) := by unfold Pp.isNode; rw [h.q]
theorem N1.no (h : N1 W w g q set F p) (x : Int) (hx : ¬ (0 ≤ x ∧ x < q.nodes)) : Calls Try.prog 16 #[.pointer (some ⟨g, 0, none⟩), .int .i64 x, .slice none 0 0] w fun e w' => ∃ F' p', e = .returned (.int .i64 2) ∧ N1 W w' g q set F' p' := by
  have hi : p.isNode x = false := by
    rw [h.isNode, Bool.and_eq_false_iff, decide_eq_false_iff_not, decide_eq_false_iff_not]; omega
  refine (h.own.promise (vsr_nil w (fun _ => False)) (fun _ h => h.elim) (fun _ h => h.elim) (by rw [h.told]; decide) x).mono ?_
  rintro e w' ⟨F', rfl, ho, hmv⟩
  rw [show p.promise x (List.map (fun e : Vtr => e.1) []) = (2, p) from Pp.promise_none x hi] at ho ⊢
  exact ⟨F', p, rfl, ho, h.pre, h.q, h.prom, h.told, h.props, h.base⟩
theorem N1.yes (h : N1 W w g q set F p) (nd : Nat) (hx : (nd : Int) < q.nodes) : Calls Try.prog 16 #[.pointer (some ⟨g, 0, none⟩), .int .i64 (nd : Int), .slice none 0 0] w fun e w' => ∃ F' p', e = .returned (.int .i64 0) ∧ N1 W w' g q (set ||| 2 ^ nd) F' p' := by
  have hi : p.isNode nd = true := by
    rw [h.isNode, decide_eq_true (by omega), decide_eq_true hx]; rfl
  have hpr := h.pre.promise nd []
  refine (h.own.promise (vsr_nil w (fun _ => False)) (fun _ h => h.elim) (fun _ h => h.elim) (by rw [h.told]; decide) nd).mono ?_
  rintro e w' ⟨F', rfl, ho, hmv⟩
  have e1 : p.promise nd (List.map (fun e : Vtr => e.1) []) = (0, { p with prom := p.prom ||| 2 ^ nd }) := Pp.promise_nil nd hi
  have e2 : p.promise nd [] = (0, { p with prom := p.prom ||| 2 ^ nd }) := Pp.promise_nil nd hi
  rw [e1] at ho ⊢
  rw [e2] at hpr
  exact ⟨F', _, rfl, ho, hpr, h.q, by rw [← h.prom], h.told, h.props, h.base⟩
theorem N1.six (h : N1 W w g q set F p) : Calls Try.prog 20 #[.pointer (some ⟨g, 0, none⟩), .int .u64 6, .slice none 0 0] w fun e w' => ∃ F' p' A c, e = .returned (.tuple #[.agg #[.int .u64 0, .int .u64 0, .int .i64 0, .slice A 0 c], .int .i64 (if q.isQ false set then 2 else 100)]) ∧ N1 W w' g q set F' p' := by
  refine (h.own.propose 6 (by decide) none 0 0 [] (by decide) (Rd.nil _ _ _) (by rw [h.props]; decide)).mono ?_
  rintro e w' ⟨F', A, c, rfl, ha, ho, hmv⟩
  have hrd : p.ready = q.isQ false set := by unfold Pp.ready; rw [h.q, h.prom]
  have e1 : p.propose 6 [] = ((if q.isQ false set then 2 else 100), ⟨0, Bl.zero, []⟩, p) := by
    unfold Pp.propose
    rw [hrd]
    cases q.isQ false set with
    | false => rfl
    | true => simp [h.base]
  rw [e1] at ho ⊢
  exact ⟨F', p, A, c, rfl, ho, h.pre, h.q, h.prom, h.told, h.props, h.base⟩
theorem N1.ready (h : N1 W w g q set F p) : Calls Try.prog 19 #[.pointer (some ⟨g, 0, none⟩)] w fun e w' => e = .returned (.bool (q.isQ false set)) ∧ Below w.heap.size w w' := by
  have := h.own.ready
  unfold Pp.ready at this
  rwa [h.q, h.prom] at this
theorem N1.not (h : N1 W w g q set F p) (hr : q.isQ false set = false) {gb : Nat} (hb : w.cell? ⟨gb, 0, none⟩ = some (.int .u8 118)) : Calls Try.prog 20 #[.pointer (some ⟨g, 0, none⟩), .int .u64 7, .slice (some ⟨gb, 0, none⟩) 1 1] w fun e w' => ∃ F' p' A c, e = .returned (.tuple #[.agg #[.int .u64 0, .int .u64 0, .int .i64 0, .slice A 0 c], .int .i64 100]) ∧ N1 W w' g q set F' p' := by
  refine (h.own.propose 7 (by decide) (some ⟨gb, 0, none⟩) 1 1 [118] (by decide) (rd_one rfl hb) (by rw [h.props]; decide)).mono ?_
  rintro e w' ⟨F', A, c, rfl, ha, ho, hmv⟩
  have e1 : p.propose 7 [118] = (100, ⟨0, Bl.zero, []⟩, p) := by
    unfold Pp.propose Pp.ready
    rw [h.q, h.prom, hr]
    rfl
  rw [e1] at ho ⊢
  exact ⟨F', p, A, c, rfl, ho, h.pre, h.q, h.prom, h.told, h.props, h.base⟩
theorem N1.put (h : N1 W w g q set F p) (hr : q.isQ false set = true) {gb : Nat} (hb : w.cell? ⟨gb, 0, none⟩ = some (.int .u8 118)) : Calls Try.prog 20 #[.pointer (some ⟨g, 0, none⟩), .int .u64 7, .slice (some ⟨gb, 0, none⟩) 1 1] w fun e w' => ∃ F' p' y0 y1 y2 A c, e = .returned (.tuple #[.agg #[.int .u64 y0, .int .u64 y1, .int .i64 y2, .slice A 1 c], .int .i64 0]) ∧ N2 W w' g q 0 F' p' := by
  have hpr := h.pre.propose h.own.pm.ok 7 [118]
  refine (h.own.propose 7 (by decide) (some ⟨gb, 0, none⟩) 1 1 [118] (by decide) (rd_one rfl hb) (by rw [h.props]; decide)).mono ?_
  rintro e w' ⟨F', A, c, rfl, ha, ho, hmv⟩
  have e1 : p.propose 7 [118] = (0, ⟨7, p.bal, [118]⟩, { p with props := putK 7 ⟨[118], 0⟩ p.props }) := by
    unfold Pp.propose Pp.ready Pp.must
    rw [h.q, h.prom, hr, h.told, h.props, h.base]
    rfl
  rw [e1] at ho hpr ⊢
  refine ⟨F', _, _, _, _, _, _, rfl, ho, hpr, h.q, ?_, h.base⟩
  show putK 7 ⟨[118], 0⟩ p.props = _
  rw [h.props]
  rfl
theorem N1.none (h : N1 W w g q set F p) (hn : 0 < q.nodes) : Calls Try.prog 24 #[.pointer (some ⟨g, 0, .none⟩), .int .i64 0, .int .u64 7] w fun e w' => e = .returned (.int .i64 4) ∧ Below W.heap.size W w' := by
  refine (h.own.accepted 0 7 (by decide)).mono ?_
  rintro e w' ⟨F', rfl, ho, hmv⟩
  have e1 : (p.accepted 0 7).1 = 4 := by
    unfold Pp.accepted
    rw [h.isNode, h.props, decide_eq_true (by decide), decide_eq_true hn]
    rfl
  rw [e1]
  exact ⟨rfl, ho.bel⟩
theorem N2.isNode (h : N2 W w g q set F p) (x : Int) : p.isNode x = (decide (0 ≤ x) && decide (x < q.nodes)) := by unfold Pp.isNode; rw [h.q]
theorem N2.no (h : N2 W w g q set F p) (x : Int) (hx : ¬ (0 ≤ x ∧ x < q.nodes)) : Calls Try.prog 24 #[.pointer (some ⟨g, 0, none⟩), .int .i64 x, .int .u64 7] w fun e w' => ∃ F' p', e = .returned (.int .i64 2) ∧ N2 W w' g q set F' p' := by
  have hi : p.isNode x = false := by
    rw [h.isNode, Bool.and_eq_false_iff, decide_eq_false_iff_not, decide_eq_false_iff_not]; omega
  refine (h.own.accepted x 7 (by decide)).mono ?_
  rintro e w' ⟨F', rfl, ho, hmv⟩
  have e1 : p.accepted x 7 = (2, p) := by unfold Pp.accepted; rw [if_pos hi]
  rw [e1] at ho ⊢
  exact ⟨F', p, rfl, ho, h.pre, h.q, h.props, h.base⟩
theorem N2.yes (h : N2 W w g q set F p) (nd : Nat) (hx : (nd : Int) < q.nodes) : Calls Try.prog 24 #[.pointer (some ⟨g, 0, none⟩), .int .i64 (nd : Int), .int .u64 7] w fun e w' => ∃ F' p', e = .returned (.int .i64 0) ∧ N2 W w' g q (set ||| 2 ^ nd) F' p' := by
  have hi : p.isNode nd = true := by
    rw [h.isNode, decide_eq_true (by omega), decide_eq_true hx]; rfl
  have hpr := (h.pre.accepted h.own.pm.ok nd 7).1
  have hln := p.accepted_len nd 7
  refine (h.own.accepted nd 7 (by decide)).mono ?_
  rintro e w' ⟨F', rfl, ho, hmv⟩
  have e1 : (p.accepted nd 7).1 = 0 ∧ (p.accepted nd 7).2.props = putK 7 ⟨[118], set ||| 2 ^ nd⟩ p.props := by
    unfold Pp.accepted
    rw [if_neg (by rw [hi]; simp), h.props]
    exact ⟨rfl, rfl⟩
  rw [e1.1]
  refine ⟨F', _, rfl, ho, hpr, by rw [hln.2.2.2.1]; exact h.q, ?_, by rw [hln.2.2.1]; exact h.base⟩
  rw [e1.2, h.props]
  rfl
theorem N2.chosen (h : N2 W w g q set F p) (hr : q.isQ true set = true) : Calls Try.prog 25 #[.pointer (some ⟨g, 0, none⟩), .int .u64 7] w fun e w' => ∃ A c, e = .returned (.tuple #[.slice A 1 c, .bool true]) ∧ Rd w' w'.heap.size A 1 [118] ∧ Below w.heap.size w w' := by
  refine (h.own.chosen 7 (by decide)).mono ?_
  rintro e w' ⟨A, c, rfl, ho, hb⟩
  have e1 : p.chosen 7 = some [118] := by
    unfold Pp.chosen
    rw [h.props, h.q]
    show (if q.isQ true set = true then some [118] else none) = some [118]
    rw [if_pos hr]
  rw [e1] at ho ⊢
  exact ⟨A, c, rfl, Rd.of_own ho, hb⟩
theorem N2.open_ (h : N2 W w g q set F p) (hr : q.isQ true set = false) : Calls Try.prog 25 #[.pointer (some ⟨g, 0, none⟩), .int .u64 7] w fun e w' => ∃ A c, e = .returned (.tuple #[.slice A 0 c, .bool false]) ∧ Below w.heap.size w w' := by
  refine (h.own.chosen 7 (by decide)).mono ?_
  rintro e w' ⟨A, c, rfl, ho, hb⟩
  have e1 : p.chosen 7 = none := by
    unfold Pp.chosen
    rw [h.props, h.q]
    show (if q.isQ true set = true then some [118] else none) = none
    rw [if_neg (by rw [hr]; simp)]
  rw [e1] at ho ⊢
  exact ⟨A, c, rfl, hb⟩
theorem N2.prefix (h : N2 W w g q set F p) : Calls Try.prog 29 #[.pointer (some ⟨g, 0, none⟩)] w fun e w' => e = .returned (.int .u64 (if q.isQ true set then 7 else 6)) ∧ w = w' := by
  have hc : ∀ s, p.isChosen s = (decide (s = 7) && q.isQ true set) := fun s => by
    unfold Pp.isChosen
    rw [h.props, h.q]
    by_cases h7 : s = 7
    · subst h7
      show q.isQ true set = _
      simp
    · have e : getK [((7 : Nat), (⟨[118], set⟩ : Pz))] s = none := by
        unfold getK
        have : ((7 : Nat) == s) = false := by simpa using fun e => h7 e.symm
        simp [this]
      rw [e, decide_eq_false h7]
      rfl
  have h1 := h.pre.all
  have h2 := h.pre.non
  have h3 := h.own.pm.ok.pre.1
  rw [h.base] at h1 h3
  have hp : p.pre = if q.isQ true set then 7 else 6 := by
    by_cases h8 : 7 ≤ p.pre
    · have a1 := h1 p.pre h8 (Nat.le_refl _)
      rw [hc] at a1
      simp only [Bool.and_eq_true, decide_eq_true_eq] at a1
      rw [a1.2, a1.1]
      rfl
    · have e6 : p.pre = 6 := by omega
      rw [e6, hc] at h2
      simp only [decide_true, Bool.true_and] at h2
      rw [e6, h2]
      rfl
  have := h.own.pre
  rw [hp] at this
  cases hq : q.isQ true set with
  | false => rw [hq] at this; exact this
  | true => rw [hq] at this; exact this
end
end Go.Proofs.Ythkkkldkpdkabaa
