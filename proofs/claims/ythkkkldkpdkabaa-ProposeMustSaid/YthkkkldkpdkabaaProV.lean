/- Layer 10: what ProposeMust plays. -/
import Derived.Test.YthkkkldkpdkabaaProU
import Derived.Test.YthkkkldkpdkabaaProT
import Derived.Test.YthkkkldkpdkabaaAppend2
namespace Go.Proofs.Ythkkkldkpdkabaa
open Go.ChangeShapes Go.WideShapes Go.ChangeAt Go.RowKit Go.Maps

def kq12 : Qm := ⟨1, 12, 1, 12, []⟩
theorem kq12_right : kq12.right = 0 := by decide +kernel
theorem qi_kq12 (W : World) : Qi W kq12 none 0 0 := ⟨⟨by decide, by decide⟩, ⟨by decide, by decide⟩, ⟨by decide, by decide⟩, ⟨by decide, by decide⟩, by decide, RdI.nil _ _ _⟩
def topB : Bl := ⟨18446744073709551615, 11⟩
/-- Who has told: twelve flags. -/
def flagsL (m : Nat) : List Value := (List.range 12).map fun i => Value.bool (m.testBit i)
def flags (m : Nat) : Array Value := #[.bool (m.testBit 0), .bool (m.testBit 1), .bool (m.testBit 2), .bool (m.testBit 3), .bool (m.testBit 4), .bool (m.testBit 5), .bool (m.testBit 6), .bool (m.testBit 7), .bool (m.testBit 8), .bool (m.testBit 9), .bool (m.testBit 10), .bool (m.testBit 11)]
theorem flags_at (m i : Nat) (hi : i < 12) : (flags m)[i]? = some (.bool (m.testBit i)) := by
  unfold flags
  have : i = 0 ∨ i = 1 ∨ i = 2 ∨ i = 3 ∨ i = 4 ∨ i = 5 ∨ i = 6 ∨ i = 7 ∨ i = 8 ∨ i = 9 ∨ i = 10 ∨ i = 11 := by omega
  rcases this with rfl | rfl | rfl | rfl | rfl | rfl | rfl | rfl | rfl | rfl | rfl | rfl <;> rfl
theorem flags_set (m i : Nat) : (flags m).setIfInBounds i (.bool true) = flags (m ||| 2 ^ i) := by
  apply Array.ext
  · simp [flags]
  · intro j h1 h2
    have hj : j < 12 := h2
    have e1 : (flags (m ||| 2 ^ i))[j]? = some (.bool ((m ||| 2 ^ i).testBit j)) := flags_at _ j hj
    have e2 : (flags m)[j]? = some (.bool (m.testBit j)) := flags_at _ j hj
    rw [Array.getElem?_eq_getElem h2] at e1
    rw [Array.getElem?_eq_getElem (show j < (flags m).size from hj)] at e2
    injection e1 with e1
    injection e2 with e2
    rw [e1, Array.getElem_setIfInBounds (by simpa using h1), Nat.testBit_or, Nat.testBit_two_pow, e2]
    by_cases hij : i = j
    · subst hij; simp
    · simp [hij]
/-- Votes in a row of the call's own, whose values were handed in. -/
def vrE (e : Vtr) : List Value := [.int .u64 (e.1.slot : Int), .int .u64 (e.1.bal.n : Int), .int .i64 e.1.bal.node, .slice e.2.1 e.2.2.1 e.2.2.2]
def vrC (es : List Vtr) : List Value := es.flatMap vrE
theorem vrC_app (a b : List Vtr) : vrC (a ++ b) = vrC a ++ vrC b := by unfold vrC; rw [List.flatMap_append]
theorem vrC_at (es : List Vtr) (i j : Nat) (hi : i < es.length) (hj : j < 4) : (vrC es)[i * 4 + j]? = (vrE es[i])[j]? := flat_at (s := 4) es (fun _ _ => rfl) i j hi hj
theorem vrC_len (es : List Vtr) : (vrC es).length = es.length * 4 := flat_len es fun _ _ => rfl
/-- Ahead of a round of the first loop: the flags say m, the votes are L in the end. -/
structure M1 (W W1 w : World) (g ga gt k s m : Nat) (L : List Vt) (F : Nat → Prop) (p : Pp) (V : Value) (es : List Vtr) : Prop where
  own : OwP W1 w F g p
  q : p.q = kq12
  bal : p.bal = topB
  base : p.base = 1
  props : p.props = []
  told : p.told.length ≤ 4000 * k
  arr : Bk w ga 45 (flags m)
  gan : ¬ F ga
  gage : W1.heap.size ≤ ga
  top : Bk w gt 27 #[.int .u64 18446744073709551615, .int .i64 11]
  gtn : ¬ F gt
  row : w.ownsRow W1.heap.size 48 4 V es.length (vrC es)
  rown : ∀ j, V.ownBlock = some j → ¬ F j
  len : es.length ≤ 4000 * k
  each : ∀ e ∈ es, e.2.2.1 ≤ e.2.2.2 ∧ e.2.2.2 ≤ 9223372036854775807 ∧ Rd W W.heap.size e.2.1 e.2.2.1 e.1.val
  ti : TI p s L
section
variable {W W1 w w' : World} {g ga gt k s m : Nat} {L : List Vt} {F : Nat → Prop} {p : Pp} {V : Value} {es : List Vtr}
theorem M1.below (h : M1 W W1 w g ga gt k s m L F p V es) (hb : Below w.heap.size w w') : M1 W W1 w' g ga gt k s m L F p V es :=
  ⟨h.own.below hb, h.q, h.bal, h.base, h.props, h.told, h.arr.below hb h.arr.lt, h.gan, h.gage, h.top.below hb h.top.lt, h.gtn, own_kp h.row (Kp.of_below (F := fun _ => False) hb) (fun _ _ h => h), h.rown, h.len, h.each, h.ti⟩
theorem not_mv {F F' : Nat → Prop} {w w' : World} (hm : Mv F F' w w') {b : Nat} (hb : b < w.heap.size) (hn : ¬ F b) : ¬ F' b := fun hf => by
  rcases hm.new b hf with h1 | h1
  · exact hn h1
  · omega
theorem M1.prom (h : M1 W W1 w g ga gt k s p.prom (es.map (·.1)) F p V es) (hWW : Below W.heap.size W W1) {x : Ac10} (hx : x.Ok W W.heap.size) (hn : x.vn ≤ 4000) (hk : k < 1000) :
    Calls Try.prog 16 #[.pointer (some ⟨g, 0, none⟩), .int .i64 x.node, .slice x.vA x.vn x.vc] w fun e w' => ∃ F' p' r, e = .returned (.int .i64 r) ∧
      ((r ≠ 0 ∧ M1 W W1 w' g ga gt (k + 1) s p'.prom (es.map (·.1)) F' p' V es) ∨ ∃ nd : Nat, x.node = (nd : Int) ∧ nd < 12 ∧ r = 0 ∧
        ((p.prom.testBit nd = true ∧ p'.prom = p.prom ∧ M1 W W1 w' g ga gt (k + 1) s p'.prom (es.map (·.1)) F' p' V es) ∨
          (p.prom.testBit nd = false ∧ p'.prom = p.prom ||| 2 ^ nd ∧ M1 W W1 w' g ga gt (k + 1) s p.prom (es.map (·.1) ++ atS s (x.es.map (·.1))) F' p' V es))) := by
  have hx' := hx.below (below_then hWW h.own.bel)
  have ht := h.told
  have hlen := h.len
  have hl := hx'.vs.len
  have hz := hWW.size
  refine (h.own.promise hx'.vs (fun j h1 h2 => by have := h.own.ge j h2; omega) (fun j hj => Nat.lt_of_lt_of_le hj (Nat.le_trans hz h.own.bel.size)) (by omega) x.node).mono ?_
  rintro e w' ⟨F', rfl, ho, hmv⟩
  have hs := p.promise_same x.node (x.es.map (·.1))
  have htl := p.promise_told x.node (x.es.map (·.1))
  rw [List.length_map, hl] at htl
  have hd := p.promise_does h.own.pm.ok.right x.node (x.es.map (·.1)) s (es.map (·.1)) h.ti
  have hn12 : p.q.n = 12 := by rw [h.q]; rfl
  have mk : ∀ (m' : Nat) (L' : List Vt), m' = p.prom → TI (p.promise x.node (x.es.map (·.1))).2 s L' → M1 W W1 w' g ga gt (k + 1) s m' L' F' (p.promise x.node (x.es.map (·.1))).2 V es := fun m' L' e1 e2 => by
    subst e1
    exact ⟨ho, by rw [hs.1]; exact h.q, by rw [hs.2.1]; exact h.bal, by rw [hs.2.2.1]; exact h.base, by rw [hs.2.2.2.1]; exact h.props, by omega, h.arr.kp hmv.kp h.gan, not_mv hmv h.arr.lt h.gan, h.gage, h.top.kp hmv.kp h.gtn, not_mv hmv h.top.lt h.gtn,
      own_kp h.row hmv.kp h.rown, fun j e => not_mv hmv (h.row.lt j e).2 (h.rown j e), by omega, h.each, e2⟩
  refine ⟨F', (p.promise x.node (x.es.map (·.1))).2, _, rfl, ?_⟩
  rcases hd with ⟨hr, hp⟩ | ⟨hr, ⟨nd, hnd, hlt, hb, hpr⟩, hti⟩
  · rcases hr with hr | ⟨hr, nd, hnd, hlt, hb⟩
    · refine .inl ⟨hr, mk _ _ (by rw [hp]) (by rw [hp]; exact h.ti)⟩
    · exact .inr ⟨nd, hnd, by omega, hr, .inl ⟨hb, by rw [hp], mk _ _ (by rw [hp]) (by rw [hp]; exact h.ti)⟩⟩
  · exact .inr ⟨nd, hnd, by omega, hr, .inr ⟨hb, hpr, mk _ _ rfl hti⟩⟩
/-- A flag is set. -/
theorem M1.flag (h : M1 W W1 w g ga gt k s m L F p V es) (nd : Nat) : M1 W W1 (w.setCell ⟨ga, nd, none⟩ (.bool true)) g ga gt k s (m ||| 2 ^ nd) L F p V es := by
  have hk : Kp (fun j => j = ga) w (w.setCell ⟨ga, nd, none⟩ (.bool true)) := Kp.set_ (F := fun j => j = ga) (p := ⟨ga, nd, none⟩) rfl _
  have hg1 := h.gage
  refine ⟨h.own.kp hk (fun j e => by subst e; exact hg1) (fun j hj e => h.gan (by rw [← e]; exact hj)), h.q, h.bal, h.base, h.props, h.told, ?_, h.gan, h.gage, h.top.kp hk (bk_types h.top h.arr (by decide)), h.gtn, own_kp h.row hk (bk_off h.arr h.row (by decide)), h.rown, h.len, h.each, h.ti⟩
  have hb := h.arr.set_ nd (.bool true)
  rw [flags_set m nd] at hb
  exact hb
/-- A vote more. -/
theorem M1.push (h : M1 W W1 w g ga gt k s m L F p V es) {e : Vtr} {V' : Value} {n : Nat} (hn : es.length + 1 ≤ 4000 * n) (hkn : k ≤ n) (hb : Below w.heap.size w w') {w2 : World}
    (he : e.2.2.1 ≤ e.2.2.2 ∧ e.2.2.2 ≤ 9223372036854775807 ∧ Rd W W.heap.size e.2.1 e.2.2.1 e.1.val) (ha : App w' w2 W1.heap.size 48 4 V V' es.length 1 (vrC es) (vrE e)) : M1 W W1 w2 g ga gt n s m L F p V' (es ++ [e]) := by
  have hB := h.below hb
  have hk : Kp (fun j => V.ownBlock = some j) w' w2 := Kp.of_row ha.grow (fun _ e => e)
  have hrow : ∀ j, V.ownBlock = some j → W1.heap.size ≤ j := fun j e => (hB.row.lt j e).1
  have hd : ∀ j, F j → ¬ V.ownBlock = some j := fun j h1 h2 => hB.rown j h2 h1
  have hown : OwP W1 w2 F g p := ⟨hB.own.pm.kp hk hd, hB.own.ge, ?_⟩
  · refine ⟨hown, h.q, h.bal, h.base, h.props, Nat.le_trans h.told (by omega), hB.arr.kp hk (fun e2 => bk_off hB.arr hB.row (by decide) ga e2 rfl), h.gan, h.gage, hB.top.kp hk (fun e2 => bk_off hB.top hB.row (by decide) gt e2 rfl), h.gtn, ?_, ?_, by rw [List.length_append]; exact hn, ?_, h.ti⟩
    · rw [List.length_append, vrC_app]
      have : vrC [e] = vrE e := by unfold vrC; simp
      rw [this]
      exact ha.own
    · intro j hj hf
      rcases ha.block with h2 | h2
      · rw [h2] at hj; exact hB.rown j hj hf
      · rw [h2] at hj
        injection hj with hj
        have := hB.own.pm.lt _ hf
        omega
    · intro x hx
      rcases List.mem_append.1 hx with hx | hx
      · exact h.each x hx
      · rw [List.mem_singleton] at hx
        subst hx
        exact he
  · exact hB.own.bel.trans (hk.below hrow hB.own.bel.size)
theorem M1.propose (h : M1 W W1 w g ga gt k s m L F p V es) (hr : p.ready = true) (hs0 : 0 < s) (hs : s < 18446744073709551616) {oA : Option Addr} {on oc : Nat} {own : List UInt8} (hown : own.length ≤ 100) (hrd : Rd w w.heap.size oA on own) :
    Calls Try.prog 20 #[.pointer (some ⟨g, 0, none⟩), .int .u64 (s : Int), .slice oA on oc] w fun e w' => ∃ F' A c, e = .returned (.tuple #[.agg #[.int .u64 (s : Int), .int .u64 18446744073709551615, .int .i64 11, .slice A ((p.must s).getD own).length c], .int .i64 0]) ∧ w'.ownsRow w.heap.size 5 1 (.slice A ((p.must s).getD own).length c) ((p.must s).getD own).length (u8s ((p.must s).getD own)) ∧ Below W1.heap.size W1 w' ∧ Mv F F' w w' := by
  have hrl := hrd.1
  refine (h.own.propose s hs oA on oc own (by omega) hrd (by rw [h.props]; decide)).mono ?_
  rintro e w' ⟨F', A, c, rfl, ha, ho, hmv⟩
  have hlt : ¬ s < p.base := by rw [h.base]; omega
  have hnone : getK p.props s = none := by rw [h.props]; rfl
  have e1 : p.propose s own = (0, ⟨s, p.bal, (p.must s).getD own⟩, { p with props := putK s ⟨(p.must s).getD own, 0⟩ p.props }) := by
    unfold Pp.propose
    rw [if_neg (by rw [hr]; simp), if_neg hlt, hnone]
    cases p.must s with
    | none => simp only [Option.getD_none]; rw [if_neg (by omega)]
    | some v => rfl
  rw [e1] at ho ha ⊢
  dsimp only at ho ha ⊢
  rw [h.bal]
  exact ⟨F', A, c, rfl, ha.1, ho.bel, hmv⟩
end
end Go.Proofs.Ythkkkldkpdkabaa
