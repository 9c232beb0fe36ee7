/- Layer 12: RlogSame's state: two logs that are told of the same values; what is left of them. -/
import Derived.Test.YtpgjilpalhclcaaRlTw
import Derived.Test.YtpgjilpalhclcaaRlGl
import Derived.Test.YtpgjilpalhclcaaSame
import Derived.Deep.CutRange
import Derived.Deep.CutBlock
import Derived.Deep.DeepCutAuto
namespace Go.Proofs.Ytpgjilpalhclcaa
open Go.ChangeShapes Go.WideShapes Go.ChangeAt Go.RowKit

theorem learn_ap (p : Rl) (s : Nat) (v : List UInt8) : (p.learn s v).2.ap = p.ap := by
  rcases learn_or p s v with h | ⟨_, _, _, _, _, _, h⟩ <;> rw [h]
/-- Both logs, the second never applied. -/
def SaL (W : World) (val : Nat → List UInt8) (n g1 g2 : Nat) (w : World) : Prop := ∃ p1 p2, Tw12 W w g1 g2 p1 p2 ∧ Fits val n p1 ∧ Fits val n p2 ∧ p2.ap = 0
/-- A row of entries, from a slot on. -/
def EnT (val : Nat → List UInt8) (n at_ : Nat) (A : Option Addr) (i : Nat) (w : World) : Prop :=
  ∀ j, j < i → at_ + j < n ∧ ∃ R s, A = some ⟨R, 0, none⟩ ∧ w.cell? ⟨R, j * 2, none⟩ = some (.int .u64 ((at_ + j + 1 : Nat) : Int)) ∧ w.cell? ⟨R, j * 2 + 1, none⟩ = some (s3W s) ∧ Rd w w.heap.size s.1 s.2.1 (val (at_ + j))
section
variable {W w w' : World} {val : Nat → List UInt8} {n g1 g2 : Nat}
theorem EnT.up {at_ i : Nat} {A : Option Addr} (h : EnT val n at_ A i w) (hb : Below w.heap.size w w') : EnT val n at_ A i w' := fun j hj => by
  obtain ⟨h0, R, s, e, q0, q1, hr⟩ := h j hj
  exact ⟨h0, R, s, e, (hb.cell (p := ⟨R, j * 2, none⟩) (World.block_lt_of_cell? w _ q0)).trans q0, (hb.cell (p := ⟨R, j * 2 + 1, none⟩) (World.block_lt_of_cell? w _ q1)).trans q1, hr.up hb⟩
theorem SaL.below (h : SaL W val n g1 g2 w) (hb : Below w.heap.size w w') : SaL W val n g1 g2 w' := by
  obtain ⟨p1, p2, ht, h1, h2, h3⟩ := h
  exact ⟨p1, p2, ht.below hb, h1, h2, h3⟩
theorem SaL.bel (h : SaL W val n g1 g2 w) : Below W.heap.size W w := by
  obtain ⟨p1, p2, ht, _⟩ := h
  exact ht.bel
theorem SaL.learnA (h : SaL W val n g1 g2 w) {s : Nat} (hs : s < n) (hn : n ≤ 60) {A : Option Addr} {m : Nat} (c : Nat) (hr : Rd w w.heap.size A m (val s)) (hm : m ≤ 100) :
    Calls Try.prog 24 #[.pointer (some ⟨g1, 0, none⟩), .int .u64 ((s + 1 : Nat) : Int), .slice A m c] w fun e w' => e = .returned (.int .i64 0) ∧ Hid (SaL W val n g1 g2 w') := by
  obtain ⟨p1, p2, ht, h1, h2, h3⟩ := h
  have hl : (val s).length ≤ 100 := by rw [hr.1]; exact hm
  refine (ht.learn (s + 1) (by omega) c hr (by omega)).mono ?_
  rintro e w' ⟨rfl, HX⟩
  obtain ⟨e1, f1⟩ := h1.learn HX.out.ok1 hs hn hl
  exact ⟨by rw [e1], Lib.hid ⟨_, _, HX.out, f1, h2, h3⟩⟩
theorem SaL.learnB (h : SaL W val n g1 g2 w) {s : Nat} (hs : s < n) (hn : n ≤ 60) {A : Option Addr} {m : Nat} (c : Nat) (hr : Rd w w.heap.size A m (val s)) (hm : m ≤ 100) :
    Calls Try.prog 24 #[.pointer (some ⟨g2, 0, none⟩), .int .u64 ((s + 1 : Nat) : Int), .slice A m c] w fun e w' => e = .returned (.int .i64 0) ∧ Hid (SaL W val n g1 g2 w') := by
  obtain ⟨p1, p2, ht, h1, h2, h3⟩ := h
  have hl : (val s).length ≤ 100 := by rw [hr.1]; exact hm
  refine (ht.swap.learn (s + 1) (by omega) c hr (by omega)).mono ?_
  rintro e w' ⟨rfl, HX⟩
  obtain ⟨e1, f1⟩ := h2.learn HX.out.ok1 hs hn hl
  exact ⟨by rw [e1], Lib.hid ⟨_, _, HX.out.swap, h1, f1, by rw [learn_ap]; exact h3⟩⟩
theorem SaL.applyA (h : SaL W val n g1 g2 w) : Calls Try.prog 26 #[.pointer (some ⟨g1, 0, none⟩)] w fun e w' => (∃ x b, e = .returned (.tuple #[x, .bool b])) ∧ Hid (SaL W val n g1 g2 w') := by
  obtain ⟨p1, p2, ht, h1, h2, h3⟩ := h
  refine ht.apply.mono ?_
  rintro e w' ⟨hx, HX⟩
  exact ⟨hx, Lib.hid ⟨_, _, HX.out, h1.apply HX.out.ok1, h2, h3⟩⟩
theorem ent_of {p : Rl} {i c base : Nat} {A : Option Addr} {es : List Ene} (h : Fits val n p) (hh : ∀ j, j < i → p.has (p.ap + 1 + j) = true) (hc : CatR w base (.slice A i c) i es) (hv : es.map (·.1) = p.outs i) : EnT val n p.ap A i w := fun j hj => by
  obtain ⟨e1, e2⟩ := h.at_ (hh j hj)
  refine ⟨by omega, ?_⟩
  obtain ⟨R, c', ev, hi', q0, q1, hr⟩ := hc.cell j hj
  injection ev with ev _ _
  have e3 : es[j].1 = ⟨p.ap + j + 1, val (p.ap + j)⟩ := by
    have h4 : (es.map (·.1))[j]? = some (p.at_ (p.ap + 1 + j)) := by
      rw [hv]
      unfold Rl.outs
      rw [List.getElem?_map, List.getElem?_range hj]
      rfl
    rw [List.getElem?_map, List.getElem?_eq_getElem hi', e1] at h4
    have h5 : es[j].1 = ⟨p.ap + 1 + j, val (p.ap + 1 + j - 1)⟩ := by simpa using h4
    rw [h5, show p.ap + 1 + j = p.ap + j + 1 by omega]
    rfl
  rw [e3] at q0 hr
  exact ⟨R, es[j].2, ev, q0, q1, hr⟩
theorem SaL.rests (h : SaL W val n g1 g2 w) : Calls Try.prog 28 #[.pointer (some ⟨g1, 0, none⟩)] w fun e w4 => ∃ A c i, e = .returned (.slice A i c) ∧ i ≤ 300 ∧
    Hid (Calls Try.prog 28 #[.pointer (some ⟨g2, 0, none⟩)] w4 fun e w5 => ∃ A' c' i' at_, e = .returned (.slice A' i' c') ∧ i' ≤ 300 ∧ Hid (Below W.heap.size W w5) ∧ Hid (EnT val n at_ A i w5) ∧ Hid (EnT val n 0 A' i' w5)) := by
  obtain ⟨p1, p2, ht, h1, h2, h3⟩ := h
  obtain ⟨F1, F2, o1, o2, hd⟩ := ht
  refine (rest_any o1).mono ?_
  rintro e w4 ⟨A, c, i, rfl, hi, HR, HS⟩
  obtain ⟨es, hS⟩ := HS.out
  refine ⟨A, c, i, rfl, hi, Lib.hid ?_⟩
  have o4 : OL W w4 F2 g2 p2 := o2.kp hS.kp (fun k a b => hd k b a) o1.2.1
  refine (rest_any o4).mono ?_
  rintro e w5 ⟨A', c', i', rfl, hi', HR', HS'⟩
  obtain ⟨es', hS'⟩ := HS'.out
  have hE := ent_of h1 HR.out.1 (hS.cat.kp hS'.kp o2.lt) hS.vals
  have hE' := ent_of h2 HR'.out.1 hS'.cat hS'.vals
  rw [h3] at hE'
  exact ⟨A', c', i', p1.ap, rfl, hi', Lib.hid hS'.ol.2.2, Lib.hid hE, Lib.hid hE'⟩
end
end Go.Proofs.Ytpgjilpalhclcaa
