/- Layer 12's laws: what holds ahead of a round over acts, over holes. -/
import Derived.Test.YtpgjilpalhclcaaRlV
import Derived.Test.YtpgjilpalhclcaaRlX
import Derived.Deep.CutRange
import Derived.Deep.CutBlock
import Derived.Deep.DeepCutAuto
namespace Go.Proofs.Ytpgjilpalhclcaa
open Go.ChangeShapes Go.WideShapes Go.ChangeAt Go.RowKit

def HoL (W : World) (g : Nat) (wr : World) : Prop := ∃ F p, OL W wr F g p ∧ Sm 60 p
def HoS (W : World) (p : Rl) (g : Nat) (v : Value) (i : Nat) (wr : World) : Prop :=
  ∃ F q, OL W wr F g q ∧ Filled p q (p.hol 1000 p.top) i ∧ wr.ownsRow W.heap.size 23 1 v (p.hol 1000 p.top).length (u64s (p.hol 1000 p.top)) ∧ ∀ k, v.ownBlock = some k → ¬ F k
theorem HoL.learn {W wr : World} {g : Nat} (h : HoL W g wr) (S : Nat) (hS : S < 60) {A : Option Addr} {n : Nat} (c : Nat) {l : List UInt8} (hr : Rd wr W.heap.size A n l) (hn : n ≤ 1000) :
    Calls Try.prog 24 #[.pointer (some ⟨g, 0, none⟩), .int .u64 (S : Int), .slice A n c] wr fun e w' => (∃ r, e = .returned (.int .i64 r)) ∧ Hid (HoL W g w') := by
  obtain ⟨F, p, ho, hs⟩ := h
  refine (ho.learn S (S : Int) rfl (by omega) c (hr.more ho.2.2.size) (by omega)).mono ?_
  rintro e w' ⟨rfl, HX⟩
  obtain ⟨F', ho', _⟩ := HX.out
  exact ⟨⟨_, rfl⟩, Lib.hid ⟨F', _, ho', hs.learn hS l⟩⟩
theorem HoL.apply {W wr : World} {g : Nat} (h : HoL W g wr) : Calls Try.prog 26 #[.pointer (some ⟨g, 0, none⟩)] wr fun e w' => (∃ x b, e = .returned (.tuple #[x, .bool b])) ∧ Hid (HoL W g w') := by
  obtain ⟨F, p, ho, hs⟩ := h
  refine ho.apply.mono ?_
  rintro e w' ⟨s, rfl, HX⟩
  exact ⟨⟨_, _, rfl⟩, Lib.hid ⟨F, _, HX.out.2.1, hs.apply⟩⟩
theorem HoL.below {W wr w' : World} {g : Nat} (h : HoL W g wr) (hb : Below wr.heap.size wr w') : HoL W g w' := by
  obtain ⟨F, p, ho, hs⟩ := h
  exact ⟨F, p, ho.below hb, hs⟩
theorem HoL.bel {W wr : World} {g : Nat} (h : HoL W g wr) : Below W.heap.size W wr := by
  obtain ⟨F, p, ho, hs⟩ := h
  exact ho.2.2
theorem HoS.below {W wr w' : World} {p : Rl} {g i : Nat} {v : Value} (h : HoS W p g v i wr) (hb : Below wr.heap.size wr w') : HoS W p g v i w' := by
  obtain ⟨F, q, h1, h2, h3, h4⟩ := h
  exact ⟨F, q, h1.below hb, h2, own_below h3 hb fun k e => (h3.lt k e).2, h4⟩
section
variable {W wr : World} {p : Rl} {g i : Nat} {v : Value}
theorem HoS.applied (h : HoS W p g v i wr) : Calls Try.prog 14 #[.pointer (some ⟨g, 0, none⟩)] wr fun e w' => e = .returned (.int .u64 (p.ap : Int)) ∧ wr = w' := by
  obtain ⟨F, q, h1, h2, h3, h4⟩ := h
  have := h1.applied
  rwa [h2.ap] at this
theorem HoS.next (h : HoS W p g v i wr) (hp : Sm 60 p) (hpo : p.Ok) (hi : i < (p.hol 1000 p.top).length) : Calls Try.prog 15 #[.pointer (some ⟨g, 0, none⟩)] wr fun e w' => e = .returned (.int .u64 ((p.hol 1000 p.top)[i] : Int)) ∧ Hid (Below wr.heap.size wr w') := by
  obtain ⟨F, q, h1, h2, h3, h4⟩ := h
  have := h1.next
  rwa [(h2.at_ hp hpo h1.ok hi).2.2.1] at this
theorem HoS.learn (h : HoS W p g v i wr) (hp : Sm 60 p) (hpo : p.Ok) (hi : i < (p.hol 1000 p.top).length) : Calls Try.prog 24 #[.pointer (some ⟨g, 0, none⟩), .int .u64 ((p.hol 1000 p.top)[i] : Int), .slice none 0 0] wr fun e w' => e = .returned (.int .i64 0) ∧ Hid (HoS W p g v (i + 1) w') := by
  obtain ⟨F, q, h1, h2, h3, h4⟩ := h
  obtain ⟨a1, a2, a3, a4, a5⟩ := h2.at_ hp hpo h1.ok hi
  have ht := hp.top hpo
  have := h1.learn (p.hol 1000 p.top)[i] _ rfl (by omega) 0 (Rd.nil wr wr.heap.size none) (by decide)
  rw [a4] at this
  refine this.mono ?_
  rintro e w' ⟨rfl, HX⟩
  obtain ⟨F', ho', hm⟩ := HX.out
  refine ⟨rfl, Lib.hid ⟨F', _, ho', a5, own_kp h3 hm.kp h4, fun k hk hf => ?_⟩⟩
  rcases hm.new k hf with h' | h'
  · exact h4 k hk h'
  · have := (h3.lt k hk).2; omega
theorem HoS.cell {v0 n c : Nat} (h : HoS W p g (.slice (some ⟨v0, 0, none⟩) n c) i wr) (j : Nat) (hj : j < (p.hol 1000 p.top).length) : wr.cell? ⟨v0, j, none⟩ = some (.int .u64 ((p.hol 1000 p.top)[j] : Int)) := by
  obtain ⟨F, q, h1, h2, h3, h4⟩ := h
  have := h3.cells (g := v0) rfl j (.int .u64 ((p.hol 1000 p.top)[j] : Int)) (by unfold u64s; simp [hj])
  rwa [Addr.add_lit, Nat.zero_add] at this
end

/-- Behind the acts. -/
theorem HoL.facts {W w : World} {g : Nat} (h : HoL W g w) : ∃ p, p.top < 60 ∧ Hid (Sm 60 p ∧ p.Ok) ∧ Hid (Calls Try.prog 17 #[.pointer (some ⟨g, 0, none⟩)] w fun e w' => e = .returned (.int .u64 (p.top : Int)) ∧
      Hid (Calls Try.prog 22 #[.pointer (some ⟨g, 0, none⟩), .int .i64 1000] w' fun e w' => ∃ A c, e = .returned (.slice A (p.hol 1000 p.top).length c) ∧ Hid (HoS W p g (.slice A (p.hol 1000 p.top).length c) 0 w'))) := by
  obtain ⟨F, p, ho, hsm⟩ := h
  refine ⟨p, hsm.top ho.ok, Lib.hid ⟨hsm, ho.ok⟩, Lib.hid ?_⟩
  refine ho.top.mono ?_
  rintro e w' ⟨rfl, hb⟩
  refine ⟨rfl, Lib.hid ?_⟩
  have ho' := ho.below hb.out
  refine (ho'.holes 1000 (by decide)).mono ?_
  rintro e w'' ⟨A, c, rfl, HX⟩
  rw [show (1000 : Int).toNat = 1000 from rfl] at HX ⊢
  obtain ⟨hown, hbl⟩ := HX.out
  refine ⟨A, c, rfl, Lib.hid ⟨F, p, ho'.below hbl, Filled.start hsm _, own_mono hown ho'.2.2.size, fun k hk hf => ?_⟩⟩
  have := (hown.lt k hk).1
  have := ho'.lt k hf
  omega
/-- A round over the holes. -/
theorem HoS.round {W w : World} {p : Rl} {g i R N2 c : Nat} (h : HoS W p g (.slice (some ⟨R, 0, none⟩) N2 c) i w) (hp : Sm 60 p ∧ p.Ok) (hN : N2 = (p.hol 1000 p.top).length) (hi : i < N2) :
    ∃ x y : Nat, p.ap < x ∧ x < p.top ∧ (0 < i → y < x) ∧ w.cell? ⟨R, i, none⟩ = some (.int .u64 (x : Int)) ∧ (0 < i → w.cell? ⟨R, i - 1, none⟩ = some (.int .u64 (y : Int))) ∧
      Hid (∀ w', Below w.heap.size w w' → w'.cell? ⟨R, i, none⟩ = some (.int .u64 (x : Int)) ∧ (0 < i → w'.cell? ⟨R, i - 1, none⟩ = some (.int .u64 (y : Int)))) ∧
      Hid (∀ w', Below w.heap.size w w' → Calls Try.prog 14 #[.pointer (some ⟨g, 0, none⟩)] w' fun e w'' => e = .returned (.int .u64 (p.ap : Int)) ∧ w' = w'') ∧
      Hid (∀ w', Below w.heap.size w w' → Calls Try.prog 15 #[.pointer (some ⟨g, 0, none⟩)] w' fun e w'' => e = .returned (.int .u64 (x : Int)) ∧ Below w'.heap.size w' w'') ∧
      Hid (∀ w', Below w.heap.size w w' → Calls Try.prog 24 #[.pointer (some ⟨g, 0, none⟩), .int .u64 (x : Int), .slice none 0 0] w' fun e w'' => e = .returned (.int .i64 0) ∧ (w''.cell? ⟨R, i, none⟩ = some (.int .u64 (x : Int)) ∧ (0 < i → w''.cell? ⟨R, i - 1, none⟩ = some (.int .u64 (y : Int)))) ∧ Hid (HoS W p g (.slice (some ⟨R, 0, none⟩) N2 c) (i + 1) w'')) := by
  have hi' : i < (p.hol 1000 p.top).length := by omega
  obtain ⟨h1, h2⟩ := hp
  have ha : p.ap < (p.hol 1000 p.top)[i] ∧ (p.hol 1000 p.top)[i] < p.top := by
    obtain ⟨F, q, a1, a2, _⟩ := h
    have := a2.at_ h1 h2 a1.ok hi'
    exact ⟨this.1, this.2.1⟩
  have hc : ∀ (k : Nat) (w' : World), HoS W p g (.slice (some ⟨R, 0, none⟩) N2 c) k w' → w'.cell? ⟨R, i, none⟩ = some (.int .u64 ((p.hol 1000 p.top)[i] : Int)) ∧ (0 < i → w'.cell? ⟨R, i - 1, none⟩ = some (.int .u64 ((p.hol 1000 p.top)[i - 1] : Int))) := fun k w' hw => ⟨hw.cell i hi', fun _ => hw.cell (i - 1) (by omega)⟩
  refine ⟨(p.hol 1000 p.top)[i], (p.hol 1000 p.top)[i - 1], ha.1, ha.2, fun h0 => (List.pairwise_iff_getElem.1 (hol_rise p 1000 p.top)) (i - 1) i (by omega) hi' (by omega), (hc _ _ h).1, (hc _ _ h).2,
    Lib.hid fun w' hb => hc _ _ (h.below hb), Lib.hid fun w' hb => (h.below hb).applied, Lib.hid fun w' hb => ?_, Lib.hid fun w' hb => ?_⟩
  · refine ((h.below hb).next h1 h2 hi').mono ?_
    rintro e w'' ⟨rfl, hb2⟩
    exact ⟨rfl, hb2.out⟩
  · refine ((h.below hb).learn h1 h2 hi').mono ?_
    rintro e w'' ⟨rfl, HX⟩
    exact ⟨rfl, hc _ _ HX.out, HX⟩
/-- Behind all the holes. -/
theorem HoS.done {W w : World} {p : Rl} {g N2 c : Nat} {A : Option Addr} (h : HoS W p g (.slice A N2 c) N2 w) (hp : Sm 60 p ∧ p.Ok) (hN : N2 = (p.hol 1000 p.top).length) :
    Calls Try.prog 22 #[.pointer (some ⟨g, 0, none⟩), .int .i64 1000] w fun e w' => ∃ A c, e = .returned (.slice A 0 c) ∧
      Hid (Calls Try.prog 15 #[.pointer (some ⟨g, 0, none⟩)] w' fun e w' => e = .returned (.int .u64 ((p.top + 1 : Nat) : Int)) ∧
        Hid (Calls Try.prog 28 #[.pointer (some ⟨g, 0, none⟩)] w' fun e w' => (∃ v, e = .returned v) ∧
          Hid (Calls Try.prog 14 #[.pointer (some ⟨g, 0, none⟩)] w' fun e w'' => e = .returned (.int .u64 (p.top : Int)) ∧ w' = w'') ∧ Hid (Below W.heap.size W w'))) := by
  obtain ⟨F, q, a1, a2, _⟩ := h
  obtain ⟨h1, h2⟩ := hp
  rw [hN] at a2
  obtain ⟨b1, b2, b3, b4, b5, b6⟩ := a2.done h1 h2 a1.ok
  have hh := a1.holes 1000 (by decide)
  rw [show (1000 : Int).toNat = 1000 from rfl, b1] at hh
  refine hh.mono ?_
  rintro e w1 ⟨A1, c1, rfl, H1⟩
  have o1 := a1.below H1.out.2
  refine ⟨A1, c1, rfl, Lib.hid ?_⟩
  have hn := o1.next
  rw [b2] at hn
  refine hn.mono ?_
  rintro e w2 ⟨rfl, H2⟩
  have o2 := o1.below H2.out
  refine ⟨rfl, Lib.hid ((rest_any o2).mono ?_)⟩
  rintro e w3 ⟨A3, c3, i, rfl, hi, HR, HS⟩
  obtain ⟨es, hS⟩ := HS.out
  have he := rest_end HR.out.1 HR.out.2 hi b3 (by omega) b4 b5
  have h3 := hS.ol.applied
  rw [show (⟨q.ap + i, q.row⟩ : Rl).ap = p.top from he] at h3
  exact ⟨⟨_, rfl⟩, Lib.hid h3, Lib.hid hS.ol.2.2⟩
theorem rem_u64 (s b : Nat) (hb : 0 < b) (hb2 : b < 18446744073709551616) : (s : Int).tmod (b : Int) = ((s % b : Nat) : Int) ∧ (s : Int) % (b : Int) = ((s % b : Nat) : Int) ∧ IntKind.u64.wrap ((s % b : Nat) : Int) = ((s % b : Nat) : Int) := by
  have := Nat.mod_lt s hb
  exact ⟨by rw [Int.tmod_eq_emod_of_nonneg (by omega)]; rfl, rfl, by rw [IntKind.wrap_u64]; omega⟩
end Go.Proofs.Ytpgjilpalhclcaa
