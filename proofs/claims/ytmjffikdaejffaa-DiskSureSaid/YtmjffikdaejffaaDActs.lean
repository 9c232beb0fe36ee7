/- Arguments of layer 3's laws: a row of acts; numbers. -/
import Derived.Test.YtmjffikdaejffaaLaw
import Derived.Test.YtmjffikdaejffaaDiskP3
import Derived.Deep.Slices
import Derived.Deep.Fields
namespace Go.Proofs.Ytmjffikdaejffaa
open Go.ChangeShapes Go.WideShapes Go.ChangeAt Go.RowKit Go.Deep

structure Ac where
  kind : Int
  at_ : Int
  fill : UInt8
  n : Int
  keep : List Int
  ka : Option Addr
  kn : Nat
  kc : Nat
/-- The numbers of an act are ints; its Keep reads so. -/
structure Ac.Ok (x : Ac) (w : World) (B : Nat) : Prop where
  kind : -9223372036854775808 ≤ x.kind ∧ x.kind ≤ 9223372036854775807
  at_ : -9223372036854775808 ≤ x.at_ ∧ x.at_ ≤ 9223372036854775807
  n : -9223372036854775808 ≤ x.n ∧ x.n ≤ 9223372036854775807
  cap : x.kn ≤ x.kc ∧ x.kc ≤ 9223372036854775807
  keep : RdI w B x.ka x.kn x.keep
theorem Ac.Ok.below {x : Ac} {w w' : World} {B : Nat} (h : x.Ok w B) (hb : Below B w w') : x.Ok w' B := ⟨h.kind, h.at_, h.n, h.cap, h.keep.below hb⟩
def Acts3 (w : World) (B : Nat) (A : Option Addr) (n : Nat) (f : Nat → Ac) : Prop :=
  0 < n → ∃ b o, A = some ⟨b, o, none⟩ ∧ b < B ∧ ∀ i, i < n → (f i).Ok w B ∧ w.cell? ⟨b, o + i * 5, none⟩ = some (.int .i64 (f i).kind) ∧ w.cell? ⟨b, o + i * 5 + 1, none⟩ = some (.int .i64 (f i).at_) ∧
    w.cell? ⟨b, o + i * 5 + 2, none⟩ = some (.int .u8 ((f i).fill.toNat : Int)) ∧ w.cell? ⟨b, o + i * 5 + 3, none⟩ = some (.int .i64 (f i).n) ∧ w.cell? ⟨b, o + i * 5 + 4, none⟩ = some (.slice (f i).ka (f i).kn (f i).kc)
theorem Acts3.up {w w' : World} {B n : Nat} {A : Option Addr} {f : Nat → Ac} (h : Acts3 w B A n f) (hb : Below B w w') : Acts3 w' B A n f := fun hn => by
  obtain ⟨b, o, rfl, hlt, hi⟩ := h hn
  refine ⟨b, o, rfl, hlt, fun i hi' => ?_⟩
  obtain ⟨h0, h1, h2, h3, h4, h5⟩ := hi i hi'
  have e := fun j => World.cell?_of_block (a := ⟨b, j, none⟩) (hb.block b hlt)
  exact ⟨h0.below hb, (e _).trans h1, (e _).trans h2, (e _).trans h3, (e _).trans h4, (e _).trans h5⟩

theorem ints_of_trod {H : Type} {enc : TypeId × Value → H} {W : World} {v : Value} {fuel : Nat} {x : DataW H × List MemPlace} (hf : DataW.trod enc Try.prog W 0 (fun _ => true) true fuel 32 [v] = some x) :
    ∃ (A : Option Addr) (n c : Nat) (l : List Int), v = .slice A n c ∧ n ≤ c ∧ c ≤ 9223372036854775807 ∧ RdI W W.heap.size A n l := by
  rcases open_ints Try.underlying32 Try.underlying3 (by kernel_rfl) hf with ⟨hcs, _⟩ | ⟨x, l, c', zs, hcs, _, hl, hm, hz, _, hcell, hwz⟩
  · injection hcs with hcs
    exact ⟨none, 0, 0, [], hcs, by omega, by omega, RdI.nil _ _ _⟩
  · injection hcs with hcs
    have hz' : zs.length = c' := by simpa using hz
    refine ⟨some x, l, c', zs.take l, hcs, hl, by unfold maxLen at hm; omega, by simp; omega, fun z hz2 => bounds_i64 (hwz z (List.mem_of_mem_take hz2)), fun hn => ?_⟩
    obtain ⟨b, o, spot⟩ := x
    have hc0 := hcell 0 (by omega)
    have hspot : spot = none := by simpa [Addr.add] using World.cell?_spot hc0
    subst hspot
    refine ⟨b, o, rfl, World.block_lt_of_cell? W _ (by simpa [Addr.add] using hc0), fun j hj => ?_⟩
    have hj' : j < l := by simp at hj; omega
    have hcj := hcell j (by omega)
    rw [Addr.add_lit] at hcj
    rw [hcj]
    have hzj : zs.getD j 0 = zs[j]'(by omega) := by simp [List.getD, show j < zs.length by omega]
    rw [hzj]
    simp only [List.getElem_take]
theorem given_ints {H : Type} {enc : TypeId × Value → H} {W : World} {base : Nat} {v : Value} {d : DataW H} {p : List MemPlace} (hv : Value.okWide Try.prog W .any base 32 v) (h : DataW.Trod enc Try.prog W 0 (fun _ => true) true 32 v d p) :
    ∃ (A : Option Addr) (n c : Nat) (l : List Int), v = .slice A n c ∧ n ≤ c ∧ c ≤ 9223372036854775807 ∧ RdI W W.heap.size A n l := by
  obtain ⟨A, n, c, rfl⟩ := okWide_slice Try.underlying32 hv
  obtain ⟨fuel, hf⟩ := h
  exact ints_of_trod hf

theorem given_acts3 {H : Type} {enc : TypeId × Value → H} {W : World} {base : Nat} {v : Value} {d : DataW H} {p : List MemPlace} (hv : Value.okWide Try.prog W .any base 22 v) (h : DataW.Trod enc Try.prog W 0 (fun _ => true) true 22 v d p) :
    ∃ (A : Option Addr) (n c : Nat) (f : Nat → Ac), v = .slice A n c ∧ n ≤ c ∧ c ≤ 9223372036854775807 ∧ Acts3 W W.heap.size A n f := by
  obtain ⟨A, n, c, rfl⟩ := okWide_slice Try.underlying22 hv
  obtain ⟨fuel, hf⟩ := h
  have dflt : Ac := ⟨0, 0, 0, 0, [], none, 0, 0⟩
  rcases open_slice Try.underlying22 hf with ⟨hcs, _⟩ | ⟨a, len, cap, m, k, D, Pl, hcs, _, hl, hm, hmm, _, hi⟩
  · simp [Value.cells] at hcs
    obtain ⟨rfl, rfl, rfl⟩ := hcs
    exact ⟨none, 0, 0, fun _ => dflt, rfl, by omega, by omega, fun h => by omega⟩
  · simp [Value.cells] at hcs
    obtain ⟨rfl, rfl, rfl⟩ := hcs
    have hmm' : m = c := by simpa using hmm
    have key : ∀ i, ∃ x : Ac, i < n → x.Ok W W.heap.size ∧ W.cell? (a.add (i * 5)) = some (.int .i64 x.kind) ∧ W.cell? (a.add (i * 5 + 1)) = some (.int .i64 x.at_) ∧ W.cell? (a.add (i * 5 + 2)) = some (.int .u8 (x.fill.toNat : Int)) ∧ W.cell? (a.add (i * 5 + 3)) = some (.int .i64 x.n) ∧ W.cell? (a.add (i * 5 + 4)) = some (.slice x.ka x.kn x.kc) := by
      intro i
      by_cases hin : i < n
      · obtain ⟨cs', hc, ht'⟩ := hi i (by omega)
        have hC : Try.prog.cellsOf 34 = 5 := by kernel_rfl
        rw [hC] at hc
        obtain ⟨ys, n', hn', hy, hlen, hyl, hff⟩ := DataW.trod_struct Try.underlying34 ht'
        obtain ⟨_, hcl, hat⟩ := World.cells?_some hc
        match cs', hcl with
        | [u0, u1, u2, u3, u4], _ =>
          have hyl' : ys.length = 5 := hyl
          have e3 : Try.prog.cellsOf 3 = 1 := by kernel_rfl
          have e5 : Try.prog.cellsOf 5 = 1 := by kernel_rfl
          have e6 : Try.prog.cellsOf 32 = 1 := by kernel_rfl
          have f0 : DataW.trod enc Try.prog W 0 (fun _ => true) true n' 3 (List.take (Try.prog.cellsOf 3) (List.drop 0 [u0, u1, u2, u3, u4])) = ys[0]? := hff 0 _ rfl
          have f1 : DataW.trod enc Try.prog W 0 (fun _ => true) true n' 3 (List.take (Try.prog.cellsOf 3) (List.drop 1 [u0, u1, u2, u3, u4])) = ys[1]? := hff 1 _ rfl
          have f2 : DataW.trod enc Try.prog W 0 (fun _ => true) true n' 5 (List.take (Try.prog.cellsOf 5) (List.drop 2 [u0, u1, u2, u3, u4])) = ys[2]? := hff 2 _ rfl
          have f3 : DataW.trod enc Try.prog W 0 (fun _ => true) true n' 3 (List.take (Try.prog.cellsOf 3) (List.drop 3 [u0, u1, u2, u3, u4])) = ys[3]? := hff 3 _ rfl
          have f4 : DataW.trod enc Try.prog W 0 (fun _ => true) true n' 32 (List.take (Try.prog.cellsOf 32) (List.drop 4 [u0, u1, u2, u3, u4])) = ys[4]? := hff 4 _ rfl
          rw [List.getElem?_eq_getElem (by omega)] at f0 f1 f2 f3 f4
          simp only [e3, e5, e6, List.drop_zero, List.drop_succ_cons, List.take_succ_cons, List.take_zero] at f0 f1 f2 f3 f4
          obtain ⟨z0, hz0, _, hw0⟩ := DataW.trod_int Try.underlying3 f0
          obtain ⟨z1, hz1, _, hw1⟩ := DataW.trod_int Try.underlying3 f1
          obtain ⟨z2, hz2, _, hw2⟩ := DataW.trod_int Try.underlying5 f2
          obtain ⟨z3, hz3, _, hw3⟩ := DataW.trod_int Try.underlying3 f3
          obtain ⟨KA, kn, kc, ks, hv4, k1, k2, k3⟩ := ints_of_trod f4
          have b0 := bounds_i64 hw0
          have b1 := bounds_i64 hw1
          have b2 := bounds_u8 hw2
          have b3 := bounds_i64 hw3
          injection hz0 with hz0
          injection hz1 with hz1
          injection hz2 with hz2
          injection hz3 with hz3
          have a0 := hat 0 (by omega)
          have a1 := hat 1 (by omega)
          have a2 := hat 2 (by omega)
          have a3 := hat 3 (by omega)
          have a4 := hat 4 (by omega)
          rw [Go.Deep.add_add] at a0 a1 a2 a3 a4
          rw [Nat.add_zero] at a0
          refine ⟨⟨z0, z1, UInt8.ofNat z2.toNat, z3, ks, KA, kn, kc⟩, fun _ => ⟨⟨b0, b1, b3, ⟨k1, k2⟩, k3⟩, a0.trans (by rw [hz0]; rfl), a1.trans (by rw [hz1]; rfl), a2.trans ?_, a3.trans (by rw [hz3]; rfl), a4.trans (by rw [hv4]; rfl)⟩⟩
          rw [hz2]
          simp only [UInt8.toNat_ofNat', List.getElem?_cons_succ, List.getElem?_cons_zero]
          congr 2
          omega
      · exact ⟨dflt, fun h => absurd h hin⟩
    obtain ⟨f, hf'⟩ := Classical.axiomOfChoice key
    refine ⟨some a, n, c, f, rfl, hl, by unfold maxLen at hm; omega, fun hn => ?_⟩
    obtain ⟨b, o, spot⟩ := a
    have hc0 := (hf' 0 hn).2.1
    have hspot : spot = none := by simpa [Addr.add] using World.cell?_spot hc0
    subst hspot
    refine ⟨b, o, rfl, World.block_lt_of_cell? W _ (by simpa [Addr.add] using hc0), fun i hi => ?_⟩
    obtain ⟨h0, h1, h2, h3, h4, h5⟩ := hf' i hi
    rw [Addr.add_lit] at h1 h2 h3 h4 h5
    exact ⟨h0, h1, by rw [Nat.add_assoc]; exact h2, by rw [Nat.add_assoc]; exact h3, by rw [Nat.add_assoc]; exact h4, by rw [Nat.add_assoc]; exact h5⟩
end Go.Proofs.Ytmjffikdaejffaa
