/- Arguments of layer 12's laws: acts. -/
import Derived.Test.YtnomddhgcdoifaaProg
import Derived.Test.YtnomddhgcdoifaaWords
import Derived.Test.YtnomddhgcdoifaaLaw
import Derived.Deep.SlicePairs
import Derived.WideShapes
namespace Go.Proofs.Ytnomddhgcdoifaa
open Go.ChangeShapes Go.WideShapes Go.ChangeAt Go.RowKit Go.Deep

/-- A slice of bytes, as it was read. -/
theorem bytes_of_trod12 {H : Type} {enc : TypeId × Value → H} {W : World} {v : Value} {fuel : Nat} {x : DataW H × List MemPlace} (hf : DataW.trod enc Try.prog W 0 (fun _ => true) true fuel 33 [v] = some x) :
    ∃ (A : Option Addr) (n c : Nat) (l : List UInt8), v = .slice A n c ∧ n ≤ c ∧ c ≤ 9223372036854775807 ∧ Rd W W.heap.size A n l := by
  rcases open_ints Try.underlying33 Try.underlying5 (by kernel_rfl) hf with ⟨hcs, _⟩ | ⟨x, l, c', zs, hcs, _, hl, hm, hz, _, hcell, hwz⟩
  · injection hcs with hcs
    exact ⟨none, 0, 0, [], hcs, by omega, by omega, Rd.nil _ _ _⟩
  · injection hcs with hcs
    have hz' : zs.length = c' := by simpa using hz
    refine ⟨some x, l, c', (zs.take l).map fun z => UInt8.ofNat z.toNat, hcs, hl, by unfold maxLen at hm; omega, by simp; omega, fun hn => ?_⟩
    obtain ⟨b, o, spot⟩ := x
    have hc0 := hcell 0 (by omega)
    have hspot : spot = none := by simpa [Addr.add] using World.cell?_spot hc0
    subst hspot
    refine ⟨b, o, rfl, World.block_lt_of_cell? W _ (by simpa [Addr.add] using hc0), fun j hj => ?_⟩
    have hj' : j < l := by simp at hj; omega
    have hcj := hcell j (by omega)
    rw [Addr.add_lit] at hcj
    rw [hcj]
    have hzj : zs.getD j 0 = zs[j]'(by omega) := by simp [List.getD, show j < zs.length by omega]
    have hw := hwz _ (List.getElem_mem (show j < zs.length by omega))
    have hb := bounds_u8 hw
    rw [hzj]
    simp only [List.getElem_map, List.getElem_take, UInt8.toNat_ofNat']
    congr 2
    omega

/-- An act that was handed in. -/
structure Gl where
  kind : Int
  slot : Nat
  val : List UInt8
  A : Option Addr
  n : Nat
  c : Nat
structure Gl.Ok (x : Gl) (w : World) (B : Nat) : Prop where
  frm : -9223372036854775808 ≤ x.kind ∧ x.kind ≤ 9223372036854775807
  u64 : x.slot < 18446744073709551616
  cap : x.n ≤ x.c ∧ x.c ≤ 9223372036854775807
  body : Rd w B x.A x.n x.val
theorem Gl.Ok.below {x   : Gl} {w w' : World} {B : Nat} (h : x.Ok w B) (hb : Below B w w') : x.Ok w' B := ⟨h.frm, h.u64, h.cap, h.body.below hb⟩
theorem ac_of_trod12 {H : Type} {enc : TypeId × Value → H} {W : World} {u0 u1 u2 : Value} {fuel : Nat} {y : DataW H × List MemPlace} (hf : DataW.trod enc Try.prog W 0 (fun _ => true) true fuel 35 [u0, u1, u2] = some y) :
    ∃ x   : Gl, x.Ok W W.heap.size ∧ u0 = .int .i64 x.kind ∧ u1 = .int .u64 (x.slot : Int) ∧ u2 = .slice x.A x.n x.c := by
  obtain ⟨ys, n', hn', hy, hlen, hyl, hff⟩ := DataW.trod_struct Try.underlying35 hf
  have hyl' : ys.length = 3 := hyl
  have e3 : Try.prog.cellsOf 3 = 1 := by kernel_rfl
  have e4 : Try.prog.cellsOf 23 = 1 := by kernel_rfl
  have e6 : Try.prog.cellsOf 33 = 1 := by kernel_rfl
  have f0 : DataW.trod enc Try.prog W 0 (fun _ => true) true n' 3 (List.take (Try.prog.cellsOf 3) (List.drop 0 [u0, u1, u2])) = ys[0]? := hff 0 _ rfl
  have f1 : DataW.trod enc Try.prog W 0 (fun _ => true) true n' 23 (List.take (Try.prog.cellsOf 23) (List.drop 1 [u0, u1, u2])) = ys[1]? := hff 1 _ rfl
  have f2 : DataW.trod enc Try.prog W 0 (fun _ => true) true n' 33 (List.take (Try.prog.cellsOf 33) (List.drop 2 [u0, u1, u2])) = ys[2]? := hff 2 _ rfl
  rw [List.getElem?_eq_getElem (by omega)] at f0 f1 f2
  simp only [e3, e4, e6, List.drop_zero, List.drop_succ_cons, List.take_succ_cons, List.take_zero] at f0 f1 f2
  obtain ⟨z0, hz0, _, hw0⟩ := DataW.trod_int Try.underlying3 f0
  obtain ⟨z1, hz1, _, hw1⟩ := DataW.trod_int Try.underlying23 f1
  obtain ⟨A, n, c, l, hv2, k1, k2, k3⟩ := bytes_of_trod12 f2
  injection hz0 with hz0
  injection hz1 with hz1
  have hb1 := bounds_u64 hw1
  obtain ⟨m1, rfl⟩ := Int.eq_ofNat_of_zero_le hb1.1
  exact ⟨⟨z0, m1, l, A, n, c⟩, ⟨bounds_i64 hw0, by show m1 < _; omega, ⟨k1, k2⟩, k3⟩, hz0, hz1, hv2⟩

def As12 (w : World) (B : Nat) (A : Option Addr) (n : Nat) (f : Nat → Gl) : Prop :=
  0 < n → ∃ b o, A = some ⟨b, o, none⟩ ∧ b < B ∧ ∀ i, i < n → (f i).Ok w B ∧ w.cell? ⟨b, o + i * 3, none⟩ = some (.int .i64 (f i).kind) ∧ w.cell? ⟨b, o + i * 3 + 1, none⟩ = some (.int .u64 ((f i).slot : Int)) ∧
    w.cell? ⟨b, o + i * 3 + 2, none⟩ = some (.slice (f i).A (f i).n (f i).c)
theorem As12.below {w w' : World} {B n : Nat} {A : Option Addr} {f : Nat → Gl} (h : As12 w B A n f) (hb : Below B w w') : As12 w' B A n f := fun hn => by
  obtain ⟨b, o, rfl, hlt, hi⟩ := h hn
  refine ⟨b, o, rfl, hlt, fun i hi' => ?_⟩
  obtain ⟨h0, h1, h2, h3⟩ := hi i hi'
  have e := fun j => World.cell?_of_block (a := ⟨b, j, none⟩) (hb.block b hlt)
  exact ⟨h0.below hb, (e _).trans h1, (e _).trans h2, (e _).trans h3⟩

set_option maxRecDepth 100000 in
theorem given_as12 {H : Type} {enc : TypeId × Value → H} {W : World} {base : Nat} {v : Value} {d : DataW H} {p : List MemPlace} (hv : Value.okWide Try.prog W .any base 22 v) (h : DataW.Trod enc Try.prog W 0 (fun _ => true) true 22 v d p) :
    ∃ (A : Option Addr) (n c : Nat) (f : Nat → Gl), v = .slice A n c ∧ n ≤ c ∧ c ≤ 9223372036854775807 ∧ As12 W W.heap.size A n f := by
  obtain ⟨A, n, c, rfl⟩ := okWide_slice Try.underlying22 hv
  obtain ⟨fuel, hf⟩ := h
  have dflt   : Gl := ⟨0, 0, [], none, 0, 0⟩
  rcases open_slice Try.underlying22 hf with ⟨hcs, _⟩ | ⟨a, len, cap, m, k, D, Pl, hcs, _, hl, hm, hmm, _, hi⟩
  · simp [Value.cells] at hcs
    obtain ⟨rfl, rfl, rfl⟩ := hcs
    exact ⟨none, 0, 0, fun _ => dflt, rfl, by omega, by omega, fun h => by omega⟩
  · simp [Value.cells] at hcs
    obtain ⟨rfl, rfl, rfl⟩ := hcs
    have hmm' : m = c := by simpa using hmm
    have key : ∀ i, ∃ x   : Gl, i < n → x.Ok W W.heap.size ∧ W.cell? (a.add (i * 3)) = some (.int .i64 x.kind) ∧ W.cell? (a.add (i * 3 + 1)) = some (.int .u64 (x.slot : Int)) ∧ W.cell? (a.add (i * 3 + 2)) = some (.slice x.A x.n x.c) := by
      intro i
      by_cases hin : i < n
      · obtain ⟨cs', hc, ht'⟩ := hi i (by omega)
        have hC : Try.prog.cellsOf 35 = 3 := by kernel_rfl
        rw [hC] at hc
        obtain ⟨_, hcl, hat⟩ := World.cells?_some hc
        match cs', hcl with
        | [u0, u1, u2], _ =>
          obtain ⟨x, hx, e0, e1, e2⟩ := ac_of_trod12 ht'
          have a0 := hat 0 (by omega)
          have a1 := hat 1 (by omega)
          have a2 := hat 2 (by omega)
          rw [Go.Deep.add_add] at a0 a1 a2
          rw [Nat.add_zero] at a0
          exact ⟨x, fun _ => ⟨hx, a0.trans (by rw [← e0]; rfl), a1.trans (by rw [← e1]; rfl), a2.trans (by rw [← e2]; rfl)⟩⟩
      · exact ⟨dflt, fun h => absurd h hin⟩
    obtain ⟨f, hf'⟩ := Classical.axiomOfChoice key
    refine ⟨some a, n, c, f, rfl, hl, by unfold maxLen at hm; omega, fun hn => ?_⟩
    obtain ⟨b, o, spot⟩ := a
    have hc0 := (hf' 0 hn).2.1
    have hspot : spot = none := by simpa [Addr.add] using World.cell?_spot hc0
    subst hspot
    refine ⟨b, o, rfl, World.block_lt_of_cell? W _ (by simpa [Addr.add] using hc0), fun i hi => ?_⟩
    obtain ⟨h0, h1, h2, h3⟩ := hf' i hi
    rw [Addr.add_lit] at h1 h2 h3
    exact ⟨h0, h1, by rw [Nat.add_assoc]; exact h2, by rw [Nat.add_assoc]; exact h3⟩

end Go.Proofs.Ytnomddhgcdoifaa
