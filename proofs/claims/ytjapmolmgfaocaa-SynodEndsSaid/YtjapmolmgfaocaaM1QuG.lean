/- Of the proofs of layer 4, merged: QuG. -/
import Derived.Test.YtjapmolmgfaocaaM1QuY
import Derived.Test.YtjapmolmgfaocaaMQuP
import Derived.Test.YtjapmolmgfaocaaM1Law
import Derived.Test.YtjapmolmgfaocaaM1DActs
import Derived.Deep.SlicePairs
import Derived.WideShapes

/- Layer 8's laws: a system that is handed in. -/
namespace Go.Proofs.Ytjapmolmgfaocaa
open Go.ChangeShapes Go.WideShapes Go.ChangeAt Go.RowKit Go.Deep

structure Gq where
  q : Qm
  A : Option Addr
  n : Nat
  c : Nat
def Gq.v (x : Gq) : Value := qV x.q (.slice x.A x.n x.c)
theorem q_of_trod {H : Type} {enc : TypeId × Value → H} {W : World} {u0 u1 u2 u3 u4 : Value} {fuel : Nat} {y : DataW H × List MemPlace} (hf : DataW.trod enc Try.prog W 0 (fun _ => true) true fuel 24 [u0, u1, u2, u3, u4] = some y) :
    ∃ x : Gq, Qi W x.q x.A x.n x.c ∧ u0 = .int .i64 x.q.kind ∧ u1 = .int .i64 x.q.nodes ∧ u2 = .int .i64 x.q.one ∧ u3 = .int .i64 x.q.two ∧ u4 = .slice x.A x.n x.c := by
  obtain ⟨ys, n', hn', hy, hlen, hyl, hff⟩ := DataW.trod_struct Try.underlying24 hf
  have hyl' : ys.length = 5 := hyl
  have e3 : Try.prog.cellsOf 3 = 1 := by kernel_rfl
  have e6 : Try.prog.cellsOf 22 = 1 := by kernel_rfl
  have f0 : DataW.trod enc Try.prog W 0 (fun _ => true) true n' 3 (List.take (Try.prog.cellsOf 3) (List.drop 0 [u0, u1, u2, u3, u4])) = ys[0]? := hff 0 _ rfl
  have f1 : DataW.trod enc Try.prog W 0 (fun _ => true) true n' 3 (List.take (Try.prog.cellsOf 3) (List.drop 1 [u0, u1, u2, u3, u4])) = ys[1]? := hff 1 _ rfl
  have f2 : DataW.trod enc Try.prog W 0 (fun _ => true) true n' 3 (List.take (Try.prog.cellsOf 3) (List.drop 2 [u0, u1, u2, u3, u4])) = ys[2]? := hff 2 _ rfl
  have f3 : DataW.trod enc Try.prog W 0 (fun _ => true) true n' 3 (List.take (Try.prog.cellsOf 3) (List.drop 3 [u0, u1, u2, u3, u4])) = ys[3]? := hff 3 _ rfl
  have f4 : DataW.trod enc Try.prog W 0 (fun _ => true) true n' 22 (List.take (Try.prog.cellsOf 22) (List.drop 4 [u0, u1, u2, u3, u4])) = ys[4]? := hff 4 _ rfl
  rw [List.getElem?_eq_getElem (by omega)] at f0 f1 f2 f3 f4
  simp only [e3, e6, List.drop_zero, List.drop_succ_cons, List.take_succ_cons, List.take_zero] at f0 f1 f2 f3 f4
  obtain ⟨z0, hz0, _, hw0⟩ := DataW.trod_int Try.underlying3 f0
  obtain ⟨z1, hz1, _, hw1⟩ := DataW.trod_int Try.underlying3 f1
  obtain ⟨z2, hz2, _, hw2⟩ := DataW.trod_int Try.underlying3 f2
  obtain ⟨z3, hz3, _, hw3⟩ := DataW.trod_int Try.underlying3 f3
  obtain ⟨A, n, c, l, hv4, k1, k2, k3⟩ := ints_of_trod f4
  injection hz0 with hz0
  injection hz1 with hz1
  injection hz2 with hz2
  injection hz3 with hz3
  exact ⟨⟨⟨z0, z1, z2, z3, l⟩, A, n, c⟩, ⟨bounds_i64 hw0, bounds_i64 hw1, bounds_i64 hw2, bounds_i64 hw3, ⟨k1, k2⟩, k3⟩, hz0, hz1, hz2, hz3, hv4⟩
set_option maxRecDepth 100000 in
theorem given_q {H : Type} {enc : TypeId × Value → H} {W : World} {base : Nat} {v : Value} {d : DataW H} {p : List MemPlace} (hv : Value.okWide Try.prog W .any base 24 v) (h : DataW.Trod enc Try.prog W 0 (fun _ => true) true 24 v d p) :
    ∃ x : Gq, Qi W x.q x.A x.n x.c ∧ v = x.v := by
  obtain ⟨cs, rfl, hcs⟩ := okWide_struct Try.underlying24 hv
  obtain ⟨fuel, hf⟩ := h
  have hC : Try.prog.cellsOf 24 = 5 := by kernel_rfl
  rw [hC] at hcs
  obtain ⟨l⟩ := cs
  match l, hcs with
  | [u0, u1, u2, u3, u4], _ =>
    obtain ⟨x, hx, e0, e1, e2, e3, e4⟩ := q_of_trod hf
    exact ⟨x, hx, by rw [e0, e1, e2, e3, e4]; rfl⟩
end Go.Proofs.Ytjapmolmgfaocaa
