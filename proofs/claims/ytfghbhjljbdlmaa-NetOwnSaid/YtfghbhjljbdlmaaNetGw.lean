/- A packet that is handed in by itself. -/
import Derived.Test.YtfghbhjljbdlmaaNetB
import Derived.Test.YtfghbhjljbdlmaaNetGv
namespace Go.Proofs.Ytfghbhjljbdlmaa
open Go.ChangeShapes Go.WideShapes Go.ChangeAt Go.RowKit Go.Deep

set_option maxRecDepth 100000 in
theorem given_pk {H : Type} {enc : TypeId × Value → H} {W : World} {base : Nat} {v : Value} {d : DataW H} {p : List MemPlace} (hv : Value.okWide Try.prog W .any base 34 v) (h : DataW.Trod enc Try.prog W 0 (fun _ => true) true 34 v d p) :
    ∃ x : Gp, x.Ok W W.heap.size ∧ v = x.v := by
  obtain ⟨cs, rfl, hcs⟩ := okWide_struct Try.underlying34 hv
  obtain ⟨fuel, hf⟩ := h
  have hC : Try.prog.cellsOf 34 = 3 := by kernel_rfl
  rw [hC] at hcs
  obtain ⟨l⟩ := cs
  match l, hcs with
  | [u0, u1, u2], _ =>
    obtain ⟨x, hx, e0, e1, e2⟩ := pk_of_trod hf
    exact ⟨x, hx, by rw [e0, e1, e2]; rfl⟩
end Go.Proofs.Ytfghbhjljbdlmaa
