/- Arguments of layer 3's laws: a row of acts; numbers. -/
import Derived.Test.YtenmopnegedgjaaLaw
import Derived.Test.YtenmopnegedgjaaDiskP3
import Derived.Deep.Slices
import Derived.Deep.Fields
namespace Go.Proofs.Ytenmopnegedgjaa
open Go.ChangeShapes Go.WideShapes Go.ChangeAt Go.RowKit Go.Deep

structure Ac where
  kind : Int
  at_ : Int
  fill : UInt8
  n : Int
  keep : List Int
  ka : Option Addr
  kn : Nat
  kc : Nat
/-- The numbers of an act are ints; its Keep reads so. -/
structure Ac.Ok (x : Ac) (w : World) (B : Nat) : Prop where
  kind : -9223372036854775808 ≤ x.kind ∧ x.kind ≤ 9223372036854775807
  at_ : -9223372036854775808 ≤ x.at_ ∧ x.at_ ≤ 9223372036854775807
  n : -9223372036854775808 ≤ x.n ∧ x.n ≤ 9223372036854775807
  cap : x.kn ≤ x.kc ∧ x.kc ≤ 9223372036854775807
  keep : RdI w B x.ka x.kn x.keep
theorem Ac.Ok.below {x : Ac} {w w' : World} {B : Nat} (h : x.Ok w B) (hb : Below B w w') : x.Ok w' B := ⟨h.kind, h.at_, h.n, h.cap, h.keep.below hb⟩
def Acts3 (w : World) (B : Nat) (A : Option Addr) (n : Nat) (f : Nat → Ac) : Prop :=
  0 < n → ∃ b o, A = some ⟨b, o, none⟩ ∧ b < B ∧ ∀ i, i < n → (f i).Ok w B ∧ w.cell? ⟨b, o + i * 5, none⟩ = some (.int .i64 (f i).kind) ∧ w.cell? ⟨b, o + i * 5 + 1, none⟩ = some (.int .i64 (f i).at_) ∧
    w.cell? ⟨b, o + i * 5 + 2, none⟩ = some (.int .u8 ((f i).fill.toNat : Int)) ∧ w.cell? ⟨b, o + i * 5 + 3, none⟩ = some (.int .i64 (f i).n) ∧ w.cell? ⟨b, o + i * 5 + 4, none⟩ = some (.slice (f i).ka (f i).kn (f i).kc)
theorem Acts3.up {w w' : World} {B n : Nat} {A : Option Addr} {f : Nat → Ac} (h : Acts3 w B A n f) (hb : Below B w w') : Acts3 w' B A n f := fun hn => by
  obtain ⟨b, o, rfl, hlt, hi⟩ := h hn
  refine ⟨b, o, rfl, hlt, fun i hi' => ?_⟩
  obtain ⟨h0, h1, h2, h3, h4, h5⟩ := hi i hi'
  have e := fun j => World.cell?_of_block (a := ⟨b, j, none⟩) (hb.block b hlt)
  exact ⟨h0.below hb, (e _).trans h1, (e _).trans h2, (e _).trans h3, (e _).trans h4, (e _).trans h5⟩

theorem ints_of_trod {H : Type} {enc : TypeId × Value → H} {W : World} {v : Value} {fuel : Nat} {x : DataW H × List MemPlace} (hf : DataW.trod enc Try.prog W 0 (fun _ => true) true fuel 22 [v] = some x) :
    ∃ (A : Option Addr) (n c : Nat) (l : List Int), v = .slice A n c ∧ n ≤ c ∧ c ≤ 9223372036854775807 ∧ RdI W W.heap.size A n l := by
  rcases open_ints Try.underlying22 Try.underlying3 (by kernel_rfl) hf with ⟨hcs, _⟩ | ⟨x, l, c', zs, hcs, _, hl, hm, hz, _, hcell, hwz⟩
  · injection hcs with hcs
    exact ⟨none, 0, 0, [], hcs, by omega, by omega, RdI.nil _ _ _⟩
  · injection hcs with hcs
    have hz' : zs.length = c' := by simpa using hz
    refine ⟨some x, l, c', zs.take l, hcs, hl, by unfold maxLen at hm; omega, by simp; omega, fun z hz2 => bounds_i64 (hwz z (List.mem_of_mem_take hz2)), fun hn => ?_⟩
    obtain ⟨b, o, spot⟩ := x
    have hc0 := hcell 0 (by omega)
    have hspot : spot = none := by simpa [Addr.add] using World.cell?_spot hc0
    subst hspot
    refine ⟨b, o, rfl, World.block_lt_of_cell? W _ (by simpa [Addr.add] using hc0), fun j hj => ?_⟩
    have hj' : j < l := by simp at hj; omega
    have hcj := hcell j (by omega)
    rw [Addr.add_lit] at hcj
    rw [hcj]
    have hzj : zs.getD j 0 = zs[j]'(by omega) := by simp [List.getD, show j < zs.length by omega]
    rw [hzj]
    simp only [List.getElem_take]
set_option maxRecDepth 100000 in
theorem given_ints {H : Type} {enc : TypeId × Value → H} {W : World} {base : Nat} {v : Value} {d : DataW H} {p : List MemPlace} (hv : Value.okWide Try.prog W .any base 22 v) (h : DataW.Trod enc Try.prog W 0 (fun _ => true) true 22 v d p) :
    ∃ (A : Option Addr) (n c : Nat) (l : List Int), v = .slice A n c ∧ n ≤ c ∧ c ≤ 9223372036854775807 ∧ RdI W W.heap.size A n l := by
  obtain ⟨A, n, c, rfl⟩ := okWide_slice Try.underlying22 hv
  obtain ⟨fuel, hf⟩ := h
  exact ints_of_trod hf

end Go.Proofs.Ytenmopnegedgjaa
