/- Arguments of layer 12's laws: lists of bytes, rows of numbers. -/
import Derived.Test.YtnomddhgcdoifaaRlGv
import Derived.OpenShut
namespace Go.Proofs.Ytnomddhgcdoifaa
open Go.ChangeShapes Go.WideShapes Go.ChangeAt Go.RowKit Go.Deep

/-- A slice of lists reads so. -/
def Lsr (w : World) (B : Nat) (A : Option Addr) (n : Nat) (f : Nat → Option Addr × Nat × Nat × List UInt8) : Prop :=
  0 < n → ∃ b o, A = some ⟨b, o, none⟩ ∧ b < B ∧ ∀ i, i < n → w.cell? ⟨b, o + i, none⟩ = some (.slice (f i).1 (f i).2.1 (f i).2.2.1) ∧ (f i).2.1 ≤ (f i).2.2.1 ∧ (f i).2.2.1 ≤ 9223372036854775807 ∧ Rd w B (f i).1 (f i).2.1 (f i).2.2.2
theorem Lsr.below {w w' : World} {B n : Nat} {A : Option Addr} {f : Nat → Option Addr × Nat × Nat × List UInt8} (h : Lsr w B A n f) (hb : Below B w w') : Lsr w' B A n f := fun hn => by
  obtain ⟨b, o, e, hlt, hi⟩ := h hn
  refine ⟨b, o, e, hlt, fun i hi' => ?_⟩
  obtain ⟨h0, h1, h2, h3⟩ := hi i hi'
  exact ⟨(World.cell?_of_block (a := ⟨b, o + i, none⟩) (hb.block b hlt)).trans h0, h1, h2, h3.below hb⟩
/-- A slice of numbers reads so. -/
def Nsr (w : World) (B : Nat) (A : Option Addr) (n : Nat) (f : Nat → Nat) : Prop :=
  0 < n → ∃ b o, A = some ⟨b, o, none⟩ ∧ b < B ∧ ∀ i, i < n → w.cell? ⟨b, o + i, none⟩ = some (.int .u64 (f i : Int))
theorem Nsr.below {w w' : World} {B n : Nat} {A : Option Addr} {f : Nat → Nat} (h : Nsr w B A n f) (hb : Below B w w') : Nsr w' B A n f := fun hn => by
  obtain ⟨b, o, e, hlt, hi⟩ := h hn
  exact ⟨b, o, e, hlt, fun i hi' => (World.cell?_of_block (a := ⟨b, o + i, none⟩) (hb.block b hlt)).trans (hi i hi')⟩
set_option maxRecDepth 100000 in
theorem given_nsr {H : Type} {enc : TypeId × Value → H} {W : World} {base : Nat} {v : Value} {d : DataW H} {p : List MemPlace} (hv : Value.okWide Try.prog W .any base 39 v) (h : DataW.Trod enc Try.prog W 0 (fun _ => true) true 39 v d p) :
    ∃ (A : Option Addr) (n c : Nat) (f : Nat → Nat), v = .slice A n c ∧ n ≤ c ∧ c ≤ 9223372036854775807 ∧ Nsr W W.heap.size A n f := by
  obtain ⟨A, n, c, rfl⟩ := okWide_slice Try.underlying39 hv
  obtain ⟨fuel, hf⟩ := h
  rcases open_ints Try.underlying39 Try.underlying23 (by kernel_rfl) hf with ⟨hcs, _⟩ | ⟨x, l, c', zs, hcs, _, hl, hm, hz, _, hcell, hwz⟩
  · injection hcs with hcs
    injection hcs with h1 h2 h3
    subst h1 h2 h3
    exact ⟨none, 0, 0, fun _ => 0, rfl, by omega, by omega, fun h => by omega⟩
  · injection hcs with hcs
    injection hcs with h1 h2 h3
    subst h1 h2 h3
    have hz' : zs.length = c := by simpa using hz
    refine ⟨some x, n, c, fun i => (zs.getD i 0).toNat, rfl, hl, by unfold maxLen at hm; omega, fun hn => ?_⟩
    obtain ⟨b, o, spot⟩ := x
    have hc0 := hcell 0 (by omega)
    have hspot : spot = none := by simpa [Addr.add] using World.cell?_spot hc0
    subst hspot
    refine ⟨b, o, rfl, World.block_lt_of_cell? W _ (by simpa [Addr.add] using hc0), fun j hj => ?_⟩
    have hcj := hcell j (by omega)
    rw [Addr.add_lit] at hcj
    rw [hcj]
    have hzj : zs.getD j 0 = zs[j]'(by omega) := by simp [List.getD, show j < zs.length by omega]
    have hw := hwz _ (List.getElem_mem (show j < zs.length by omega))
    have hb := bounds_u64 hw
    have e : zs[j]'(by omega) = (((zs.getD j 0).toNat : Nat) : Int) := by rw [hzj]; omega
    rw [hzj, e]
end Go.Proofs.Ytnomddhgcdoifaa
