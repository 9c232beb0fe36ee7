/- Of the proofs of layer 4, merged: GivenFrames. -/
import Derived.Test.YtpfccbojllabjaaM1Law
import Derived.Test.YtpfccbojllabjaaMFrameGet
import Derived.Deep.SlicePairs

/- An argument that is a []api.Frame. -/
namespace Go.Proofs.Ytpfccbojllabjaa
open Go.ChangeShapes Go.WideShapes Go.ChangeAt Go.RowKit

/-- A slice of bytes, as it was read. -/
theorem bytes_of_trod {H : Type} {enc : TypeId × Value → H} {W : World} {v : Value} {fuel : Nat} {x : DataW H × List MemPlace} (hf : DataW.trod enc Try.prog W 0 (fun _ => true) true fuel 40 [v] = some x) :
    ∃ (A : Option Addr) (n c : Nat) (l : List UInt8), v = .slice A n c ∧ n ≤ c ∧ c ≤ 9223372036854775807 ∧ Rd W W.heap.size A n l := by
  rcases open_ints Try.underlying40 Try.underlying5 (by kernel_rfl) hf with ⟨hcs, _⟩ | ⟨x, l, c', zs, hcs, _, hl, hm, hz, _, hcell, hwz⟩
  · injection hcs with hcs
    exact ⟨none, 0, 0, [], hcs, by omega, by omega, Rd.nil _ _ _⟩
  · injection hcs with hcs
    have hz' : zs.length = c' := by simpa using hz
    refine ⟨some x, l, c', (zs.take l).map fun z => UInt8.ofNat z.toNat, hcs, hl, by unfold maxLen at hm; omega, by simp; omega, fun hn => ?_⟩
    obtain ⟨b, o, spot⟩ := x
    have hc0 := hcell 0 (by omega)
    have hspot : spot = none := by simpa [Addr.add] using World.cell?_spot hc0
    subst hspot
    refine ⟨b, o, rfl, World.block_lt_of_cell? W _ (by simpa [Addr.add] using hc0), fun j hj => ?_⟩
    have hj' : j < l := by simp at hj; omega
    have hcj := hcell j (by omega)
    rw [Addr.add_lit] at hcj
    rw [hcj]
    have hzj : zs.getD j 0 = zs[j]'(by omega) := by simp [List.getD, show j < zs.length by omega]
    have hw := hwz _ (List.getElem_mem (show j < zs.length by omega))
    have hb := bounds_u8 hw
    rw [hzj]
    simp only [List.getElem_map, List.getElem_take, UInt8.toNat_ofNat']
    congr 2
    omega

set_option maxRecDepth 100000 in
theorem given_frames {H : Type} {enc : TypeId × Value → H} {W : World} {base : Nat} {v : Value} {d : DataW H} {p : List MemPlace} (hv : Value.okWide Try.prog W .any base 101 v) (h : DataW.Trod enc Try.prog W 0 (fun _ => true) true 101 v d p) :
    ∃ (A : Option Addr) (n c : Nat) (fs : List Fr), v = .slice A n c ∧ n ≤ c ∧ c ≤ 9223372036854775807 ∧ FrRd W W.heap.size A n fs := by
  obtain ⟨A, n, c, rfl⟩ := okWide_slice Try.underlying101 hv
  obtain ⟨fuel, hf⟩ := h
  rcases Deep.open_slice_pairs Try.underlying101 Try.underlying105 (by kernel_rfl) rfl rfl (by kernel_rfl) (by kernel_rfl) hf with ⟨hcs, _⟩ | ⟨a, len, cap, m, k, V0, V1, D0, D1, P0, P1, hcs, _, hl, hm, hmm, _, hi⟩
  · simp [Value.cells] at hcs
    obtain ⟨rfl, rfl, rfl⟩ := hcs
    exact ⟨none, 0, 0, [], rfl, by omega, by omega, rfl, fun i hi => by simp at hi⟩
  · simp [Value.cells] at hcs
    obtain ⟨rfl, rfl, rfl⟩ := hcs
    have hmm' : m = c := by simpa using hmm
    have key : ∀ i, ∃ f : Fr, i < n → W.cell? (a.add (i * 2)) = some (.int .u8 (f.1.toNat : Int)) ∧ ∃ A' n' c', W.cell? (a.add (i * 2 + 1)) = some (.slice A' n' c') ∧ n' ≤ c' ∧ c' ≤ 9223372036854775807 ∧ Rd W W.heap.size A' n' f.2 := by
      intro i
      by_cases hin : i < n
      · obtain ⟨h1, h2, h3, h4⟩ := hi i (by omega)
        obtain ⟨z, hz, _, hw⟩ := DataW.trod_int Try.underlying5 h3
        obtain ⟨A', n', c', l, hv1, k1, k2, k3⟩ := bytes_of_trod h4
        have hb := bounds_u8 hw
        injection hz with hz
        refine ⟨(UInt8.ofNat z.toNat, l), fun _ => ⟨?_, A', n', c', by rw [h2, hv1], k1, k2, k3⟩⟩
        rw [h1, hz]
        simp only [UInt8.toNat_ofNat']
        congr 2
        omega
      · exact ⟨(0, []), fun h => absurd h hin⟩
    obtain ⟨f, hf'⟩ := Classical.axiomOfChoice key
    refine ⟨some a, n, c, (List.range n).map f, rfl, hl, by unfold maxLen at hm; omega, by simp, fun i hi' => ?_⟩
    have hin : i < n := by simpa using hi'
    obtain ⟨b, o, spot⟩ := a
    have hc0 := (hf' i hin).1
    obtain ⟨h1, A', n', c', h2, h3⟩ := hf' i hin
    have hspot : spot = none := by
      have h0 := (hf' 0 (by omega)).1
      simpa [Addr.add] using World.cell?_spot h0
    subst hspot
    rw [Addr.add_lit] at h1 h2
    refine ⟨b, o, A', n', c', rfl, World.block_lt_of_cell? W _ h1, ?_, by rw [Nat.add_assoc]; exact h2, ?_⟩
    · simpa using h1
    · simpa using h3
end Go.Proofs.Ytpfccbojllabjaa
