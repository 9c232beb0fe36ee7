/- Of the proofs of layer 4, merged: StoV. -/
import Derived.Test.YtfepjgafamaegaaGreatMPWal6
import Derived.Test.YtfepjgafamaegaaGreatM1Law
import Derived.Deep.Slices
import Derived.Deep.Fields

/- Arguments of layer 5's laws: a []api.Change. -/
namespace Go.Proofs.YtfepjgafamaegaaGreat
open Go.ChangeShapes Go.WideShapes Go.ChangeAt Go.RowKit Go.Deep

set_option maxRecDepth 100000 in
theorem chgs_of_trod {H : Type} {enc : TypeId × Value → H} {W : World} {v : Value} {fuel : Nat} {x : DataW H × List MemPlace} (hf : DataW.trod enc Tryz.prog W 0 (fun _ => true) true fuel 22 [v] = some x) :
    ∃ (A : Option Addr) (n c : Nat) (l : List Chg), v = .slice A n c ∧ n ≤ c ∧ c ≤ 9223372036854775807 ∧ ChRd W W.heap.size A n l := by
  rcases open_slice Tryz.underlying22 hf with ⟨hcs, _⟩ | ⟨a, n, c, m, k, D, Pl, hcs, _, hl, hm, hmm, _, hi⟩
  · injection hcs with hcs
    exact ⟨none, 0, 0, [], hcs, by omega, by omega, ChRd.nil _ _ _⟩
  · injection hcs with hcs
    have hmm' : m = c := by simpa using hmm
    have key : ∀ i, ∃ x : Chg, i < n → W.cell? (a.add (i * 3)) = some (sV x.key) ∧ W.cell? (a.add (i * 3 + 1)) = some (sV x.val) ∧ W.cell? (a.add (i * 3 + 2)) = some (.bool x.gone) := by
      intro i
      by_cases hin : i < n
      · obtain ⟨cs', hc, ht'⟩ := hi i (by omega)
        have hC : Tryz.prog.cellsOf 88 = 3 := by kernel_rfl
        rw [hC] at hc
        obtain ⟨ys, n', hn', hy, hlen, hyl, hff⟩ := DataW.trod_struct Tryz.underlying88 ht'
        obtain ⟨_, hcl, hat⟩ := World.cells?_some hc
        match cs', hcl with
        | [u0, u1, u2], _ =>
          have hyl' : ys.length = 3 := hyl
          have e1 : Tryz.prog.cellsOf 9 = 1 := by kernel_rfl
          have e2 : Tryz.prog.cellsOf 4 = 1 := by kernel_rfl
          have f0 : DataW.trod enc Tryz.prog W 0 (fun _ => true) true n' 9 (List.take (Tryz.prog.cellsOf 9) (List.drop 0 [u0, u1, u2])) = ys[0]? := hff 0 _ rfl
          have f1 : DataW.trod enc Tryz.prog W 0 (fun _ => true) true n' 9 (List.take (Tryz.prog.cellsOf 9) (List.drop 1 [u0, u1, u2])) = ys[1]? := hff 1 _ rfl
          have f2 : DataW.trod enc Tryz.prog W 0 (fun _ => true) true n' 4 (List.take (Tryz.prog.cellsOf 4) (List.drop 2 [u0, u1, u2])) = ys[2]? := hff 2 _ rfl
          rw [List.getElem?_eq_getElem (by omega)] at f0 f1 f2
          simp only [e1, e2, List.drop_zero, List.drop_succ_cons, List.take_succ_cons, List.take_zero] at f0 f1 f2
          obtain ⟨z0, hz0, _, _⟩ := DataW.trod_string Tryz.underlying9 f0
          obtain ⟨z1, hz1, _, _⟩ := DataW.trod_string Tryz.underlying9 f1
          obtain ⟨z2, hz2, _⟩ := DataW.trod_bool Tryz.underlying4 f2
          injection hz0 with hz0
          injection hz1 with hz1
          injection hz2 with hz2
          have a0 := hat 0 (by omega)
          have a1 := hat 1 (by omega)
          have a2 := hat 2 (by omega)
          rw [Go.Deep.add_add] at a0 a1 a2
          rw [Nat.add_zero] at a0
          have hq : ∀ z : ByteArray, (.string z : Value) = sV z.data.toList := fun z => rfl
          exact ⟨⟨z0.data.toList, z1.data.toList, z2⟩, fun _ => ⟨a0.trans (by rw [hz0]; rfl), a1.trans (by rw [hz1]; rfl), a2.trans (by rw [hz2]; rfl)⟩⟩
      · exact ⟨⟨[], [], false⟩, fun h => absurd h hin⟩
    obtain ⟨f, hf'⟩ := Classical.axiomOfChoice key
    refine ⟨some a, n, c, (List.range n).map f, hcs, hl, by unfold maxLen at hm; omega, by simp, fun i hi' => ?_⟩
    have hin : i < n := by simpa using hi'
    obtain ⟨b, o, spot⟩ := a
    obtain ⟨h1, h2, h3⟩ := hf' i hin
    have hspot : spot = none := by
      have h0 := (hf' 0 (by omega)).1
      simpa [Addr.add] using World.cell?_spot h0
    subst hspot
    rw [Addr.add_lit] at h1 h2 h3
    refine ⟨b, o, rfl, World.block_lt_of_cell? W _ h1, ?_, by rw [Nat.add_assoc]; simpa using h2, by rw [Nat.add_assoc]; simpa using h3⟩
    simpa using h1
set_option maxRecDepth 100000 in
theorem given_chgs {H : Type} {enc : TypeId × Value → H} {W : World} {base : Nat} {v : Value} {d : DataW H} {p : List MemPlace} (hv : Value.okWide Tryz.prog W .any base 22 v) (h : DataW.Trod enc Tryz.prog W 0 (fun _ => true) true 22 v d p) :
    ∃ (A : Option Addr) (n c : Nat) (l : List Chg), v = .slice A n c ∧ n ≤ c ∧ c ≤ 9223372036854775807 ∧ ChRd W W.heap.size A n l := by
  obtain ⟨A, n, c, rfl⟩ := okWide_slice Tryz.underlying22 hv
  obtain ⟨fuel, hf⟩ := h
  exact chgs_of_trod hf
end Go.Proofs.YtfepjgafamaegaaGreat
