/- Given pairs of sets, given lists. -/
import Derived.Test.YthkkkldkpdkabaaProGv
import Derived.OpenShut
namespace Go.Proofs.Ythkkkldkpdkabaa
open Go.ChangeShapes Go.WideShapes Go.ChangeAt Go.RowKit Go.Deep

/-- A slice of pairs of sets reads so. -/
def Prs (w : World) (B : Nat) (A : Option Addr) (n : Nat) (f : Nat → Nat × Nat) : Prop :=
  0 < n → ∃ b o, A = some ⟨b, o, none⟩ ∧ b < B ∧ ∀ i, i < n → w.cell? ⟨b, o + i * 2, none⟩ = some (.int .u32 ((f i).1 : Int)) ∧ w.cell? ⟨b, o + i * 2 + 1, none⟩ = some (.int .u32 ((f i).2 : Int))
/-- A slice of lists reads so. -/
def Lss (w : World) (B : Nat) (A : Option Addr) (n : Nat) (f : Nat → Option Addr × Nat × Nat × List UInt8) : Prop :=
  0 < n → ∃ b o, A = some ⟨b, o, none⟩ ∧ b < B ∧ ∀ i, i < n → w.cell? ⟨b, o + i, none⟩ = some (.slice (f i).1 (f i).2.1 (f i).2.2.1) ∧ (f i).2.1 ≤ (f i).2.2.1 ∧ (f i).2.2.1 ≤ 9223372036854775807 ∧ Rd w B (f i).1 (f i).2.1 (f i).2.2.2
theorem pr_of_trod {H : Type} {enc : TypeId × Value → H} {W : World} {u0 u1 : Value} {fuel : Nat} {x : DataW H × List MemPlace} (hf : DataW.trod enc Try.prog W 0 (fun _ => true) true fuel 63 [u0, u1] = some x) :
    ∃ a b : Nat, u0 = .int .u32 (a : Int) ∧ u1 = .int .u32 (b : Int) := by
  obtain ⟨ys, m, _, rfl, _, hl, hff⟩ := DataW.trod_array Try.underlying63 hf
  have e1 : Try.prog.cellsOf 62 = 1 := by kernel_rfl
  have f0 := hff 0 (by decide)
  have f1 := hff 1 (by decide)
  rw [List.getElem?_eq_getElem (by omega)] at f0 f1
  simp only [e1, Nat.mul_one, List.drop_zero, List.drop_succ_cons, List.take_succ_cons, List.take_zero] at f0 f1
  obtain ⟨z0, hz0, _, hw0⟩ := DataW.trod_int Try.underlying62 f0
  obtain ⟨z1, hz1, _, hw1⟩ := DataW.trod_int Try.underlying62 f1
  injection hz0 with hz0
  injection hz1 with hz1
  have b0 := bounds_u32 hw0
  have b1 := bounds_u32 hw1
  obtain ⟨a, rfl⟩ := Int.eq_ofNat_of_zero_le b0.1
  obtain ⟨b, rfl⟩ := Int.eq_ofNat_of_zero_le b1.1
  exact ⟨a, b, hz0, hz1⟩
set_option maxRecDepth 100000 in
theorem given_pairs {H : Type} {enc : TypeId × Value → H} {W : World} {base : Nat} {v : Value} {d : DataW H} {p : List MemPlace} (hv : Value.okWide Try.prog W .any base 56 v) (h : DataW.Trod enc Try.prog W 0 (fun _ => true) true 56 v d p) :
    ∃ (A : Option Addr) (n c : Nat) (f : Nat → Nat × Nat), v = .slice A n c ∧ n ≤ c ∧ c ≤ 9223372036854775807 ∧ Prs W W.heap.size A n f := by
  obtain ⟨A, n, c, rfl⟩ := okWide_slice Try.underlying56 hv
  obtain ⟨fuel, hf⟩ := h
  rcases open_slice Try.underlying56 hf with ⟨hcs, _⟩ | ⟨a, len, cap, m, k, D, Pl, hcs, _, hl, hm, hmm, _, hi⟩
  · simp [Value.cells] at hcs
    obtain ⟨rfl, rfl, rfl⟩ := hcs
    exact ⟨none, 0, 0, fun _ => (0, 0), rfl, by omega, by omega, fun h => by omega⟩
  · simp [Value.cells] at hcs
    obtain ⟨rfl, rfl, rfl⟩ := hcs
    have hmm' : m = c := by simpa using hmm
    have key : ∀ i, ∃ x : Nat × Nat, i < n → W.cell? (a.add (i * 2)) = some (.int .u32 (x.1 : Int)) ∧ W.cell? (a.add (i * 2 + 1)) = some (.int .u32 (x.2 : Int)) := by
      intro i
      by_cases hin : i < n
      · obtain ⟨cs', hc, ht'⟩ := hi i (by omega)
        have hC : Try.prog.cellsOf 63 = 2 := by kernel_rfl
        rw [hC] at hc
        obtain ⟨_, hcl, hat⟩ := World.cells?_some hc
        match cs', hcl with
        | [u0, u1], _ =>
          obtain ⟨x, y, e0, e1⟩ := pr_of_trod ht'
          have a0 := hat 0 (by omega)
          have a1 := hat 1 (by omega)
          rw [Addr.add_add] at a0 a1
          exact ⟨(x, y), fun _ => ⟨by rw [← e0]; exact a0, by rw [← e1]; exact a1⟩⟩
      · exact ⟨(0, 0), fun h => absurd h hin⟩
    obtain ⟨f, hf'⟩ := Classical.axiomOfChoice key
    refine ⟨some a, n, c, f, rfl, hl, by unfold maxLen at hm; omega, fun hn => ?_⟩
    obtain ⟨b, o, spot⟩ := a
    have hspot : spot = none := by
      have h0 := (hf' 0 hn).1
      simpa [Addr.add] using World.cell?_spot h0
    subst hspot
    refine ⟨b, o, rfl, ?_, fun i hin => ?_⟩
    · have h0 := (hf' 0 hn).1
      rw [Addr.add_lit] at h0
      exact World.block_lt_of_cell? W _ h0
    · have h1 := hf' i hin
      rw [Addr.add_lit, Addr.add_lit] at h1
      exact h1
set_option maxRecDepth 100000 in
theorem given_lss {H : Type} {enc : TypeId × Value → H} {W : World} {base : Nat} {v : Value} {d : DataW H} {p : List MemPlace} (hv : Value.okWide Try.prog W .any base 57 v) (h : DataW.Trod enc Try.prog W 0 (fun _ => true) true 57 v d p) :
    ∃ (A : Option Addr) (n c : Nat) (f : Nat → Option Addr × Nat × Nat × List UInt8), v = .slice A n c ∧ n ≤ c ∧ c ≤ 9223372036854775807 ∧ Lss W W.heap.size A n f := by
  obtain ⟨A, n, c, rfl⟩ := okWide_slice Try.underlying57 hv
  obtain ⟨fuel, hf⟩ := h
  rcases open_slice Try.underlying57 hf with ⟨hcs, _⟩ | ⟨a, len, cap, m, k, D, Pl, hcs, _, hl, hm, hmm, _, hi⟩
  · simp [Value.cells] at hcs
    obtain ⟨rfl, rfl, rfl⟩ := hcs
    exact ⟨none, 0, 0, fun _ => (none, 0, 0, []), rfl, by omega, by omega, fun h => by omega⟩
  · simp [Value.cells] at hcs
    obtain ⟨rfl, rfl, rfl⟩ := hcs
    have hmm' : m = c := by simpa using hmm
    have key : ∀ i, ∃ x : Option Addr × Nat × Nat × List UInt8, i < n → W.cell? (a.add i) = some (.slice x.1 x.2.1 x.2.2.1) ∧ x.2.1 ≤ x.2.2.1 ∧ x.2.2.1 ≤ 9223372036854775807 ∧ Rd W W.heap.size x.1 x.2.1 x.2.2.2 := by
      intro i
      by_cases hin : i < n
      · obtain ⟨cs', hc, ht'⟩ := hi i (by omega)
        have hC : Try.prog.cellsOf 39 = 1 := by kernel_rfl
        rw [hC] at hc
        obtain ⟨_, hcl, hat⟩ := World.cells?_some hc
        match cs', hcl with
        | [u0], _ =>
          obtain ⟨A', n', c', l, e, k1, k2, k3⟩ := bytes_of_trodP ht'
          have a0 := hat 0 (by omega)
          refine ⟨(A', n', c', l), fun _ => ⟨?_, k1, k2, k3⟩⟩
          simpa [Addr.add, e] using a0
      · exact ⟨(none, 0, 0, []), fun h => absurd h hin⟩
    obtain ⟨f, hf'⟩ := Classical.axiomOfChoice key
    refine ⟨some a, n, c, f, rfl, hl, by unfold maxLen at hm; omega, fun hn => ?_⟩
    obtain ⟨b, o, spot⟩ := a
    have hspot : spot = none := by
      have h0 := (hf' 0 hn).1
      simpa [Addr.add] using World.cell?_spot h0
    subst hspot
    refine ⟨b, o, rfl, ?_, fun i hin => ?_⟩
    · have h0 := (hf' 0 hn).1
      rw [Addr.add_lit] at h0
      exact World.block_lt_of_cell? W _ h0
    · have h1 := hf' i hin
      rw [Addr.add_lit] at h1
      exact h1
end Go.Proofs.Ythkkkldkpdkabaa
