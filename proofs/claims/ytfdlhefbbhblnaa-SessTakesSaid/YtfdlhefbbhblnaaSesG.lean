/- Layer 7's laws: a row of segments that is handed in. -/
import Derived.Test.YtfdlhefbbhblnaaSesQ
namespace Go.Proofs.Ytfdlhefbbhblnaa
open Go.ChangeShapes Go.WideShapes Go.ChangeAt Go.RowKit Go.Deep Go.Maps

def SgsIn (w : World) (B : Nat) (A : Option Addr) (n : Nat) (f : Nat → Gs) : Prop :=
  0 < n → ∃ b o, A = some ⟨b, o, none⟩ ∧ b < B ∧ ∀ i, i < n → (f i).Ok w B ∧ w.cell? ⟨b, o + i * 4, none⟩ = some (.int .u64 ((f i).s.life : Int)) ∧ w.cell? ⟨b, o + i * 4 + 1, none⟩ = some (.int .u64 ((f i).s.seq : Int)) ∧
    w.cell? ⟨b, o + i * 4 + 2, none⟩ = some (.bool (f i).s.ack) ∧ w.cell? ⟨b, o + i * 4 + 3, none⟩ = some (.slice (f i).A (f i).n (f i).c)
theorem SgsIn.below {w w' : World} {B n : Nat} {A : Option Addr} {f : Nat → Gs} (h : SgsIn w B A n f) (hb : Below B w w') : SgsIn w' B A n f := fun hn => by
  obtain ⟨b, o, rfl, hlt, hi⟩ := h hn
  refine ⟨b, o, rfl, hlt, fun i hi' => ?_⟩
  obtain ⟨h0, h1, h2, h3, h4⟩ := hi i hi'
  have e := fun j => World.cell?_of_block (a := ⟨b, j, none⟩) (hb.block b hlt)
  exact ⟨h0.below hb, (e _).trans h1, (e _).trans h2, (e _).trans h3, (e _).trans h4⟩
set_option maxRecDepth 100000 in
theorem given_sgs {H : Type} {enc : TypeId × Value → H} {W : World} {base : Nat} {v : Value} {d : DataW H} {p : List MemPlace} (hv : Value.okWide Try.prog W .any base 45 v) (h : DataW.Trod enc Try.prog W 0 (fun _ => true) true 45 v d p) :
    ∃ (A : Option Addr) (n c : Nat) (f : Nat → Gs), v = .slice A n c ∧ n ≤ c ∧ c ≤ 9223372036854775807 ∧ SgsIn W W.heap.size A n f := by
  obtain ⟨A, n, c, rfl⟩ := okWide_slice Try.underlying45 hv
  obtain ⟨fuel, hf⟩ := h
  have dflt : Gs := ⟨⟨0, 0, false, []⟩, none, 0, 0⟩
  rcases open_slice Try.underlying45 hf with ⟨hcs, _⟩ | ⟨a, len, cap, m, k, D, Pl, hcs, _, hl, hm, hmm, _, hi⟩
  · simp [Value.cells] at hcs
    obtain ⟨rfl, rfl, rfl⟩ := hcs
    exact ⟨none, 0, 0, fun _ => dflt, rfl, by omega, by omega, fun h => by omega⟩
  · simp [Value.cells] at hcs
    obtain ⟨rfl, rfl, rfl⟩ := hcs
    have hmm' : m = c := by simpa using hmm
    have key : ∀ i, ∃ x : Gs, i < n → x.Ok W W.heap.size ∧ W.cell? (a.add (i * 4)) = some (.int .u64 (x.s.life : Int)) ∧ W.cell? (a.add (i * 4 + 1)) = some (.int .u64 (x.s.seq : Int)) ∧ W.cell? (a.add (i * 4 + 2)) = some (.bool x.s.ack) ∧ W.cell? (a.add (i * 4 + 3)) = some (.slice x.A x.n x.c) := by
      intro i
      by_cases hin : i < n
      · obtain ⟨cs', hc, ht'⟩ := hi i (by omega)
        have hC : Try.prog.cellsOf 36 = 4 := by kernel_rfl
        rw [hC] at hc
        obtain ⟨_, hcl, hat⟩ := World.cells?_some hc
        match cs', hcl with
        | [u0, u1, u2, u3], _ =>
          obtain ⟨x, hx, e0, e1, e2, e3⟩ := sg_of_trod ht'
          have a0 := hat 0 (by omega)
          have a1 := hat 1 (by omega)
          have a2 := hat 2 (by omega)
          have a3 := hat 3 (by omega)
          rw [Go.Deep.add_add] at a0 a1 a2 a3
          rw [Nat.add_zero] at a0
          exact ⟨x, fun _ => ⟨hx, a0.trans (by rw [← e0]; rfl), a1.trans (by rw [← e1]; rfl), a2.trans (by rw [← e2]; rfl), a3.trans (by rw [← e3]; rfl)⟩⟩
      · exact ⟨dflt, fun h => absurd h hin⟩
    obtain ⟨f, hf'⟩ := Classical.axiomOfChoice key
    refine ⟨some a, n, c, f, rfl, hl, by unfold maxLen at hm; omega, fun hn => ?_⟩
    obtain ⟨b, o, spot⟩ := a
    have hc0 := (hf' 0 hn).2.1
    have hspot : spot = none := by simpa [Addr.add] using World.cell?_spot hc0
    subst hspot
    refine ⟨b, o, rfl, World.block_lt_of_cell? W _ (by simpa [Addr.add] using hc0), fun i hi => ?_⟩
    obtain ⟨h0, h1, h2, h3, h4⟩ := hf' i hi
    rw [Addr.add_lit] at h1 h2 h3 h4
    exact ⟨h0, h1, by rw [Nat.add_assoc]; exact h2, by rw [Nat.add_assoc]; exact h3, by rw [Nat.add_assoc]; exact h4⟩
end Go.Proofs.Ytfdlhefbbhblnaa
