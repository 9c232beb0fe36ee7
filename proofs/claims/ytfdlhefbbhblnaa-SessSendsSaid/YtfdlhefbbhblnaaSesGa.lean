/- Layer 7's laws: a row of acts that is handed in. -/
import Derived.Test.YtfdlhefbbhblnaaSesG
namespace Go.Proofs.Ytfdlhefbbhblnaa
open Go.ChangeShapes Go.WideShapes Go.ChangeAt Go.RowKit Go.Deep Go.Maps

structure Ac7 where
  kind : Int
  x : Gs
def ActsIn (w : World) (B : Nat) (A : Option Addr) (n : Nat) (f : Nat → Ac7) : Prop :=
  0 < n → ∃ b o, A = some ⟨b, o, none⟩ ∧ b < B ∧ ∀ i, i < n → (f i).x.Ok w B ∧ w.cell? ⟨b, o + i * 5, none⟩ = some (.int .i64 (f i).kind) ∧ w.cell? ⟨b, o + i * 5 + 1, none⟩ = some (.int .u64 ((f i).x.s.life : Int)) ∧ w.cell? ⟨b, o + i * 5 + 2, none⟩ = some (.int .u64 ((f i).x.s.seq : Int)) ∧
    w.cell? ⟨b, o + i * 5 + 3, none⟩ = some (.bool (f i).x.s.ack) ∧ w.cell? ⟨b, o + i * 5 + 4, none⟩ = some (.slice (f i).x.A (f i).x.n (f i).x.c)
theorem ActsIn.below {w w' : World} {B n : Nat} {A : Option Addr} {f : Nat → Ac7} (h : ActsIn w B A n f) (hb : Below B w w') : ActsIn w' B A n f := fun hn => by
  obtain ⟨b, o, rfl, hlt, hi⟩ := h hn
  refine ⟨b, o, rfl, hlt, fun i hi' => ?_⟩
  obtain ⟨h0, h1, h2, h3, h4, h5⟩ := hi i hi'
  have e := fun j => World.cell?_of_block (a := ⟨b, j, none⟩) (hb.block b hlt)
  exact ⟨h0.below hb, (e _).trans h1, (e _).trans h2, (e _).trans h3, (e _).trans h4, (e _).trans h5⟩
set_option maxRecDepth 100000 in
theorem given_acts7 {H : Type} {enc : TypeId × Value → H} {W : World} {base : Nat} {v : Value} {d : DataW H} {p : List MemPlace} (hv : Value.okWide Try.prog W .any base 23 v) (h : DataW.Trod enc Try.prog W 0 (fun _ => true) true 23 v d p) :
    ∃ (A : Option Addr) (n c : Nat) (f : Nat → Ac7), v = .slice A n c ∧ n ≤ c ∧ c ≤ 9223372036854775807 ∧ ActsIn W W.heap.size A n f := by
  obtain ⟨A, n, c, rfl⟩ := okWide_slice Try.underlying23 hv
  obtain ⟨fuel, hf⟩ := h
  have dflt : Ac7 := ⟨0, ⟨0, 0, false, []⟩, none, 0, 0⟩
  rcases open_slice Try.underlying23 hf with ⟨hcs, _⟩ | ⟨a, len, cap, m, k, D, Pl, hcs, _, hl, hm, hmm, _, hi⟩
  · simp [Value.cells] at hcs
    obtain ⟨rfl, rfl, rfl⟩ := hcs
    exact ⟨none, 0, 0, fun _ => dflt, rfl, by omega, by omega, fun h => by omega⟩
  · simp [Value.cells] at hcs
    obtain ⟨rfl, rfl, rfl⟩ := hcs
    have hmm' : m = c := by simpa using hmm
    have key : ∀ i, ∃ x : Ac7, i < n → x.x.Ok W W.heap.size ∧ W.cell? (a.add (i * 5)) = some (.int .i64 x.kind) ∧ W.cell? (a.add (i * 5 + 1)) = some (.int .u64 (x.x.s.life : Int)) ∧ W.cell? (a.add (i * 5 + 2)) = some (.int .u64 (x.x.s.seq : Int)) ∧ W.cell? (a.add (i * 5 + 3)) = some (.bool x.x.s.ack) ∧ W.cell? (a.add (i * 5 + 4)) = some (.slice x.x.A x.x.n x.x.c) := by
      intro i
      by_cases hin : i < n
      · obtain ⟨cs', hc, ht'⟩ := hi i (by omega)
        have hC : Try.prog.cellsOf 38 = 5 := by kernel_rfl
        rw [hC] at hc
        obtain ⟨ys, n', hn', hy, hlen, hyl, hff⟩ := DataW.trod_struct Try.underlying38 ht'
        obtain ⟨_, hcl, hat⟩ := World.cells?_some hc
        match cs', hcl with
        | [u0, u1, u2, u3, u4], _ =>
          have hyl' : ys.length = 2 := hyl
          have e3 : Try.prog.cellsOf 3 = 1 := by kernel_rfl
          have e4 : Try.prog.cellsOf 36 = 4 := by kernel_rfl
          have f0 : DataW.trod enc Try.prog W 0 (fun _ => true) true n' 3 (List.take (Try.prog.cellsOf 3) (List.drop 0 [u0, u1, u2, u3, u4])) = ys[0]? := hff 0 _ rfl
          have f1 : DataW.trod enc Try.prog W 0 (fun _ => true) true n' 36 (List.take (Try.prog.cellsOf 36) (List.drop 1 [u0, u1, u2, u3, u4])) = ys[1]? := hff 1 _ rfl
          rw [List.getElem?_eq_getElem (by omega)] at f0 f1
          simp only [e3, e4, List.drop_zero, List.drop_succ_cons, List.take_succ_cons, List.take_zero] at f0 f1
          obtain ⟨z0, hz0, _, hw0⟩ := DataW.trod_int Try.underlying3 f0
          injection hz0 with hz0
          obtain ⟨x, hx, e0, e1, e2, e5⟩ := sg_of_trod f1
          have a0 := hat 0 (by omega)
          have a1 := hat 1 (by omega)
          have a2 := hat 2 (by omega)
          have a3 := hat 3 (by omega)
          have a4 := hat 4 (by omega)
          rw [Go.Deep.add_add] at a0 a1 a2 a3 a4
          rw [Nat.add_zero] at a0
          exact ⟨⟨z0, x⟩, fun _ => ⟨hx, a0.trans (by rw [← hz0]; rfl), a1.trans (by rw [← e0]; rfl), a2.trans (by rw [← e1]; rfl), a3.trans (by rw [← e2]; rfl), a4.trans (by rw [← e5]; rfl)⟩⟩
      · exact ⟨dflt, fun h => absurd h hin⟩
    obtain ⟨f, hf'⟩ := Classical.axiomOfChoice key
    refine ⟨some a, n, c, f, rfl, hl, by unfold maxLen at hm; omega, fun hn => ?_⟩
    obtain ⟨b, o, spot⟩ := a
    have hc0 := (hf' 0 hn).2.1
    have hspot : spot = none := by simpa [Addr.add] using World.cell?_spot hc0
    subst hspot
    refine ⟨b, o, rfl, World.block_lt_of_cell? W _ (by simpa [Addr.add] using hc0), fun i hi => ?_⟩
    obtain ⟨h0, h1, h2, h3, h4, h5⟩ := hf' i hi
    rw [Addr.add_lit] at h1 h2 h3 h4 h5
    exact ⟨h0, h1, by rw [Nat.add_assoc]; exact h2, by rw [Nat.add_assoc]; exact h3, by rw [Nat.add_assoc]; exact h4, by rw [Nat.add_assoc]; exact h5⟩
end Go.Proofs.Ytfdlhefbbhblnaa
