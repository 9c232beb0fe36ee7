/- Of the proofs of layer 4, merged: StoI. -/
import Derived.Test.YtcmjobpgdfapoaaGreatMStoS
import Derived.RangeFuncNested
import Derived.RangeFuncBound
import Derived.RangeFuncCalls
import Derived.RangeFuncLeaves
import Derived.RangeFuncBox
import Derived.Shelf.Abstract
import Derived.Shelf.RegionOpen
import Derived.OwnWalkIn
import Derived.TacticsInMore
import Derived.LoopNIn
import Derived.LoopIn

/- The program's All: what its function value gives, one pair a round, whatever the loop's body does. -/
namespace Go.Proofs.YtcmjobpgdfapoaaGreat
open Go.RowKit Go.Shelf

/-- A slice of pairs reads as these. -/
def PRd (w : World) (B : Nat) (A : Option Addr) (n : Nat) (L : List Pr) : Prop :=
  L.length = n ∧ ∀ i (h : i < L.length), ∃ b o, A = some ⟨b, o, none⟩ ∧ b < B ∧ w.cell? ⟨b, o + i * 2, none⟩ = some (sV L[i].1) ∧ w.cell? ⟨b, o + i * 2 + 1, none⟩ = some (sV L[i].2)
theorem PRd.below {w w' : World} {B k : Nat} {A : Option Addr} {L : List Pr} (h : PRd w B A k L) (hb : Below B w w') : PRd w' B A k L :=
  ⟨h.1, fun i hi => by
    obtain ⟨b, o, e, hlt, h1, h2⟩ := h.2 i hi
    exact ⟨b, o, e, hlt, (hb.cell hlt).trans h1, (hb.cell hlt).trans h2⟩⟩
theorem PRd.more {w : World} {B B' k : Nat} {A : Option Addr} {L : List Pr} (h : PRd w B A k L) (hB : B ≤ B') : PRd w B' A k L :=
  ⟨h.1, fun i hi => by
    obtain ⟨b, o, e, hlt, h1, h2⟩ := h.2 i hi
    exact ⟨b, o, e, by omega, h1, h2⟩⟩
/-- Of what lay below n₀ at most block x has turned. -/
structure KX (x n₀ : Nat) (W W' : World) : Prop where
  size : W.heap.size ≤ W'.heap.size
  block : ∀ k, k < n₀ → k ≠ x → W'.heap[k]? = W.heap[k]?
theorem KX.refl (x n₀ : Nat) (W : World) : KX x n₀ W W := ⟨Nat.le_refl _, fun _ _ _ => rfl⟩
theorem KX.trans {x n₀ : Nat} {A B C : World} (h : KX x n₀ A B) (k : KX x n₀ B C) : KX x n₀ A C := ⟨Nat.le_trans h.size k.size, fun i h1 h2 => (k.block i h1 h2).trans (h.block i h1 h2)⟩
theorem KX.alloc {x n₀ : Nat} {A B : World} (h : KX x n₀ A B) (hn : n₀ ≤ B.heap.size) (o : Obj) : KX x n₀ A (B.alloc o) := h.trans ⟨by simp, fun k hk _ => Below.heap_alloc _ _ k (by omega)⟩
theorem PRd.keep {w w' : World} {B k x : Nat} {A : Option Addr} {L : List Pr} (h : PRd w B A k L) (hb : KX x B w w') (hx : ∀ b o, A = some ⟨b, o, none⟩ → b ≠ x) : PRd w' B A k L :=
  ⟨h.1, fun i hi => by
    obtain ⟨b, o, e, hlt, h1, h2⟩ := h.2 i hi
    have e2 := fun j => World.cell?_of_block (a := ⟨b, j, none⟩) (hb.block b hlt (hx b o e))
    exact ⟨b, o, e, hlt, (e2 _).trans h1, (e2 _).trans h2⟩⟩
abbrev encP (p : Pr) : Array Value := #[sV p.1, sV p.2]

set_option maxRecDepth 100000 in
set_option maxHeartbeats 2000000 in
theorem iter_in (F : Fence) (n : Nat) (hf : F.fn 81) (hro : F.round = none) (hn : 1 ≤ n) (l Bs n₀ x : Nat) (A : Option Addr) (len cap : Nat) (L : List Pr) (hlen : len ≤ 9223372036854775807) (J Jx : List Pr → World → Prop)
    (hY : ∀ pre y W, J pre W → pre.length < len → YieldAt F (n - 1) Tryz.prog l (encP y) W fun e W' => (e = .returned (.bool true) ∧ J (pre ++ [y]) W' ∧ KX x n₀ W W') ∨ (e = .returned (.bool false) ∧ Jx (pre ++ [y]) W'))
    (W : World) (hJ : AbidesFrom W.heap.size J) (hBs : W.cell? ⟨Bs, 0, none⟩ = some (.slice A len cap)) (hL : PRd W n₀ A len L) (hx : ∀ b o, A = some ⟨b, o, none⟩ → b ≠ x) (hn0 : n₀ ≤ W.heap.size) (h0 : J [] W) :
    CallsIn F n Tryz.prog 81 #[.func (.yield l) #[] #[], .pointer (some ⟨Bs, 0, none⟩)] W fun e W' => (∃ v, e = .returned v) ∧
      ((∃ ys, ys = L ∧ J ys W') ∨ (∃ pre, pre <+: L ∧ Jx pre W')) := by
  have hpl := hL.1
  refine callsIn_of_wp Tryz.func81 rfl hf ?_ hro
  simp only [Tryz.ntmps81, List.size_toArray, List.length_cons, List.length_nil, Nat.reduceAdd, Nat.reduceSub, Array.replicate_succ, Array.replicate_zero, List.push_toArray, List.append_toArray, List.nil_append, List.cons_append]
  gi_wp2
  gi_loopw [7] (fun i wr => ∃ k : Nat, k ≤ len ∧ i = .int .i64 k ∧ J (L.take k) wr ∧ KX x n₀ W wr ∧ W.heap.size ≤ wr.heap.size)
    (fun i _ => len - (intOf i).toNat)
  case atStart => exact ⟨0, Nat.zero_le _, rfl, by simpa using h0, KX.refl _ _ _, Nat.le_refl _⟩
  case round =>
    obtain ⟨k, hk, rfl, hJs, hnx, hsz⟩ := hrel
    by_cases hlt : k < len
    · have hkl : k < L.length := by omega
      obtain ⟨b, o, rfl, hbw, c0, c1⟩ := (hL.keep hnx hx).2 k hkl
      have htk : L.take (k + 1) = L.take k ++ [L[k]] := List.take_succ_eq_append_getElem hkl
      have hJa : J (L.take k) (wr.alloc (.cells #[sV L[k].1, sV L[k].2] 86)) := hJ _ _ _ none hJs (World.grownBy_alloc _ _ _) (fun r e => by cases e)
      have hBk := Bk.new wr 86 #[sV L[k].1, sV L[k].2]
      have hba : KX x n₀ W (wr.alloc (.cells #[sV L[k].1, sV L[k].2] 86)) := hnx.alloc (by omega) _
      obtain ⟨fn, tmps, assign, body, hy, hR⟩ := hY _ L[k] _ hJa (by rw [List.length_take]; omega)
      generalize L[k] = p at *
      obtain ⟨p1, p2⟩ := p
      have hi1 : (k : Int) < (len : Int) := by omega
      dsimp only [encP] at hy
      have k0 : (wr.alloc (.cells #[sV p1, sV p2] 86)).cell? ⟨wr.heap.size, 0, none⟩ = some (sV p1) := hBk.cell 0
      have k1 : (wr.alloc (.cells #[sV p1, sV p2] 86)).cell? ⟨wr.heap.size, 1, none⟩ = some (sV p2) := hBk.cell 1
      have c0 : wr.cell? ⟨b, o + k * 2, none⟩ = some (sV p1) := c0
      have c1 : wr.cell? ⟨b, o + k * 2 + 1, none⟩ = some (sV p2) := c1
      gi_wp2
      refine hR.mono ?_
      rintro e W3 (⟨rfl, hJ3, hk3⟩ | ⟨rfl, hJx3⟩)
      · gi_wp2
        go_roundw
        case rel => exact ⟨k + 1, by omega, by simp, by rw [htk]; exact hJ3, hba.trans hk3, by have := hk3.size; simp at this; omega⟩
        case measure => simp [intOf]; omega
      · gi_wp2
        refine bodyPost_ret (results_none rfl _ _ _) rfl ?_
        exact ⟨⟨_, rfl⟩, .inr ⟨_, ⟨L.drop (k + 1), by rw [← htk, List.take_append_drop]⟩, hJx3⟩⟩
    · obtain rfl : k = len := by omega
      have hi1 : ¬ (k : Int) < (k : Int) := by omega
      gi_wp2
      go_end0
      rw [List.take_of_length_le (by omega)] at hJs
      refine ⟨⟨_, rfl⟩, .inl ?_⟩
      first | exact hJs | exact ⟨_, rfl, hJs⟩
theorem iter_stops (F : Fence) (n : Nat) (hf : F.fn 81) (hro : F.round = none) (hn : 1 ≤ n) (Bs n₀ x : Nat) (A : Option Addr) (len cap : Nat) (L : List Pr) (hlen : len ≤ 9223372036854775807) (w : World) (hB : Bs < w.heap.size)
    (hn0 : n₀ ≤ w.heap.size) (hBs : w.cell? ⟨Bs, 0, none⟩ = some (.slice A len cap)) (hL : PRd w n₀ A len L) (hx : ∀ b o, A = some ⟨b, o, none⟩ → b ≠ x) :
    SeqStopsK F n Tryz.prog 81 #[.pointer (some ⟨Bs, 0, none⟩)] encP (KX x n₀) (fun ys => ys = L) (fun pre => pre <+: L) len w := fun l J Jx W hW hJ _ hY h0 =>
  iter_in F n hf hro hn l Bs n₀ x A len cap L hlen J Jx hY W hJ ((hW.cell (p := ⟨Bs, 0, none⟩) hB).trans hBs) (hL.below (hW.mono hn0)) hx (Nat.le_trans hn0 hW.size) h0
end Go.Proofs.YtcmjobpgdfapoaaGreat
