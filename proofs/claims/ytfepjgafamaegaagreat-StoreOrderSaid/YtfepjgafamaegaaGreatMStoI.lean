/- Of the proofs of layer 4, merged: StoI, StoJ, StoRL, StoRO, StoPa, StoPb. -/
import Derived.Test.YtfepjgafamaegaaGreatMStoS
import Derived.RangeFuncNested
import Derived.RangeFuncBound
import Derived.RangeFuncCalls
import Derived.RangeFuncLeaves
import Derived.RangeFuncBox
import Derived.Shelf.Abstract
import Derived.Shelf.RegionOpen
import Derived.OwnWalkIn
import Derived.TacticsInMore
import Derived.LoopNIn
import Derived.LoopIn
import Derived.Test.YtfepjgafamaegaaGreatMBackP
import Derived.Test.YtfepjgafamaegaaGreatM1Append2
import Derived.Test.YtfepjgafamaegaaGreatMPWal6
import Derived.Test.YtfepjgafamaegaaGreatMRWal5
import Derived.Test.YtfepjgafamaegaaGreatMRDisk4

/- The program's All: what its function value gives, one pair a round, whatever the loop's body does. -/
namespace Go.Proofs.YtfepjgafamaegaaGreat
open Go.RowKit Go.Shelf

/-- A slice of pairs reads as these. -/
def PRd (w : World) (B : Nat) (A : Option Addr) (n : Nat) (L : List Pr) : Prop :=
  L.length = n ∧ ∀ i (h : i < L.length), ∃ b o, A = some ⟨b, o, none⟩ ∧ b < B ∧ w.cell? ⟨b, o + i * 2, none⟩ = some (sV L[i].1) ∧ w.cell? ⟨b, o + i * 2 + 1, none⟩ = some (sV L[i].2)
theorem PRd.below {w w' : World} {B k : Nat} {A : Option Addr} {L : List Pr} (h : PRd w B A k L) (hb : Below B w w') : PRd w' B A k L :=
  ⟨h.1, fun i hi => by
    obtain ⟨b, o, e, hlt, h1, h2⟩ := h.2 i hi
    exact ⟨b, o, e, hlt, (hb.cell hlt).trans h1, (hb.cell hlt).trans h2⟩⟩
theorem PRd.more {w : World} {B B' k : Nat} {A : Option Addr} {L : List Pr} (h : PRd w B A k L) (hB : B ≤ B') : PRd w B' A k L :=
  ⟨h.1, fun i hi => by
    obtain ⟨b, o, e, hlt, h1, h2⟩ := h.2 i hi
    exact ⟨b, o, e, by omega, h1, h2⟩⟩
/-- Of what lay below n₀ at most block x has turned. -/
structure KX (x n₀ : Nat) (W W' : World) : Prop where
  size : W.heap.size ≤ W'.heap.size
  block : ∀ k, k < n₀ → k ≠ x → W'.heap[k]? = W.heap[k]?
theorem KX.refl (x n₀ : Nat) (W : World) : KX x n₀ W W := ⟨Nat.le_refl _, fun _ _ _ => rfl⟩
theorem KX.trans {x n₀ : Nat} {A B C : World} (h : KX x n₀ A B) (k : KX x n₀ B C) : KX x n₀ A C := ⟨Nat.le_trans h.size k.size, fun i h1 h2 => (k.block i h1 h2).trans (h.block i h1 h2)⟩
theorem KX.alloc {x n₀ : Nat} {A B : World} (h : KX x n₀ A B) (hn : n₀ ≤ B.heap.size) (o : Obj) : KX x n₀ A (B.alloc o) := h.trans ⟨by simp, fun k hk _ => Below.heap_alloc _ _ k (by omega)⟩
theorem PRd.keep {w w' : World} {B k x : Nat} {A : Option Addr} {L : List Pr} (h : PRd w B A k L) (hb : KX x B w w') (hx : ∀ b o, A = some ⟨b, o, none⟩ → b ≠ x) : PRd w' B A k L :=
  ⟨h.1, fun i hi => by
    obtain ⟨b, o, e, hlt, h1, h2⟩ := h.2 i hi
    have e2 := fun j => World.cell?_of_block (a := ⟨b, j, none⟩) (hb.block b hlt (hx b o e))
    exact ⟨b, o, e, hlt, (e2 _).trans h1, (e2 _).trans h2⟩⟩
abbrev encP (p : Pr) : Array Value := #[sV p.1, sV p.2]

set_option maxRecDepth 100000 in
set_option maxHeartbeats 2000000 in
theorem iter_in (F : Fence) (n : Nat) (hf : F.fn 81) (hro : F.round = none) (hn : 1 ≤ n) (l Bs n₀ x : Nat) (A : Option Addr) (len cap : Nat) (L : List Pr) (hlen : len ≤ 9223372036854775807) (J Jx : List Pr → World → Prop)
    (hY : ∀ pre y W, J pre W → pre.length < len → YieldAt F (n - 1) Tryz.prog l (encP y) W fun e W' => (e = .returned (.bool true) ∧ J (pre ++ [y]) W' ∧ KX x n₀ W W') ∨ (e = .returned (.bool false) ∧ Jx (pre ++ [y]) W'))
    (W : World) (hJ : AbidesFrom W.heap.size J) (hBs : W.cell? ⟨Bs, 0, none⟩ = some (.slice A len cap)) (hL : PRd W n₀ A len L) (hx : ∀ b o, A = some ⟨b, o, none⟩ → b ≠ x) (hn0 : n₀ ≤ W.heap.size) (h0 : J [] W) :
    CallsIn F n Tryz.prog 81 #[.func (.yield l) #[] #[], .pointer (some ⟨Bs, 0, none⟩)] W fun e W' => (∃ v, e = .returned v) ∧
      ((∃ ys, ys = L ∧ J ys W') ∨ (∃ pre, pre <+: L ∧ Jx pre W')) := by
  have hpl := hL.1
  refine callsIn_of_wp Tryz.func81 rfl hf ?_ hro
  simp only [Tryz.ntmps81, List.size_toArray, List.length_cons, List.length_nil, Nat.reduceAdd, Nat.reduceSub, Array.replicate_succ, Array.replicate_zero, List.push_toArray, List.append_toArray, List.nil_append, List.cons_append]
  gi_wp2
  gi_loopw [7] (fun i wr => ∃ k : Nat, k ≤ len ∧ i = .int .i64 k ∧ J (L.take k) wr ∧ KX x n₀ W wr ∧ W.heap.size ≤ wr.heap.size)
    (fun i _ => len - (intOf i).toNat)
  case atStart => exact ⟨0, Nat.zero_le _, rfl, by simpa using h0, KX.refl _ _ _, Nat.le_refl _⟩
  case round =>
    obtain ⟨k, hk, rfl, hJs, hnx, hsz⟩ := hrel
    by_cases hlt : k < len
    · have hkl : k < L.length := by omega
      obtain ⟨b, o, rfl, hbw, c0, c1⟩ := (hL.keep hnx hx).2 k hkl
      have htk : L.take (k + 1) = L.take k ++ [L[k]] := List.take_succ_eq_append_getElem hkl
      have hJa : J (L.take k) (wr.alloc (.cells #[sV L[k].1, sV L[k].2] 86)) := hJ _ _ _ none hJs (World.grownBy_alloc _ _ _) (fun r e => by cases e)
      have hBk := Bk.new wr 86 #[sV L[k].1, sV L[k].2]
      have hba : KX x n₀ W (wr.alloc (.cells #[sV L[k].1, sV L[k].2] 86)) := hnx.alloc (by omega) _
      obtain ⟨fn, tmps, assign, body, hy, hR⟩ := hY _ L[k] _ hJa (by rw [List.length_take]; omega)
      generalize L[k] = p at *
      obtain ⟨p1, p2⟩ := p
      have hi1 : (k : Int) < (len : Int) := by omega
      dsimp only [encP] at hy
      have k0 : (wr.alloc (.cells #[sV p1, sV p2] 86)).cell? ⟨wr.heap.size, 0, none⟩ = some (sV p1) := hBk.cell 0
      have k1 : (wr.alloc (.cells #[sV p1, sV p2] 86)).cell? ⟨wr.heap.size, 1, none⟩ = some (sV p2) := hBk.cell 1
      have c0 : wr.cell? ⟨b, o + k * 2, none⟩ = some (sV p1) := c0
      have c1 : wr.cell? ⟨b, o + k * 2 + 1, none⟩ = some (sV p2) := c1
      gi_wp2
      refine hR.mono ?_
      rintro e W3 (⟨rfl, hJ3, hk3⟩ | ⟨rfl, hJx3⟩)
      · gi_wp2
        go_roundw
        case rel => exact ⟨k + 1, by omega, by simp, by rw [htk]; exact hJ3, hba.trans hk3, by have := hk3.size; simp at this; omega⟩
        case measure => simp [intOf]; omega
      · gi_wp2
        refine bodyPost_ret (results_none rfl _ _ _) rfl ?_
        exact ⟨⟨_, rfl⟩, .inr ⟨_, ⟨L.drop (k + 1), by rw [← htk, List.take_append_drop]⟩, hJx3⟩⟩
    · obtain rfl : k = len := by omega
      have hi1 : ¬ (k : Int) < (k : Int) := by omega
      gi_wp2
      go_end0
      rw [List.take_of_length_le (by omega)] at hJs
      refine ⟨⟨_, rfl⟩, .inl ?_⟩
      first | exact hJs | exact ⟨_, rfl, hJs⟩
theorem iter_stops (F : Fence) (n : Nat) (hf : F.fn 81) (hro : F.round = none) (hn : 1 ≤ n) (Bs n₀ x : Nat) (A : Option Addr) (len cap : Nat) (L : List Pr) (hlen : len ≤ 9223372036854775807) (w : World) (hB : Bs < w.heap.size)
    (hn0 : n₀ ≤ w.heap.size) (hBs : w.cell? ⟨Bs, 0, none⟩ = some (.slice A len cap)) (hL : PRd w n₀ A len L) (hx : ∀ b o, A = some ⟨b, o, none⟩ → b ≠ x) :
    SeqStopsK F n Tryz.prog 81 #[.pointer (some ⟨Bs, 0, none⟩)] encP (KX x n₀) (fun ys => ys = L) (fun pre => pre <+: L) len w := fun l J Jx W hW hJ _ hY h0 =>
  iter_in F n hf hro hn l Bs n₀ x A len cap L hlen J Jx hY W hJ ((hW.cell (p := ⟨Bs, 0, none⟩) hB).trans hBs) (hL.below (hW.mono hn0)) hx (Nat.le_trans hn0 hW.size) h0
end Go.Proofs.YtfepjgafamaegaaGreat

/- Layer 5's laws: pairs. -/
namespace Go.Proofs.YtfepjgafamaegaaGreat
open Go.RowKit Go.Shelf

attribute [local go_sem] Oper.semAt_some

def prCells (L : List Pr) : List Value := L.flatMap fun p => [sV p.1, sV p.2]
theorem prCells_snoc (L : List Pr) (p : Pr) : prCells (L ++ [p]) = prCells L ++ [sV p.1, sV p.2] := by simp [prCells]
/-- What All gives: a function value over the pairs L. -/
def AllR (L : List Pr) (W : World) (e : Ending) (w' : World) : Prop :=
  ∃ B A len cap, e = .returned (.func (.func 81) #[] #[.pointer (some ⟨B, 0, none⟩)]) ∧ w'.cell? ⟨B, 0, none⟩ = some (.slice A len cap) ∧ len ≤ 9223372036854775807 ∧ PRd w' w'.heap.size A len L ∧ B < w'.heap.size ∧ (∀ b o, A = some ⟨b, o, none⟩ → W.heap.size ≤ b) ∧ Below W.heap.size W w'
theorem Tryz.infoPair : (Tryz.prog.info? 86).map (fun i => (i.zero, i.size, i.bytes)) = some (some (.agg #[.string ByteArray.empty, .string ByteArray.empty]), 2, 32) := by kernel_rfl
theorem cell_two_new (w : World) (x y : Value) (t : TypeId) : ∀ j u, [x, y][j]? = some u → (w.alloc (.cells #[x, y] t)).cell? ((⟨w.heap.size, 0, none⟩ : Addr).add j) = some u := by
  intro j u hu
  rw [Addr.add_lit, Nat.zero_add, World.cell?_alloc_at _ _ _ _ rfl]
  match j, hu with
  | 0, hu => simpa using hu
  | 1, hu => simpa using hu

set_option maxRecDepth 100000 in
theorem not_nilFunc (x : Value) (w : World) : (binOp .eql 83 (.func (.func 81) #[] #[x]) .nilFunc).run Tryz.prog w = .ok (.bool false) w := by
  first | rfl | kernel_rfl | (simp [binOp, go_sem]; done)
theorem holdsRow_ownS {β : Type} (n₀ B n1 : Nat) (t e : TypeId) (size : Nat) (k : β → Nat) (f : β → List Value) : Own (fun s W => ∃ v, Boxed W B t v ∧ W.ownsRow n₀ e size v (k s) (f s) ∧ n1 ≤ W.heap.size) := by
  rintro s X Y row ⟨v, hv, hr, hG⟩ hg hrow
  obtain ⟨v', h1, h2, h3⟩ := holdsRow_own n₀ B t e size k f (fun s u => u = v) s X Y row ⟨v, hv, hr, rfl⟩ hg hrow
  exact ⟨v', h1, h2, Nat.le_trans hG hg.size⟩
set_option maxRecDepth 100000 in
set_option maxHeartbeats 4000000 in
theorem pairs_in (sv : Value) (L : List Pr) (w : World) (hlen : L.length ≤ 1000000)
    (hAll : ∀ W, Below w.heap.size w W → Calls Tryz.prog 43 #[sv] W (AllR L W)) :
    CallsIn Fence.wide 5 Tryz.prog 26 #[sv] w fun e W' => ∃ v, e = .returned v ∧ W'.ownsRow w.heap.size 86 2 v L.length (prCells L) ∧ Below w.heap.size w W' := by
  obtain ⟨i0, hi, hz0, hz1, hz2⟩ := info_parts Tryz.infoPair
  have HA := Lib.hid hAll
  clear hAll
  refine callsIn_of_wp_marks Tryz.func26 rfl trivial ?_ rfl
  simp only [Tryz.ntmps26, List.size_toArray, List.length_cons, List.length_nil, Nat.reduceAdd, Nat.reduceSub, Array.replicate_succ, Array.replicate_zero, List.push_toArray, List.append_toArray, List.nil_append, List.cons_append]
  have bO := Boxed.new w 57 (.slice none 0 0)
  have hb0 : Below w.heap.size w (w.alloc (.cells #[.slice none 0 0] 57)) := (Below.refl _ _).alloc (Nat.le_refl _) _
  have hs0 : (w.alloc (.cells #[.slice none 0 0] 57)).heap.size = w.heap.size + 1 := by simp
  have hnf := not_nilFunc
  gi_wp2_with (refine ⟨trivial, ?_⟩; gi_at_call 43; refine (callsIn_wide.2 (HA.out _ hb0)).mono ?_; rintro e w1 ⟨B, A, len, cap, rfl, hB, hl63, hP, hBl, hAge, hb1⟩)
  have hv1 : Boxed w1 w.heap.size 57 (.slice none 0 0) := bO.kept (grown_of_below hb1 none) (by simp)
  have hb01 : Below w.heap.size w w1 := below_then hb0 hb1
  have hws : w.heap.size + 1 ≤ w1.heap.size := by have := hb1.size; rw [hs0] at this; exact this
  have hlt : w.heap.size < w1.heap.size := by omega
  refine wpIn_rangeFunc_ownG rfl (by decide) (gf := 81) (lb := #[.pointer (some ⟨B, 0, none⟩)]) rfl trivial (enters_of Tryz.func81 (by kernel_rfl) rfl)
    (iter_stops Fence.wide 4 trivial rfl (by decide) B w1.heap.size w.heap.size A len cap L hl63 w1 hBl (Nat.le_refl _) hB hP (fun b o e => by have := hAge b o e; omega)) KX.trans (fun W l o o' hl ho _ _ => ⟨by simp [World.putObj], fun k hk _ => World.putObj_heap_other (by omega)⟩) (Below.refl _ _) (fun _ => rfl)
    (fun pre W => (∃ v, Boxed W w.heap.size 57 v ∧ W.ownsRow w1.heap.size 86 2 v pre.length (prCells pre) ∧ w1.heap.size ≤ W.heap.size) ∧ Below w.heap.size w W)
    (fun _ _ _ => False)
    (OwnFrom.and (Own.from (holdsRow_ownS w1.heap.size w.heap.size w1.heap.size 57 86 2 (fun pre => pre.length) (fun pre => prCells pre)) _) (ownFrom_below (Nat.le_refl _) (by omega)))
    (fun _ _ _ _ _ hs _ _ => hs)
    ⟨⟨_, hv1, World.ownsRow_nil _ _ _ _, Nat.le_refl _⟩, hb01⟩
    (fun x => { tmps := #[sv, undef, .slice none 0 0, .pointer (some ⟨w.heap.size, 0, none⟩), .func (.func 81) #[] #[.pointer (some ⟨B, 0, none⟩)], sV x.1, sV x.2, sv,
      .func (.func 81) #[] #[.pointer (some ⟨B, 0, none⟩)], .func (.func 81) #[] #[.pointer (some ⟨B, 0, none⟩)], .bool false, .func (.func 81) #[] #[.pointer (some ⟨B, 0, none⟩)], sV x.1, sV x.2, undef, undef, undef, undef, undef, undef, undef], defers := [] }) ?assign ?body ?done ?stop
  case assign =>
    intro l x W K hK
    gi_wp2
    exact hK
  case body =>
    rintro l pre x W ⟨⟨v, hv, hrow, hws2⟩, hB2⟩ hlt2
    have hc := hv.cell
    have hpl : pre.length ≤ 1000000 := by have := hP.1; omega
    have hrow0 := own_mono (base' := w.heap.size) hrow (by omega)
    gi_wp2_with (gi_at_builtin; refine wpListIn_append_own _ rfl _ _ 57 rfl w1.heap.size 86 i0 (.agg #[.string ByteArray.empty, .string ByteArray.empty]) 2 32 Tryz.underlying57 hi hz0 hz1 hz2 rfl (by decide) _ _ _ rfl (hrow.alloc _) ⟨W.heap.size, 0, none⟩ 1 1 [sV x.1, sV x.2] rfl rfl (cell_two_new _ _ _ _) (by intro u hu; simp at hu; rcases hu with rfl | rfl <;> rfl) (by unfold maxLen; omega) (by omega) (by simp; omega) ?_; intro v' w5 hown' hgrow _; obtain ⟨g', cap', rfl⟩ := ownsRow_succ hown'; obtain ⟨hv1, hv2, hr2, hk2, hb2⟩ := hv.appended (by decide) hrow0 hB2.size (Nat.le_refl _) (own_mono (base' := w.heap.size) hown' (by omega)) hgrow; have hc1 := hv1.cell; have hf1 := hv1.frozen)
    have hkx : KX w.heap.size w1.heap.size W (w5.setCell ⟨w.heap.size, 0, none⟩ (.slice (some ⟨g', 0, none⟩) (pre.length + 1) cap')) := by
      refine ⟨hk2.size, fun k hk hne => ?_⟩
      rw [Below.heap_setCell _ _ _ _ hne, hgrow.block k (by simp; omega) (fun e => by have := own_block_ge hrow k e.symm; omega)]
      exact Below.heap_alloc _ _ k (by omega)
    have hz5 := hgrow.size
    refine ⟨hk2.from _, hkx, ⟨_, hv2, ?_, by simp [World.setCell] at hz5 ⊢; omega⟩, hB2.trans hb2⟩
    rw [List.length_append, prCells_snoc]
    exact hown'.kept (grownBy_setCell' w5 w.heap.size _) (.inr (hv1.not_row (by decide) hown').symm)
  case done =>
    rintro D ys W hD rfl ⟨⟨v, hv, hrow1, -⟩, hB2⟩ hK
    have hc := hv.cell
    have hrow := own_mono (base' := w.heap.size) hrow1 (by omega)
    gi_wp2
    refine ⟨by simp, .inl ⟨_, _, rfl, run_takeDeferred hK, ?_⟩⟩
    exact ⟨_, results_tmp rfl _ _ _, v, rfl, ownsRow_putObj hrow _ hK rfl, hB2.trans (belowK_b (w := w) (Nat.le_refl _) W D _ _ (by omega) hK rfl rfl)⟩
  case stop =>
    rintro D c pre W _ _ h _
    exact h.elim
end Go.Proofs.YtfepjgafamaegaaGreat

/- The document's Lay. -/
namespace Go.Proofs.YtfepjgafamaegaaGreat
open Go.RowKit

theorem prCells_len (L : List Pr) : (prCells L).length = L.length * 2 := by
  unfold prCells
  induction L with
  | nil => rfl
  | cons p r ih => simp only [List.flatMap_cons, List.length_append, ih, List.length_cons, List.length_nil]; omega
abbrev encS' (p : Pr) : List Value := [sV p.1, sV p.2]
theorem prCells_get' : ∀ (xs : List Pr) (j : Nat), j < xs.length * 2 → (prCells xs)[j]? = some (encS' xs[j / 2]!)[j % 2]!
  | [], j, h => by simp at h
  | p :: r, 0, _ => rfl
  | p :: r, 1, _ => rfl
  | p :: r, j + 2, h => by
    have ih := prCells_get' r j (by simp at h; omega)
    have e1 : (prCells (p :: r))[j + 2]? = (prCells r)[j]? := rfl
    have e2 : (j + 2) / 2 = j / 2 + 1 := by omega
    have e3 : (j + 2) % 2 = j % 2 := by omega
    rw [e1, ih, e2, e3]
    rfl
theorem prCells_app (A B : List Pr) : prCells (A ++ B) = prCells A ++ prCells B := by unfold prCells; rw [List.flatMap_append]

theorem prCells_one {L : List Pr} {u : Value} (h : u ∈ prCells L) : u.oneCell' = true := by
  unfold prCells at h
  rw [List.mem_flatMap] at h
  obtain ⟨p, _, h⟩ := h
  simp at h
  rcases h with rfl | rfl <;> rfl
theorem PRd.of_own {W : World} {base n c : Nat} {A : Option Addr} {L : List Pr} (h : W.ownsRow base 86 2 (.slice A n c) n (prCells L)) : PRd W W.heap.size A n L := by
  have hl := h.1
  rw [prCells_len] at hl
  refine ⟨by omega, fun i hi => ?_⟩
  rcases h.2 with ⟨h0, hz⟩ | ⟨g, cap, cur, hv, _, hh, _⟩
  · omega
  · have hA : A = some ⟨g, 0, none⟩ := by injection hv
    subst hA
    refine ⟨g, 0, rfl, (Array.getElem?_eq_some_iff.1 hh).1, ?_, ?_⟩
    · have := h.cells (g := g) rfl (i * 2) (sV L[i].1) (by rw [prCells_get' L _ (by omega)]; simp [encS', getElem!_pos L i hi, show i * 2 / 2 = i by omega, show i * 2 % 2 = 0 by omega])
      rw [Addr.add_lit] at this
      exact this
    · have := h.cells (g := g) rfl (i * 2 + 1) (sV L[i].2) (by rw [prCells_get' L _ (by omega)]; simp [encS', getElem!_pos L i hi, show (i * 2 + 1) / 2 = i by omega, show (i * 2 + 1) % 2 = 1 by omega])
      rw [Addr.add_lit] at this
      rw [← Nat.add_assoc] at this
      exact this
theorem tail_cells {w1 : World} {Ak : Option Addr} {Lk : List Pr} (h : PRd w1 w1.heap.size Ak Lk.length Lk) : ∀ W (kk : Nat) (a : Addr), Below w1.heap.size w1 W → (kk < Lk.length → ∃ b2 o2, Ak = some ⟨b2, o2, none⟩ ∧ a = ⟨b2, o2 + kk * 2, none⟩) → ∀ j u, (prCells (Lk.drop kk))[j]? = some u → W.cell? (a.add j) = some u := by
  intro W kk a hb ha j u hu
  have hlen : (prCells (Lk.drop kk)).length = (Lk.length - kk) * 2 := by rw [prCells_len, List.length_drop]
  have hj : j < (Lk.length - kk) * 2 := by
    rw [← hlen]
    exact (List.getElem?_eq_some_iff.1 hu).1
  obtain ⟨b2, o2, hA, rfl⟩ := ha (by omega)
  have hi : kk + j / 2 < Lk.length := by omega
  obtain ⟨b3, o3, hA3, hlt, c0, c1⟩ := (h.below hb).2 (kk + j / 2) hi
  rw [hA] at hA3
  injection hA3 with hA3
  injection hA3 with e1 e2
  subst e1 e2
  rw [prCells_get' _ _ (by rw [List.length_drop]; exact hj)] at hu
  injection hu with hu
  have hd : (Lk.drop kk)[j / 2]! = Lk[kk + j / 2] := by
    rw [getElem!_pos _ _ (by rw [List.length_drop]; omega)]
    simp
  rw [hd] at hu
  rw [Addr.add_lit, ← hu]
  rcases Nat.mod_two_eq_zero_or_one j with h0 | h1
  · have e : o2 + kk * 2 + j = o2 + (kk + j / 2) * 2 := by omega
    rw [e, h0]
    exact c0
  · have e : o2 + kk * 2 + j = o2 + (kk + j / 2) * 2 + 1 := by omega
    rw [e, h1]
    exact c1
theorem e5 {w1 W : World} {b2 o2 m n : Nat} {Lk : List Pr} {pk pv : List UInt8} {r : List Pr} (h : PRd w1 w1.heap.size (some ⟨b2, o2, none⟩) n Lk) (hb : Below w1.heap.size w1 W) (hd : Lk.drop m = (pk, pv) :: r) : W.cell? ⟨b2, o2 + m * 2, none⟩ = some (sV pk) := by
  have hm : m < Lk.length := by
    have := congrArg List.length hd
    simp at this
    omega
  obtain ⟨b3, o3, e, _, c0, _⟩ := (h.below hb).2 m hm
  injection e with e
  injection e with e1 e2
  subst e1 e2
  have hg : Lk[m] = (pk, pv) := by
    have := List.drop_eq_getElem_cons hm
    rw [hd] at this
    injection this with this
    exact this.symm
  rw [hg] at c0
  exact c0
theorem bytesLess_lessB (a b : List UInt8) : Op.bytesLess a b = lessB a b := by
  induction a generalizing b with
  | nil => cases b <;> rfl
  | cons x r ih =>
    cases b with
    | nil => rfl
    | cons y s => show (_ || _) = (_ || _); rw [ih]; rfl
set_option maxRecDepth 100000 in
set_option maxHeartbeats 4000000 in
theorem refLay_any (A A' : Option Addr) (n c n' c' : Nat) (L : List Pr) (l : List Chg) (w : World) (hc : n ≤ c) (hm : c ≤ 9223372036854775807) (hn' : n' ≤ 1000000) (hnl : n ≤ 1000000) (hS : Srt L) (h : PRd w w.heap.size A n L) (h' : ChRd w w.heap.size A' n' l) :
    Calls Tryz.prog 34 #[.slice A n c, .slice A' n' c'] w fun e w' => ∃ A2 c2, e = .returned (.slice A2 (layL L l).length c2) ∧ PRd w' w'.heap.size A2 (layL L l).length (layL L l) ∧ (layL L l).length ≤ c2 ∧ c2 ≤ 9223372036854775807 ∧
      (A2 = A ∨ ∀ b o, A2 = some ⟨b, o, none⟩ → w.heap.size ≤ b) ∧ Below w.heap.size w w' := by
  have HP := Lib.hid h
  have HC := Lib.hid h'
  have HSt := Lib.hid hS
  obtain ⟨i0, hi0, hz0, hz1, hz2⟩ := info_parts Tryz.infoPair
  have hl' := h'.1
  have hLl := h.1
  clear h h'
  go_enter Tryz.func34, Tryz.ntmps34
  go_wp2
  go_loopg [0, 5] n' (fun g s i wr => ∃ (k : Nat) (Ak : Option Addr) (ck : Nat), s = .slice Ak (layL L (l.take k)).length ck ∧ i = .int .i64 k ∧ k + g = n' ∧ (layL L (l.take k)).length ≤ ck ∧ ck ≤ 9223372036854775807 ∧
    Hid (PRd wr wr.heap.size Ak (layL L (l.take k)).length (layL L (l.take k))) ∧ Hid (Ak = A ∨ ∀ b o, Ak = some ⟨b, o, none⟩ → w.heap.size ≤ b) ∧ Hid (Below w.heap.size w wr))
  case atStart =>
    refine ⟨0, A, c, ?_, rfl, by omega, ?_, hm, Lib.hid ?_, Lib.hid (.inl rfl), Lib.hid (Below.refl _ _)⟩
    · show _ = Value.slice A L.length c; rw [hLl]
    · show L.length ≤ c; omega
    · show PRd _ _ A L.length L; rw [hLl]; exact HP.out
  case round =>
    obtain ⟨k, Ak, ck, rfl, rfl, hk, hck, hcm, HPk, HAk, HB⟩ := hrel
    have HSk := Lib.hid (HSt.out.layL (b := l.take k))
    by_cases hkn : k < n'
    · have hkl : k < l.length := by omega
      have hlen : (layL L (l.take k)).length ≤ 2000000 := by
        have := layL_len (l.take k) L
        rw [List.length_take] at this
        omega
      have HNext : Hid (layL L (l.take (k + 1)) = layC (layL L (l.take k)) l[k]) := Lib.hid (by rw [List.take_succ_eq_append_getElem hkl, layL_app]; rfl)
      obtain ⟨wo, hwo⟩ : ∃ W, W = wr := ⟨_, rfl⟩
      obtain ⟨g1, hg1⟩ : ∃ G, G = gk := ⟨_, rfl⟩
      subst hwo hg1
      obtain ⟨bb, o, rfl, hbw, c0, c1, c2⟩ := (HC.out.below HB.out).2 k hkl
      generalize hLk : layL L (l.take k) = Lk at *
      generalize l[k] = ch at *
      obtain ⟨ck0, cv0, cg⟩ := ch
      have c0 : wo.cell? ⟨bb, o + k * 3, none⟩ = some (sV ck0) := c0
      have c1 : wo.cell? ⟨bb, o + k * 3 + 1, none⟩ = some (sV cv0) := c1
      have c2 : wo.cell? ⟨bb, o + k * 3 + 2, none⟩ = some (.bool cg) := c2
      have hi1 : (k : Int) < (n' : Int) := by omega
      obtain ⟨w1, hw1⟩ : ∃ w1, w1 = wo.alloc (.cells #[sV ck0, sV cv0, .bool cg] 88) := ⟨_, rfl⟩
      have HBk : Hid (Bk w1 wo.heap.size 88 #[sV ck0, sV cv0, .bool cg]) := Lib.hid (by rw [hw1]; exact Bk.new _ _ _)
      have HBa : Hid (Below w.heap.size w w1) := Lib.hid (by rw [hw1]; exact HB.out.alloc HB.out.size _)
      have Hs1 : Hid (w1.heap.size = wo.heap.size + 1) := Lib.hid (by rw [hw1]; simp)
      have HPk1 : Hid (PRd w1 w1.heap.size Ak Lk.length Lk) := Lib.hid ((HPk.out.below (by rw [hw1]; exact (Below.refl _ _).alloc (Nat.le_refl _) _)).more (by rw [Hs1.out]; omega))
      have Hw1 := Lib.hid hw1
      clear hw1
      have HTail : Hid (∀ W (kk : Nat) (a : Addr), Below w1.heap.size w1 W → (kk < Lk.length → ∃ b2 o2, Ak = some ⟨b2, o2, none⟩ ∧ a = ⟨b2, o2 + kk * 2, none⟩) → ∀ j u, (prCells (Lk.drop kk))[j]? = some u → W.cell? (a.add j) = some u) := Lib.hid (tail_cells HPk1.out)
      have HEnd : Hid (∀ W v4 (Out T : List Pr), Out ++ T = layC Lk ⟨ck0, cv0, cg⟩ → W.ownsRow w1.heap.size 86 2 v4 (Out.length + T.length) (prCells Out ++ prCells T) → Below w1.heap.size w1 W → ∃ A4 c4, v4 = .slice A4 (layL L (l.take (k + 1))).length c4 ∧ (layL L (l.take (k + 1))).length ≤ c4 ∧ c4 ≤ 9223372036854775807 ∧
          Hid (PRd W W.heap.size A4 (layL L (l.take (k + 1))).length (layL L (l.take (k + 1)))) ∧ Hid (A4 = A ∨ ∀ b o, A4 = some ⟨b, o, none⟩ → w.heap.size ≤ b) ∧ Hid (Below w.heap.size w W)) := Lib.hid (fun W v4 Out T e ho hb => by
        rw [HNext.out, ← e]
        rw [← List.length_append, ← prCells_app] at ho
        obtain ⟨A4, c4, rfl, h1, h2⟩ := own_shape ho
        have hsz := HBa.out.size
        refine ⟨A4, c4, rfl, h1, by unfold maxLen at h2; omega, Lib.hid (PRd.of_own ho), Lib.hid (.inr fun b o e => ?_), Lib.hid (HBa.out.trans (hb.mono hsz))⟩
        subst e
        have := (ho.lt b rfl).1
        omega)
      go_wp2
      rw [← Hw1.out]
      go_loopg [7, 8] Lk.length (fun g2 v j wr2 => ∃ (vv : Value) (m : Nat), v = vv ∧ j = .int .i64 m ∧ m + g2 = Lk.length ∧ Hid (wr2.ownsRow w1.heap.size 86 2 vv m (prCells (Lk.take m))) ∧ Hid (Below w1.heap.size w1 wr2) ∧ Hid (∀ p ∈ Lk.take m, lessB p.1 ck0 = true))
      case atStart => exact ⟨_, 0, rfl, rfl, by omega, Lib.hid (World.ownsRow_nil _ _ _ _), Lib.hid (Below.refl _ _), Lib.hid (by simp)⟩
      case round =>
        obtain ⟨vv, m, rfl, rfl, hm2, HO, HB2, HA⟩ := hrel
        obtain ⟨Av, cv, rfl, hcv⟩ := own_shape HO.out
        have d0 : wr.cell? ⟨wo.heap.size, 0, none⟩ = some (sV ck0) := (HBk.out.below HB2.out (by rw [Hs1.out]; omega)).cell 0
        have d1 : wr.cell? ⟨wo.heap.size, 1, none⟩ = some (sV cv0) := (HBk.out.below HB2.out (by rw [Hs1.out]; omega)).cell 1
        have d2 : wr.cell? ⟨wo.heap.size, 2, none⟩ = some (.bool cg) := (HBk.out.below HB2.out (by rw [Hs1.out]; omega)).cell 2
        by_cases hmn : m < Lk.length
        · obtain ⟨b2, o2, rfl, hb2, e0, e1⟩ := (HPk1.out.below HB2.out).2 m hmn
          have hi2 : (m : Int) < (Lk.length : Int) := by omega
          have htk : Lk.take (m + 1) = Lk.take m ++ [Lk[m]] := List.take_succ_eq_append_getElem hmn
          have Htk := Lib.hid htk
          have Hdr := Lib.hid (List.drop_eq_getElem_cons hmn)
          clear htk
          generalize Lk[m] = pm at *
          obtain ⟨pk, pv⟩ := pm
          have e0 : wr.cell? ⟨b2, o2 + m * 2, none⟩ = some (sV pk) := e0
          have e1 : wr.cell? ⟨b2, o2 + m * 2 + 1, none⟩ = some (sV pv) := e1
          have hd : decide ((m : Int) < (Lk.length : Int)) = true := by simpa using hi2
          by_cases hless : lessB pk ck0 = true
          · have hbl : Op.bytesLess pk ck0 = true := by rw [bytesLess_lessB]; exact hless
            go_wp2
            go_quiet (fail)
            have HBq : Hid (Below w1.heap.size w1 ((wr.drewN nq).alloc (.cells #[sV pk, sV pv] 86))) := Lib.hid ((bel_drewN HB2.out nq).alloc HB2.out.size _)
            have hO3 : ((wr.drewN nq).alloc (.cells #[sV pk, sV pv] 86)).ownsRow w1.heap.size 86 2 (.slice Av m cv) m (prCells (Lk.take m)) := World.ownsRow.alloc (w := wr.drewN nq) HO.out _
            have hzb : w1.heap.size ≤ ((wr.drewN nq).alloc (.cells #[sV pk, sV pv] 86)).heap.size := HBq.out.size
            go_wp2_with (at_builtin; refine wpList_append_app _ rfl _ _ 57 rfl w1.heap.size 86 i0 (.agg #[.string ByteArray.empty, .string ByteArray.empty]) 2 32 Tryz.underlying57 hi0 hz0 hz1 hz2 rfl _ _ _ rfl hO3 (some ⟨wr.heap.size, 0, none⟩) 1 1 [sV pk, sV pv] rfl rfl (by intro e; cases e) (by rintro a ha; cases ha; exact cell_two_new (wr.drewN nq) _ _ _) (by intro u hu; simp at hu; rcases hu with rfl | rfl <;> rfl) (by unfold maxLen; omega) (by omega) hzb ?_)
            intro v4 w4 ha
            have HB4 : Hid (Below w1.heap.size w1 w4) := Lib.hid (ha.below HBq.out hzb (own_block_ge hO3))
            have HO4 : Hid (w4.ownsRow w1.heap.size 86 2 v4 (m + 1) (prCells (Lk.take (m + 1)))) := Lib.hid (by rw [Htk.out, prCells_snoc]; exact ha.own)
            have HA4 : Hid (∀ p ∈ Lk.take (m + 1), lessB p.1 ck0 = true) := Lib.hid (fun p hp => by
              rw [Htk.out] at hp
              rcases List.mem_append.1 hp with hp | hp
              · exact HA.out p hp
              · simp at hp; subst hp; exact hless)
            clear ha hO3 hzb HBq
            go_wp2
            go_roundg (gk - 1)
            case measure => omega
            case rel => exact ⟨_, m + 1, rfl, by go_num, by omega, HO4, HB4, HA4⟩
          · have hbl : Op.bytesLess pk ck0 = false := by rw [bytesLess_lessB]; simpa using hless
            have hbl' : ¬ Op.bytesLess pk ck0 = true := by rw [hbl]; decide
            go_wp2
            go_quiet (fail)
            have hmn' := hmn
            have hfirst : ∀ p, (Lk.drop m).head? = some p → lessB p.1 ck0 = false := by
              rw [Hdr.out]
              intro p hp
              cases hp
              simpa using hless
            have HS2 := Lib.hid (lay_split HSk.out ⟨ck0, cv0, cg⟩ m HA.out hfirst)
            clear hfirst
            have hmn' := hmn
            have hfirst : ∀ p, (Lk.drop m).head? = some p → lessB p.1 ck0 = false := by
              rw [Hdr.out]
              intro p hp
              cases hp
              simpa using hless
            have HS2 := Lib.hid (lay_split HSk.out ⟨ck0, cv0, cg⟩ m HA.out hfirst)
            clear hfirst
            have hmn' := hmn
            have hfirst : ∀ p, (Lk.drop m).head? = some p → lessB p.1 ck0 = false := by
              rw [Hdr.out]
              intro p hp
              cases hp
              simpa using hless
            have HS2 := Lib.hid (lay_split HSk.out ⟨ck0, cv0, cg⟩ m HA.out hfirst)
            clear hfirst
            have hmn' := hmn
            have hfirst : ∀ p, (Lk.drop m).head? = some p → lessB p.1 ck0 = false := by
              rw [Hdr.out]
              intro p hp
              cases hp
              simpa using hless
            have HS2 := Lib.hid (lay_split HSk.out ⟨ck0, cv0, cg⟩ m HA.out hfirst)
            clear hfirst
            have hmn' := hmn
            have hfirst : ∀ p, (Lk.drop m).head? = some p → lessB p.1 ck0 = false := by
              rw [Hdr.out]
              intro p hp
              cases hp
              simpa using hless
            have HS2 := Lib.hid (lay_split HSk.out ⟨ck0, cv0, cg⟩ m HA.out hfirst)
            clear hfirst
            cases cg with
            | true =>
              have hO3 : ∀ q, (wr.drewN q).ownsRow w1.heap.size 86 2 (.slice Av m cv) m (prCells (Lk.take m)) := fun q => HO.out
              have hB3 : ∀ q, Below w1.heap.size w1 (wr.drewN q) := fun q => bel_drewN HB2.out q
              have hzb := HB2.out.size
              by_cases heq : pk = ck0
              · have Hlay : Hid (Lk.take m ++ Lk.drop (m + 1) = layC Lk ⟨ck0, cv0, true⟩) := Lib.hid (by rw [HS2.out, Hdr.out, tailC_cons]; simp [heq])
                subst heq
                go_wp2
                go_quiet (fail)
                go_wp2_with (at_builtin; refine wpList_append_app _ rfl _ _ 57 rfl w1.heap.size 86 i0 (.agg #[.string ByteArray.empty, .string ByteArray.empty]) 2 32 Tryz.underlying57 hi0 hz0 hz1 hz2 rfl _ _ _ rfl (hO3 _) _ (Lk.length - (m + 1)) _ (prCells (Lk.drop (m + 1))) rfl (by rw [prCells_len, List.length_drop]) ?_ ?_ (by intro u hu; exact prCells_one hu) (by unfold maxLen; omega) (by omega) hzb ?_)
                all_goals first
                  | (intro v4 w4 ha
                     obtain ⟨A4, c4, rfl, q1, q2, q3, q4, q5⟩ := HEnd.out w4 v4 (Lk.take m) (Lk.drop (m + 1)) Hlay.out (by have := ha.own; simpa [Nat.min_eq_left (Nat.le_of_lt hmn')] using this) (ha.below (hB3 _) hzb (own_block_ge (hO3 0)))
                     clear ha hO3 hB3 hzb
                     go_wp2
                     go_roundg (g1 - 1)
                     case measure => omega
                     case rel => exact ⟨k + 1, A4, c4, rfl, by go_num, by omega, q1, q2, q3, q4, q5⟩)
                  | (intro j u hu; have := HTail.out wr (m + 1) ⟨b2, o2, none⟩ HB2.out (fun h => by omega) j u hu; rw [Addr.add_lit] at this; exact this)
                  | (intro j u hu; have := HTail.out wr (m + 1) ⟨b2, o2 + ((m + 1)) * 2, none⟩ HB2.out (fun h => ⟨b2, o2, rfl, rfl⟩) j u hu; rw [Addr.add_lit] at this; exact this)
                  | (intro a ha; cases ha; intro j u hu; exact HTail.out _ (m + 1) _ (hB3 _) (fun h => ⟨b2, o2, rfl, rfl⟩) j u hu)
                  | (intro a ha; split at ha <;> cases ha <;> intro j u hu <;> first | exact HTail.out _ (m + 1) _ (hB3 _) (fun h => ⟨b2, o2, rfl, rfl⟩) j u hu | exact HTail.out _ (m + 1) _ (hB3 _) (fun h => by omega) j u hu)
                  | (intro h; cases h)
                  | (trace_state; fail)
              · have Hlay : Hid (Lk.take m ++ Lk.drop m = layC Lk ⟨ck0, cv0, true⟩) := Lib.hid (by rw [HS2.out, Hdr.out, tailC_cons]; simp [heq])
                have hne1 : (pk == ck0) = false := by simpa using heq
                go_wp2
                go_quiet (fail)

                go_wp2_with (at_builtin; refine wpList_append_app _ rfl _ _ 57 rfl w1.heap.size 86 i0 (.agg #[.string ByteArray.empty, .string ByteArray.empty]) 2 32 Tryz.underlying57 hi0 hz0 hz1 hz2 rfl _ _ _ rfl (hO3 _) _ (Lk.length - m) _ (prCells (Lk.drop m)) rfl (by rw [prCells_len, List.length_drop]) ?_ ?_ (by intro u hu; exact prCells_one hu) (by unfold maxLen; omega) (by omega) hzb ?_)
                all_goals first
                  | (intro v4 w4 ha
                     obtain ⟨A4, c4, rfl, q1, q2, q3, q4, q5⟩ := HEnd.out w4 v4 (Lk.take m) (Lk.drop m) Hlay.out (by have := ha.own; simpa [Nat.min_eq_left (Nat.le_of_lt hmn')] using this) (ha.below (hB3 _) hzb (own_block_ge (hO3 0)))
                     clear ha hO3 hB3 hzb
                     go_wp2
                     go_roundg (g1 - 1)
                     case measure => omega
                     case rel => exact ⟨k + 1, A4, c4, rfl, by go_num, by omega, q1, q2, q3, q4, q5⟩)
                  | (intro j u hu; have := HTail.out wr m ⟨b2, o2, none⟩ HB2.out (fun h => by omega) j u hu; rw [Addr.add_lit] at this; exact this)
                  | (intro j u hu; have := HTail.out wr m ⟨b2, o2 + (m) * 2, none⟩ HB2.out (fun h => ⟨b2, o2, rfl, rfl⟩) j u hu; rw [Addr.add_lit] at this; exact this)
                  | (intro a ha; cases ha; intro j u hu; exact HTail.out _ m _ (hB3 _) (fun h => ⟨b2, o2, rfl, rfl⟩) j u hu)
                  | (intro a ha; split at ha <;> cases ha <;> intro j u hu <;> first | exact HTail.out _ m _ (hB3 _) (fun h => ⟨b2, o2, rfl, rfl⟩) j u hu | exact HTail.out _ m _ (hB3 _) (fun h => by omega) j u hu)
                  | (intro h; cases h)
                  | (trace_state; fail)
            | false =>
              have HBq : Hid (∀ q, Below w1.heap.size w1 ((wr.drewN q).alloc (.cells #[sV ck0, sV cv0] 86))) := Lib.hid (fun q => (bel_drewN HB2.out q).alloc HB2.out.size _)
              have hO2 : ∀ q, ((wr.drewN q).alloc (.cells #[sV ck0, sV cv0] 86)).ownsRow w1.heap.size 86 2 (.slice Av m cv) m (prCells (Lk.take m)) := fun q => World.ownsRow.alloc (w := wr.drewN q) HO.out _
              have hzb2 : ∀ q, w1.heap.size ≤ ((wr.drewN q).alloc (.cells #[sV ck0, sV cv0] 86)).heap.size := fun q => (HBq.out q).size
              go_wp2_with (at_builtin; refine wpList_append_app _ rfl _ _ 57 rfl w1.heap.size 86 i0 (.agg #[.string ByteArray.empty, .string ByteArray.empty]) 2 32 Tryz.underlying57 hi0 hz0 hz1 hz2 rfl _ _ _ rfl (hO2 _) (some ⟨wr.heap.size, 0, none⟩) 1 1 [sV ck0, sV cv0] rfl rfl (by intro e; cases e) (by rintro a ha; cases ha; exact cell_two_new (wr.drewN _) _ _ _) (by intro u hu; simp at hu; rcases hu with rfl | rfl <;> rfl) (by unfold maxLen; omega) (by omega) (hzb2 _) ?_)
              intro v5 w5 ha5
              obtain ⟨A5, c5, rfl, hc5⟩ := own_shape ha5.own
              have HB5 : Hid (Below w1.heap.size w1 w5) := Lib.hid (ha5.below (HBq.out _) (hzb2 _) (own_block_ge (hO2 0)))
              have HO5 : Hid (w5.ownsRow w1.heap.size 86 2 (.slice A5 (m + 1) c5) (m + 1) (prCells (Lk.take m ++ [(ck0, cv0)]))) := Lib.hid (by rw [prCells_snoc]; exact ha5.own)
              have hzb := HB5.out.size
              have hO3 : ∀ q, (w5.drewN q).ownsRow w1.heap.size 86 2 (.slice A5 (m + 1) c5) (m + 1) (prCells (Lk.take m ++ [(ck0, cv0)])) := fun q => HO5.out
              have hB3 : ∀ q, Below w1.heap.size w1 (w5.drewN q) := fun q => bel_drewN HB5.out q
              clear ha5 hO2 hzb2 d0 d1 d2 e0 e1
              have e0 : w5.cell? ⟨b2, o2 + m * 2, none⟩ = some (sV pk) := e5 HPk1.out HB5.out Hdr.out
              have d0 : w5.cell? ⟨wo.heap.size, 0, none⟩ = some (sV ck0) := (HBk.out.below HB5.out (by rw [Hs1.out]; omega)).cell 0
              by_cases heq : pk = ck0
              · have Hlay : Hid ((Lk.take m ++ [(ck0, cv0)]) ++ Lk.drop (m + 1) = layC Lk ⟨ck0, cv0, false⟩) := Lib.hid (by rw [HS2.out, Hdr.out, tailC_cons]; simp [heq])
                subst heq
                go_wp2
                go_quiet (fail)
                go_wp2_with (at_builtin; refine wpList_append_app _ rfl _ _ 57 rfl w1.heap.size 86 i0 (.agg #[.string ByteArray.empty, .string ByteArray.empty]) 2 32 Tryz.underlying57 hi0 hz0 hz1 hz2 rfl _ _ _ rfl (hO3 _) _ (Lk.length - (m + 1)) _ (prCells (Lk.drop (m + 1))) rfl (by rw [prCells_len, List.length_drop]) ?_ ?_ (by intro u hu; exact prCells_one hu) (by unfold maxLen; omega) (by omega) hzb ?_)
                all_goals first
                  | (intro v4 w4 ha
                     obtain ⟨A4, c4, rfl, q1, q2, q3, q4, q5⟩ := HEnd.out w4 v4 (Lk.take m ++ [(pk, cv0)]) (Lk.drop (m + 1)) Hlay.out (by have := ha.own; simpa [Nat.min_eq_left (Nat.le_of_lt hmn')] using this) (ha.below (hB3 _) hzb (own_block_ge (hO3 0)))
                     clear ha hO3 hB3 hzb
                     go_wp2
                     go_roundg (g1 - 1)
                     case measure => omega
                     case rel => exact ⟨k + 1, A4, c4, rfl, by go_num, by omega, q1, q2, q3, q4, q5⟩)
                  | (intro j u hu; have := HTail.out w5 (m + 1) ⟨b2, o2, none⟩ HB5.out (fun h => by omega) j u hu; rw [Addr.add_lit] at this; exact this)
                  | (intro j u hu; have := HTail.out w5 (m + 1) ⟨b2, o2 + ((m + 1)) * 2, none⟩ HB5.out (fun h => ⟨b2, o2, rfl, rfl⟩) j u hu; rw [Addr.add_lit] at this; exact this)
                  | (intro a ha; cases ha; intro j u hu; exact HTail.out _ (m + 1) _ (hB3 _) (fun h => ⟨b2, o2, rfl, rfl⟩) j u hu)
                  | (intro a ha; split at ha <;> cases ha <;> intro j u hu <;> first | exact HTail.out _ (m + 1) _ (hB3 _) (fun h => ⟨b2, o2, rfl, rfl⟩) j u hu | exact HTail.out _ (m + 1) _ (hB3 _) (fun h => by omega) j u hu)
                  | (intro h; cases h)
                  | (trace_state; fail)
              · have Hlay : Hid ((Lk.take m ++ [(ck0, cv0)]) ++ Lk.drop m = layC Lk ⟨ck0, cv0, false⟩) := Lib.hid (by rw [HS2.out, Hdr.out, tailC_cons]; simp [heq])
                have hne1 : (pk == ck0) = false := by simpa using heq
                go_wp2
                go_quiet (fail)
                go_wp2_with (at_builtin; refine wpList_append_app _ rfl _ _ 57 rfl w1.heap.size 86 i0 (.agg #[.string ByteArray.empty, .string ByteArray.empty]) 2 32 Tryz.underlying57 hi0 hz0 hz1 hz2 rfl _ _ _ rfl (hO3 _) _ (Lk.length - m) _ (prCells (Lk.drop m)) rfl (by rw [prCells_len, List.length_drop]) ?_ ?_ (by intro u hu; exact prCells_one hu) (by unfold maxLen; omega) (by omega) hzb ?_)
                all_goals first
                  | (intro v4 w4 ha
                     obtain ⟨A4, c4, rfl, q1, q2, q3, q4, q5⟩ := HEnd.out w4 v4 (Lk.take m ++ [(ck0, cv0)]) (Lk.drop m) Hlay.out (by have := ha.own; simpa [Nat.min_eq_left (Nat.le_of_lt hmn')] using this) (ha.below (hB3 _) hzb (own_block_ge (hO3 0)))
                     clear ha hO3 hB3 hzb
                     go_wp2
                     go_roundg (g1 - 1)
                     case measure => omega
                     case rel => exact ⟨k + 1, A4, c4, rfl, by go_num, by omega, q1, q2, q3, q4, q5⟩)
                  | (intro j u hu; have := HTail.out w5 m ⟨b2, o2, none⟩ HB5.out (fun h => by omega) j u hu; rw [Addr.add_lit] at this; exact this)
                  | (intro j u hu; have := HTail.out w5 m ⟨b2, o2 + (m) * 2, none⟩ HB5.out (fun h => ⟨b2, o2, rfl, rfl⟩) j u hu; rw [Addr.add_lit] at this; exact this)
                  | (intro a ha; cases ha; intro j u hu; exact HTail.out _ m _ (hB3 _) (fun h => ⟨b2, o2, rfl, rfl⟩) j u hu)
                  | (intro a ha; split at ha <;> cases ha <;> intro j u hu <;> first | exact HTail.out _ m _ (hB3 _) (fun h => ⟨b2, o2, rfl, rfl⟩) j u hu | exact HTail.out _ m _ (hB3 _) (fun h => by omega) j u hu)
                  | (intro h; cases h)
                  | (trace_state; fail)
        · have hme : m = Lk.length := by omega
          subst hme
          have HS2 := Lib.hid (lay_split HSk.out ⟨ck0, cv0, cg⟩ Lk.length HA.out (by simp))
          have hd : decide ((Lk.length : Int) < (Lk.length : Int)) = false := by simp
          have htl : Lk.take Lk.length = Lk := List.take_length
          cases cg with
          | true =>
            have hO3 : ∀ q, (wr.drewN q).ownsRow w1.heap.size 86 2 (.slice Av Lk.length cv) Lk.length (prCells Lk) := fun q => by have := HO.out; rw [htl] at this; exact this
            have hB3 : ∀ q, Below w1.heap.size w1 (wr.drewN q) := fun q => bel_drewN HB2.out q
            have hzb := HB2.out.size
            have Hlay : Hid (Lk ++ [] = layC Lk ⟨ck0, cv0, true⟩) := Lib.hid (by rw [HS2.out]; simp [tailC])
            clear htl
            go_wp2
            go_quiet (fail)
            go_wp2
            go_quiet (fail)
            go_wp2_with (at_builtin; refine wpList_append_app _ rfl _ _ 57 rfl w1.heap.size 86 i0 (.agg #[.string ByteArray.empty, .string ByteArray.empty]) 2 32 Tryz.underlying57 hi0 hz0 hz1 hz2 rfl _ _ _ rfl (hO3 _) _ _ _ [] rfl (by simp) (by intros; simp) (by intro a ha j u hu; simp at hu) (by intro u hu; simp at hu) (by unfold maxLen; omega) (by omega) hzb ?_)
            all_goals
              intro v4 w4 ha
              obtain ⟨A4, c4, rfl, q1, q2, q3, q4, q5⟩ := HEnd.out w4 v4 Lk [] Hlay.out (by have := ha.own; rw [show prCells ([] : List Pr) = [] from rfl]; simpa using this) (ha.below (hB3 _) hzb (own_block_ge (hO3 0)))
              clear ha hO3 hB3 hzb
              go_wp2
              go_roundg (g1 - 1)
              case measure => omega
              case rel => exact ⟨k + 1, A4, c4, rfl, by go_num, by omega, q1, q2, q3, q4, q5⟩
          | false =>
            have HBq : Hid (∀ q, Below w1.heap.size w1 ((wr.drewN q).alloc (.cells #[sV ck0, sV cv0] 86))) := Lib.hid (fun q => (bel_drewN HB2.out q).alloc HB2.out.size _)
            have hO2 : ∀ q, ((wr.drewN q).alloc (.cells #[sV ck0, sV cv0] 86)).ownsRow w1.heap.size 86 2 (.slice Av Lk.length cv) Lk.length (prCells Lk) := fun q => World.ownsRow.alloc (w := wr.drewN q) (by have := HO.out; rw [htl] at this; exact this) _
            have hzb2 : ∀ q, w1.heap.size ≤ ((wr.drewN q).alloc (.cells #[sV ck0, sV cv0] 86)).heap.size := fun q => (HBq.out q).size
            have Hlay : Hid ((Lk ++ [(ck0, cv0)]) ++ [] = layC Lk ⟨ck0, cv0, false⟩) := Lib.hid (by rw [HS2.out]; simp [tailC])
            clear htl
            go_wp2
            go_quiet (fail)
            go_wp2_with (at_builtin; refine wpList_append_app _ rfl _ _ 57 rfl w1.heap.size 86 i0 (.agg #[.string ByteArray.empty, .string ByteArray.empty]) 2 32 Tryz.underlying57 hi0 hz0 hz1 hz2 rfl _ _ _ rfl (hO2 _) (some ⟨wr.heap.size, 0, none⟩) 1 1 [sV ck0, sV cv0] rfl rfl (by intro e; cases e) (by rintro a ha; cases ha; exact cell_two_new (wr.drewN _) _ _ _) (by intro u hu; simp at hu; rcases hu with rfl | rfl <;> rfl) (by unfold maxLen; omega) (by omega) (hzb2 _) ?_)
            intro v5 w5 ha5
            obtain ⟨A5, c5, rfl, hc5⟩ := own_shape ha5.own
            have HB5 : Hid (Below w1.heap.size w1 w5) := Lib.hid (ha5.below (HBq.out _) (hzb2 _) (own_block_ge (hO2 0)))
            have HO5 : Hid (w5.ownsRow w1.heap.size 86 2 (.slice A5 (Lk.length + 1) c5) (Lk.length + 1) (prCells (Lk ++ [(ck0, cv0)]))) := Lib.hid (by rw [prCells_snoc]; exact ha5.own)
            have hzb := HB5.out.size
            have hO3 : ∀ q, (w5.drewN q).ownsRow w1.heap.size 86 2 (.slice A5 (Lk.length + 1) c5) (Lk.length + 1) (prCells (Lk ++ [(ck0, cv0)])) := fun q => HO5.out
            have hB3 : ∀ q, Below w1.heap.size w1 (w5.drewN q) := fun q => bel_drewN HB5.out q
            clear ha5 hO2 hzb2 d0 d1 d2
            go_wp2
            go_quiet (fail)
            go_wp2_with (at_builtin; refine wpList_append_app _ rfl _ _ 57 rfl w1.heap.size 86 i0 (.agg #[.string ByteArray.empty, .string ByteArray.empty]) 2 32 Tryz.underlying57 hi0 hz0 hz1 hz2 rfl _ _ _ rfl (hO3 _) _ _ _ [] rfl (by simp) (by intros; simp) (by intro a ha j u hu; simp at hu) (by intro u hu; simp at hu) (by unfold maxLen; omega) (by omega) hzb ?_)
            all_goals
              intro v4 w4 ha
              obtain ⟨A4, c4, rfl, q1, q2, q3, q4, q5⟩ := HEnd.out w4 v4 (Lk ++ [(ck0, cv0)]) [] Hlay.out (by have := ha.own; rw [show prCells ([] : List Pr) = [] from rfl]; simpa using this) (ha.below (hB3 _) hzb (own_block_ge (hO3 0)))
              clear ha hO3 hB3 hzb
              go_wp2
              go_roundg (g1 - 1)
              case measure => omega
              case rel => exact ⟨k + 1, A4, c4, rfl, by go_num, by omega, q1, q2, q3, q4, q5⟩
    · have hkn2 : k = n' := by omega
      subst hkn2
      have hte : l.take k = l := by rw [← hl', List.take_length]
      rw [hte] at hck HPk ⊢
      go_wp2
      go_ret
      exact ⟨Ak, ck, rfl, HPk.out, hck, hcm, HAk.out, HB.out⟩
end Go.Proofs.YtfepjgafamaegaaGreat

/- The document's store: as it lies in memory; Open. -/
namespace Go.Proofs.YtfepjgafamaegaaGreat
open Go.RowKit

theorem PRd.kp {w w' : World} {B B' n : Nat} {A : Option Addr} {L : List Pr} {K : Nat → Prop} (h : PRd w B A n L) (hk : Kp K w w') (hB : B ≤ w.heap.size) (hB' : B ≤ B') (hd : ∀ b o, A = some ⟨b, o, none⟩ → ¬ K b) : PRd w' B' A n L :=
  ⟨h.1, fun i hi => by
    obtain ⟨b, o, e, hlt, h1, h2⟩ := h.2 i hi
    have := hk.block b (by omega) (hd b o e)
    exact ⟨b, o, e, by omega, by rw [World.cell?_of_block (a := ⟨b, o + i * 2, none⟩) this]; exact h1, by rw [World.cell?_of_block (a := ⟨b, o + i * 2 + 1, none⟩) this]; exact h2⟩⟩
/-- The document's store at block gr over the disk at M: the log s, the pairs m. -/
def RSt (w : World) (H : Nat → Prop) (gr M : Nat) (d : Dk) (s : Lg) (m : List Pr) (dead : Bool) : Prop :=
  ∃ H0 lg A c, Bk w gr 59 #[.pointer (some ⟨lg, 0, none⟩), .slice A m.length c, .bool dead] ∧ RB w H0 lg M d s ∧ PRd w w.heap.size A m.length m ∧ (m.length ≤ c ∧ c ≤ 9223372036854775807) ∧ ¬ H0 gr ∧ (0 < m.length → ∀ b o, A = some ⟨b, o, none⟩ → ¬ H0 b ∧ b ≠ gr ∧ H b) ∧ (∀ k, H0 k → H k) ∧ H gr ∧ ∀ k, H k → k < w.heap.size
theorem RSt.kp {w w' : World} {H K : Nat → Prop} {gr M : Nat} {d : Dk} {s : Lg} {m : List Pr} {dead : Bool} (h : RSt w H gr M d s m dead) (hk : Kp K w w') (hd : ∀ k, H k → ¬ K k) : RSt w' H gr M d s m dead := by
  obtain ⟨H0, lg, A, c, h1, h2, h3, h4, h5, h6, h7, h8, h9⟩ := h
  refine ⟨H0, lg, A, c, h1.kp hk (hd _ h8), h2.kp hk fun k e => hd k (h7 k e), ?_, h4, h5, h6, h7, h8, fun k e => Nat.lt_of_lt_of_le (h9 k e) hk.size⟩
  by_cases h0 : 0 < m.length
  · exact h3.kp hk (Nat.le_refl _) hk.size fun b o e => hd b ((h6 h0 b o e).2.2)
  · exact ⟨rfl, fun i hi => absurd hi (by omega)⟩
theorem RSt.below {w w' : World} {H : Nat → Prop} {gr M : Nat} {d : Dk} {s : Lg} {m : List Pr} {dead : Bool} (h : RSt w H gr M d s m dead) (hb : Below w.heap.size w w') : RSt w' H gr M d s m dead := h.kp (K := fun _ => False) (Kp.of_below hb) fun _ _ h => h
theorem RSt.lt {w : World} {H : Nat → Prop} {gr M : Nat} {d : Dk} {s : Lg} {m : List Pr} {dead : Bool} (h : RSt w H gr M d s m dead) : ∀ k, H k → k < w.heap.size := by
  obtain ⟨H0, lg, A, c, h1, h2, h3, h4, h5, h6, h7, h8, h9⟩ := h
  exact h9
def ROpenedS (w : World) (F : Nat → Prop) (M : Nat) (d : Dk) (e : Ending) (w' : World) : Prop :=
  (∃ F', RD w' F' M (openS d).2.2 ∧ Mv F F' w w' ∧ (openS d).2.1 = none ∧ e = .returned (.tuple #[.pointer none, .int .i64 (openS d).1])) ∨
  (∃ s m g H, (openS d).2.1 = some (s, m) ∧ e = .returned (.tuple #[.pointer (some ⟨g, 0, none⟩), .int .i64 (openS d).1]) ∧ RSt w' H g M (openS d).2.2 s m false ∧ Mv F H w w')

theorem LstV.at_ {w : World} {G : Nat → Prop} {v : Value} {vals : List Value} {ls : List (List UInt8)} (h : LstV w G v vals ls) (i : Nat) (hi : i < ls.length) : ∃ R c A n c', v = .slice (some ⟨R, 0, none⟩) ls.length c ∧ w.cell? ⟨R, i, none⟩ = some (.slice A n c') ∧ n ≤ c' ∧ c' ≤ 9223372036854775807 ∧ Rd w w.heap.size A n ls[i] := by
  have hl := h.len
  have hiv : i < vals.length := by omega
  obtain ⟨A, n, c', hx, ho, _⟩ := h.each i _ (List.getElem?_eq_getElem hiv)
  have eg : ls.getD i [] = ls[i] := by simp [List.getD, hi]
  rw [eg] at ho
  rcases h.row.2 with ⟨_, h0⟩ | ⟨g, cap, cur, hv, _, _⟩
  · omega
  · have hc := h.row.cells (g := g) (by rw [hv]; rfl) i _ (List.getElem?_eq_getElem hiv)
    rw [Addr.add_lit, Nat.zero_add, hx] at hc
    obtain ⟨A', c2, e, q1, q2⟩ := own_shape ho
    injection e with _ _ e
    subst e
    exact ⟨g, cap, A, n, c', by rw [hv, hl], hc, q1, by unfold maxLen at q2; omega, Rd.of_own ho⟩

theorem sopenL_waits (d : Dk) : d.openL.2.2.waits.length ≤ d.waits.length + d.half := by
  have h2 : d.wiped.2.2.waits.length ≤ d.waits.length + d.half := wipe_waits _ _ _ _ _ _ _
  have hs : ∀ d : Dk, d.sync.2.waits.length ≤ d.waits.length := fun d => by
    unfold Dk.sync
    split
    · simp
    · simp [d.act_same.2]
  have h3 := hs d.wiped.2.2
  unfold Dk.openL
  split
  · simp
  split
  · simp
  split
  · exact h2
  split
  · exact h2
  split
  · exact Nat.le_trans h3 h2
  · exact Nat.le_trans h3 h2
theorem sopenL_down {d : Dk} {s : Lg} (h : d.openL.2.1 = some s) : d.openL.2.2.down = false ∧ s.gone = false := by
  have hs0 : ∀ d : Dk, d.down = false → ∀ (b c : List UInt8) (base k i : Nat) (z : Bool), (wipeS b c base i k z d).1 = 0 → (wipeS b c base i k z d).2.2.down = false := by
    intro d hd b c base k
    induction k generalizing d with
    | zero => intro i z _; exact hd
    | succ k ih =>
      intro i z h
      by_cases h1 : chunk b i = chunk c i
      · rw [wipe_same h1] at h ⊢; exact ih d hd _ _ h
      · by_cases h2 : (d.write ((base + i : Nat) : Int) (chunk c i)).1 = 0
        · rw [wipe_next h1 h2] at h ⊢
          exact ih _ (write_ok h2).2.2.2.2.2 _ _ h
        · rw [wipe_stop h1 h2] at h; exact absurd h h2
  unfold Dk.openL at h ⊢
  split
  · rename_i h1; rw [if_pos h1] at h; cases h
  rename_i h1
  rw [if_neg h1] at h
  split
  · rename_i h2; rw [if_pos h2] at h; cases h
  rename_i h2
  rw [if_neg h2] at h
  split
  · rename_i h3; rw [if_pos h3] at h; cases h
  rename_i h3
  rw [if_neg h3] at h
  have hw : d.wiped.2.2.down = false := hs0 d (by simpa using h2) _ _ _ _ _ _ (Classical.byContradiction h3)
  split
  · rename_i h4; rw [if_pos h4] at h; injection h with h; subst h; exact ⟨hw, rfl⟩
  rename_i h4
  rw [if_neg h4] at h
  split
  · rename_i h5; rw [if_pos h5] at h; cases h
  rename_i h5
  rw [if_neg h5] at h
  injection h with h
  subst h
  exact ⟨sync_down (Classical.byContradiction h5), rfl⟩

set_option maxRecDepth 100000 in
set_option maxHeartbeats 4000000 in
theorem ropenS_any (M : Nat) (d : Dk) (F : Nat → Prop) (w : World) (hwl : d.waits.length ≤ 800000000) (h : RD w F M d) :
    Calls Tryz.prog 74 #[.pointer (some ⟨M, 0, none⟩)] w (ROpenedS w F M d) := by
  have HO := Lib.hid (ropen_any M d F w (by omega) h)
  unfold ROpened at HO
  have HFlt := Lib.hid h.lt
  have hlen := h.len
  cases ho : d.openL.2.1 with
  | none =>
    have HE : Hid (openS d = (d.openL.1, none, d.openL.2.2)) := by show _ = _; unfold openS; rw [ho]
    have hne : d.openL.1 ≠ 0 := by
      intro h0
      rw [openL_after] at ho h0
      split at ho
      · rename_i h1; rw [if_pos h1] at h0; cases h0
      · rename_i h1
        rw [if_neg h1] at h0
        split at ho
        · rename_i h2; rw [if_pos h2] at h0; cases h0
        · rename_i h2
          rw [if_neg h2] at h0
          split at ho
          · simp at ho
          · rename_i h3; rw [if_neg h3] at h0; exact h3 h0
    rw [ho] at HO
    generalize d.openL = o at *
    obtain ⟨o1, o2, o3⟩ := o
    have hne' : (o1 != 0) = true := by simpa using hne
    clear h ho hne
    go_enter Tryz.func74, Tryz.ntmps74
    go_wp2_with fail
    refine HO.out.mono ?_
    rintro x w' ⟨F', hp, hmv, ⟨-, rfl⟩ | ⟨s, g, G, v, vals, hs, _⟩⟩
    · have Hp := Lib.hid hp
      have Hmv := Lib.hid hmv
      clear hp hmv HO
      go_wp2
      go_ret2
      unfold ROpenedS
      rw [HE.out]
      exact .inl ⟨F', Hp.out, Hmv.out, rfl, rfl⟩
    · cases hs
  | some s =>
    have hz : d.openL.1 = 0 := by
      rw [openL_after] at ho ⊢
      split at ho
      · simp at ho
      · rename_i h1
        rw [if_neg h1]
        split at ho
        · simp at ho
        · rename_i h2
          rw [if_neg h2]
          split at ho
          · rename_i h3; rw [if_pos h3]
          · simp at ho
    have hdn : d.openL.2.2.down = false ∧ s.gone = false := sopenL_down ho
    have HE : Hid (openS d = if allDec s.recs = true then (0, some (s, replS [] s.recs), d.openL.2.2) else (50, none, d.openL.2.2)) := by show _ = _; unfold openS; rw [ho]
    rw [ho] at HO
    have hby : d.openL.2.2.bytes = d.bytes := bytes_of (sopenL_len d)
    generalize d.openL = o at *
    obtain ⟨o1, o2, o3⟩ := o
    have hz : o1 = 0 := hz
    subst hz
    have HE : Hid (openS d = if allDec s.recs = true then (0, some (s, replS [] s.recs), o3) else (50, none, o3)) := HE
    have hby : o3.bytes = d.bytes := hby
    have hdn : o3.down = false ∧ s.gone = false := hdn
    have Hdn := Lib.hid hdn
    clear h ho hdn
    go_enter Tryz.func74, Tryz.ntmps74
    go_wp2_with fail
    refine HO.out.mono ?_
    rintro x w1 ⟨F', hp, hmv, ⟨h0, _⟩ | ⟨s', lg, G, v, vals, hs, rfl, hl, hG1, hG2⟩⟩
    · cases h0
    obtain rfl : s = s' := Option.some.inj hs
    clear hs HO
    have hok := hl.ok
    have HSm := Lib.hid hok.small
    have hcnt := usedF_count s.recs
    have hn : s.recs.length ≤ 4000 := by have := hok.fits; have : d.bytes ≤ 40000 := by (unfold Dk.bytes Dk.half halfN; omega)
                                         omega
    have hpb : RB w1 (fun k => F' k ∨ G k) lg M o3 s := ⟨F', G, v, vals, hp, by rw [hby]; exact hl, fun k h1 h2 => hG2 k h2 h1, fun k e => .inl e, fun k e => .inr e, fun k e => e.elim (hp.lt k) (hl.lt k), fun _ => Hdn.out.1⟩
    have hblk := hl.blk
    have c2 : w1.cell? ⟨lg, 2, none⟩ = some v := hblk.cell 2
    have HL := Lib.hid hl.lst
    have HHlt : Hid (∀ k, (F' k ∨ G k) → k < w1.heap.size) := Lib.hid fun k e => e.elim (hp.lt k) (hl.lt k)
    have Hmv := Lib.hid hmv
    have HPB := Lib.hid hpb
    have HP := Lib.hid hp
    have HG1 := Lib.hid hG1
    have HB := Lib.hid hblk
    have Hself := Lib.hid hl.self
    clear hp hmv hpb hG1 hG2 hl hok hblk hcnt
    obtain ⟨n, hnn⟩ : ∃ n, n = s.recs.length := ⟨_, rfl⟩
    obtain ⟨Av, cv, hv, _⟩ := own_shape HL.out.row
    rw [HL.out.len, ← hnn] at hv
    rw [← hnn] at hn
    have Hnn := Lib.hid hnn
    rw [hv] at c2
    have Hv := Lib.hid hv
    have hW3 : Below w1.heap.size w1 (w1.alloc (.cells #[.pointer (some ⟨lg, 0, none⟩), .slice none 0 0, .bool false] 59)) := (Below.refl _ _).alloc (Nat.le_refl _) _
    have hbk : Bk (w1.alloc (.cells #[.pointer (some ⟨lg, 0, none⟩), .slice none 0 0, .bool false] 59)) w1.heap.size 59 #[.pointer (some ⟨lg, 0, none⟩), .slice none 0 0, .bool false] := Bk.new _ _ _
    have HW3 := Lib.hid hW3
    have HK3 := Lib.hid hbk
    clear hnn hv hW3 hbk
    go_upto_region 6 with (fail)
    generalize w1.alloc (.cells #[.pointer (some ⟨lg, 0, none⟩), .slice none 0 0, .bool false] 59) = W4 at *
    have HPB4 := Lib.hid (HPB.out.below HW3.out)
    have HL4 := Lib.hid (HL.out.kp (K := fun _ => False) (Kp.of_below HW3.out) fun _ _ h => h)
    have HB4 := Lib.hid (HB.out.below HW3.out HB.out.lt)
    have hsz4 := HW3.out.size
    have hk4lt := HK3.out.lt
    go_loopg [7] n (fun g i wr => ∃ (k m c : Nat) (A : Option Addr), i = .int .i64 k ∧ k + g = n ∧ Hid (allDec (s.recs.take k) = true) ∧ Hid (Bk wr w1.heap.size 59 #[.pointer (some ⟨lg, 0, none⟩), .slice A m c, .bool false]) ∧ Hid (m = (replS [] (s.recs.take k)).length) ∧ m ≤ c ∧ c ≤ 9223372036854775807 ∧ Hid (PRd wr wr.heap.size A m (replS [] (s.recs.take k))) ∧
      Hid (∀ b o, A = some ⟨b, o, none⟩ → W4.heap.size ≤ b) ∧ Hid (Kp (fun k => k = w1.heap.size) W4 wr))
    case atStart => exact ⟨0, 0, 0, none, rfl, by omega, Lib.hid rfl, HK3, Lib.hid rfl, Nat.le_refl _, by omega, Lib.hid ⟨rfl, fun i hi => by simp [replS] at hi⟩, Lib.hid (fun b o e => by cases e), Lib.hid (Kp.refl _ _)⟩
    case round =>
      obtain ⟨k, m, c, A, rfl, hk, HA, HK, HM, hmc, hcm, HR, HAn, HW⟩ := hrel
      have hlgne : lg ≠ w1.heap.size := by have := HB.out.lt; omega
      have hL := HL4.out.kp HW.out (fun k e e2 => by have := HHlt.out k (.inr e); omega)
      have hB := HB4.out.kp HW.out hlgne
      have c2 : wr.cell? ⟨lg, 2, none⟩ = some (.slice Av n cv) := by rw [← Hv.out]; exact hB.cell 2
      by_cases hkn : k < n
      · have hkl : k < s.recs.length := by rw [← Hnn.out]; exact hkn
        obtain ⟨R, cc, A', n', c', hv1, d0, hn', hc', hrd⟩ := hL.at_ k hkl
        rw [← Hnn.out] at hv1
        have hv2 := Hv.out.symm.trans hv1
        injection hv2 with e1 _ e3
        subst e1 e3
        have hsm : s.recs[k].length ≤ 1024 := HSm.out _ (List.getElem_mem _)
        have hrl := hrd.1
        have HD := Lib.hid (refDecode_any A' n' c' s.recs[k] wr hn' hc' (by omega) hrd)
        have hA1 := allDec_take hkl
        have hR1 := replS_take (L := []) hkl
        have hdl := decode_len s.recs[k]
        have hrlen := replS_len (s.recs.take k) []
        have HNo : Hid ((decodeS s.recs[k]).2 ≠ 0 → openS d = ((decodeS s.recs[k]).2, none, o3)) := by
          refine Lib.hid fun hne => ?_
          have h50 : (decodeS s.recs[k]).2 = 50 := by
            rcases decode_cases s.recs[k] with ⟨l, h1, _⟩ | h1
            · rw [h1] at hne; exact absurd rfl hne
            · rw [h1]
          rw [HE.out, h50, if_neg]
          intro hall
          have : decide ((decodeS s.recs[k]).2 = 0) = true := List.all_eq_true.1 hall _ (List.getElem_mem _)
          exact hne (of_decide_eq_true this)
        rw [HA.out, Bool.true_and] at hA1
        have hml : m ≤ 200000 := by
          have e := HM.out
          simp only [List.length_take, List.length_nil] at hrlen
          omega
        have hkn1 : (k : Int) < (n : Int) := by omega
        generalize s.recs[k] = r at *
        generalize decodeS r = dr at *
        obtain ⟨dl, de⟩ := dr
        have HA1 : Hid (allDec (s.recs.take (k + 1)) = decide (de = 0)) := Lib.hid hA1
        have HR1 : Hid (replS [] (s.recs.take (k + 1)) = layL (replS [] (s.recs.take k)) dl) := Lib.hid hR1
        have hdl : dl.length ≤ 32 := hdl
        have HNo : Hid (de ≠ 0 → openS d = (de, none, o3)) := HNo
        have HSrt : Hid (Srt (replS [] (s.recs.take k))) := Lib.hid (Srt.repl (by unfold Srt; exact List.Pairwise.nil))
        generalize replS [] (s.recs.take k) = L0 at *
        clear hA1 hR1 hrd hsm hkl hL hB hv1 hrlen
        by_cases hde : de = 0
        · subst hde
          go_wp2_with fail
          refine HD.out.mono ?_
          clear HD
          rintro x w5 ⟨v5, rfl, hch, hb5⟩
          obtain ⟨A2, c2', rfl, hc2⟩ := own_shape hch
          have hrd2 := hch.rd
          have hz5 := hb5.size
          have hKw := HW.out.size
          have hK5 := HK.out.below hb5 HK.out.lt
          have hP5 := (HR.out.below hb5).more hz5
          have HLay : Hid (∀ W, Below w5.heap.size w5 W → Calls Tryz.prog 34 #[.slice A m c, .slice A2 dl.length c2'] W fun e w' => ∃ A3 c3, e = .returned (.slice A3 (layL L0 dl).length c3) ∧ PRd w' w'.heap.size A3 (layL L0 dl).length (layL L0 dl) ∧ (layL L0 dl).length ≤ c3 ∧ c3 ≤ 9223372036854775807 ∧ (A3 = A ∨ ∀ b o, A3 = some ⟨b, o, none⟩ → W.heap.size ≤ b) ∧ Below W.heap.size W w') :=
            Lib.hid fun W hb => refLay_any A A2 m c dl.length c2' L0 dl W hmc hcm (by omega) (by omega) HSrt.out ((hP5.below hb).more hb.size) ((hrd2.below hb).more hb.size)
          have HK5 := Lib.hid hK5
          have HW5 := Lib.hid (HW.out.trans (Kp.of_below hb5))
          have Hz5 := Lib.hid hz5
          have s1 : w5.cell? ⟨w1.heap.size, 1, none⟩ = some (.slice A m c) := hK5.cell 1
          have sf := hK5.frozen 1
          clear hch hb5 hrd2 hK5 hP5 hz5
          go_wp2_with fail
          refine (HLay.out w5 (Below.refl _ _)).mono ?_
          clear HLay
          rintro x w6 ⟨A3, c3, rfl, hp6, hc6, hcm6, hA6, hb6⟩
          have hz6 := hb6.size
          have hK6 := HK5.out.below hb6 HK5.out.lt
          have q1 : w6.cell? ⟨w1.heap.size, 1, none⟩ = some (.slice A m c) := hK6.cell 1
          have qf := hK6.frozen 1
          have HK6 : Hid (Bk (w6.setCell ⟨w1.heap.size, 1, none⟩ (.slice A3 (layL L0 dl).length c3)) w1.heap.size 59 #[.pointer (some ⟨lg, 0, none⟩), .slice A3 (layL L0 dl).length c3, .bool false]) := Lib.hid (hK6.set_ 1 _)
          have hkp : Kp (fun k => k = w1.heap.size) w6 (w6.setCell ⟨w1.heap.size, 1, none⟩ (.slice A3 (layL L0 dl).length c3)) := Kp.set_ (F := fun k => k = w1.heap.size) (p := ⟨w1.heap.size, 1, none⟩) rfl _
          have HA6 : Hid (∀ b o, A3 = some ⟨b, o, none⟩ → W4.heap.size ≤ b) := Lib.hid fun b o e => by
            rcases hA6 with h | h
            · exact HAn.out b o (by rw [← h]; exact e)
            · have := h b o e; have := HW5.out.size; omega
          have HP6 := Lib.hid (hp6.kp hkp (Nat.le_refl _) hkp.size (fun b o e e2 => by have := HA6.out b o e; omega))
          have HW6 := Lib.hid ((HW5.out.trans (Kp.of_below hb6)).trans hkp)
          have Hc6 := Lib.hid hc6
          have Hcm6 := Lib.hid hcm6
          clear hp6 hA6 hb6 hK6 hkp hz6 hc6 hcm6
          go_wp2
          go_roundg (gk - 1)
          case measure => omega
          case rel => exact ⟨k + 1, _, c3, A3, by go_num, by omega, by rw [HA1.out]; exact Lib.hid rfl, HK6, by rw [HR1.out]; exact Lib.hid rfl, Hc6.out, Hcm6.out, by rw [HR1.out]; exact HP6, HA6, HW6⟩
        · have hde' : (de != 0) = true := by simpa using hde
          have HEE := Lib.hid (HNo.out hde)
          go_wp2_with fail
          refine HD.out.mono ?_
          clear HD
          rintro x w5 ⟨v5, rfl, hch, hb5⟩
          have HW5 := Lib.hid (HW.out.trans (Kp.of_below hb5))
          clear hch hb5
          go_wp2
          go_ret2
          unfold ROpenedS
          rw [HEE.out]
          have hkp : Kp (fun k => k = w1.heap.size) w1 w5 := (Kp.of_below HW3.out).trans HW5.out
          exact .inl ⟨F', HP.out.kp hkp (fun k hk e => by have := HP.out.lt k hk; omega), ⟨Hmv.out.kp.trans' hkp (fun i hi => .inr (by have := Hmv.out.kp.size; omega)), Hmv.out.new⟩, rfl, rfl⟩
      · have hkn' : k = n := by omega
        subst hkn'
        have htk : s.recs.take k = s.recs := List.take_of_length_le (by rw [Hnn.out]; omega)
        rw [htk] at HA HM HR
        have HEE : Hid (openS d = (0, some (s, replS [] s.recs), o3)) := by show _ = _; rw [HE.out, if_pos HA.out]
        clear htk hL
        go_wp2
        go_ret2
        unfold ROpenedS
        rw [HEE.out]
        have hkp : Kp (fun k => k = w1.heap.size) w1 wr := (Kp.of_below HW3.out).trans HW.out
        have hlts := HK.out.lt
        refine .inr ⟨s, _, w1.heap.size, fun j => (F' j ∨ G j) ∨ j = w1.heap.size ∨ ((∃ o, A = some ⟨j, o, none⟩) ∧ j < wr.heap.size), rfl, rfl, ⟨_, lg, A, c, by rw [← HM.out]; exact HK.out, HPB.out.kp hkp (fun k hk e => by have := HHlt.out k hk; omega), by rw [← HM.out]; exact HR.out, ⟨by rw [← HM.out]; exact hmc, hcm⟩,
          fun e => by have := HHlt.out _ e; omega, fun h0 b o e => ?_, fun k e => .inl e, .inr (.inl rfl), fun k e => ?_⟩, ⟨Hmv.out.kp.trans' hkp (fun i hi => .inr (by have := Hmv.out.kp.size; omega)), fun k e => ?_⟩⟩
        · have h1 := HAn.out b o e
          have hb : b < wr.heap.size := by
            obtain ⟨b', o', e', hlt, _⟩ := HR.out.2 0 h0
            rw [e] at e'
            injection e' with e'
            injection e' with e'
            omega
          exact ⟨fun e2 => by have := HHlt.out _ e2; omega, by omega, .inr (.inr ⟨⟨o, e⟩, hb⟩)⟩
        · rcases e with e | e | e
          · have := HHlt.out k e; have := hkp.size; omega
          · omega
          · exact e.2
        · have hz := Hmv.out.kp.size
          rcases e with (e | e) | e | e
          · exact Hmv.out.new k e
          · exact .inr (HG1.out k e)
          · exact .inr (by omega)
          · obtain ⟨⟨o, e⟩, _⟩ := e
            have := HAn.out _ _ e
            exact .inr (by omega)
end Go.Proofs.YtfepjgafamaegaaGreat

/- Layer 5's laws: the program's store and the document's side by side; both are opened. -/
namespace Go.Proofs.YtfepjgafamaegaaGreat
open Go.RowKit

/-- How a store stands: there is none, it lives, or its power was gone at a call. -/
inductive Ss where
  | none : Ss
  | live (s : Lg) (m : List Pr) : Ss
  | dead : Ss
def ssOf : Option (Lg × List Pr) → Ss
  | .none => .none
  | .some x => .live x.1 x.2
/-- The program's disk at gd, and its store. -/
def PSx (w : World) (H : Nat → Prop) (gd : Nat) (d : Dk) (x : Ss) (pw : Option Addr) : Prop :=
  match x with
  | .none => pw = none ∧ PD w H gd d
  | .live s m => ∃ g, pw = some ⟨g, 0, none⟩ ∧ PSt w H g gd d s m
  | .dead => ∃ g F, pw = some ⟨g, 0, none⟩ ∧ Bk w g 111 #[.pointer none, .map none] ∧ PD w F gd d ∧ (∀ k, F k → H k) ∧ H g ∧ ¬ F g ∧ ∀ k, H k → k < w.heap.size
/-- The document's. -/
def RSx (w : World) (H : Nat → Prop) (M : Nat) (d : Dk) (x : Ss) (pr : Option Addr) : Prop :=
  match x with
  | .none => pr = none ∧ RD w H M d
  | .live s m => ∃ g, pr = some ⟨g, 0, none⟩ ∧ RSt w H g M d s m false
  | .dead => ∃ g s m, pr = some ⟨g, 0, none⟩ ∧ RSt w H g M d s m true
section
variable {w w' : World} {H K : Nat → Prop} {gd M : Nat} {d : Dk} {x : Ss} {pw : Option Addr}
theorem PSt.lt {g : Nat} {s : Lg} {m : List Pr} (h : PSt w H g gd d s m) : ∀ k, H k → k < w.heap.size := by
  obtain ⟨H0, lg, bm, h1, h2, h3, h4, h5, h6, h7, h8, h9⟩ := h
  exact h9
theorem PSt.disk {g : Nat} {s : Lg} {m : List Pr} (h : PSt w H g gd d s m) : ∃ F, PD w F gd d ∧ ∀ k, F k → H k := by
  obtain ⟨H0, lg, bm, _, ⟨F, G, h1, _, _, h2, _⟩, _, _, _, hH, _⟩ := h
  exact ⟨F, h1, fun k e => hH k (h2 k e)⟩
theorem RSt.disk {g : Nat} {s : Lg} {m : List Pr} {z : Bool} (h : RSt w H g M d s m z) : ∃ F, RD w F M d ∧ ∀ k, F k → H k := by
  obtain ⟨H0, lg, A, c, _, ⟨F, G, v, vals, h1, _, _, h2, _⟩, _, _, _, _, hH, _⟩ := h
  exact ⟨F, h1, fun k e => hH k (h2 k e)⟩
theorem PSx.kp (h : PSx w H gd d x pw) (hk : Kp K w w') (hd : ∀ k, H k → ¬ K k) : PSx w' H gd d x pw := by
  cases x with
  | none => exact ⟨h.1, h.2.kp hk hd⟩
  | live s m => obtain ⟨g, e, hb⟩ := h; exact ⟨g, e, hb.kp hk hd⟩
  | dead => obtain ⟨g, F, e, hb, hp, h1, h2, h3, h4⟩ := h; exact ⟨g, F, e, hb.kp hk (hd _ h2), hp.kp hk (fun k e => hd k (h1 k e)), h1, h2, h3, fun k e => Nat.lt_of_lt_of_le (h4 k e) hk.size⟩
theorem RSx.kp (h : RSx w H M d x pw) (hk : Kp K w w') (hd : ∀ k, H k → ¬ K k) : RSx w' H M d x pw := by
  cases x with
  | none => exact ⟨h.1, h.2.kp hk hd⟩
  | live s m => obtain ⟨g, e, hb⟩ := h; exact ⟨g, e, hb.kp hk hd⟩
  | dead => obtain ⟨g, s, m, e, hb⟩ := h; exact ⟨g, s, m, e, hb.kp hk hd⟩
theorem PSx.lt (h : PSx w H gd d x pw) : ∀ k, H k → k < w.heap.size := by
  cases x with
  | none => exact h.2.lt
  | live s m => obtain ⟨g, e, hb⟩ := h; exact hb.lt
  | dead => obtain ⟨g, F, e, hb, hp, h1, h2, h3, h4⟩ := h; exact h4
theorem RSx.lt (h : RSx w H M d x pw) : ∀ k, H k → k < w.heap.size := by
  cases x with
  | none => exact h.2.lt
  | live s m => obtain ⟨g, e, hb⟩ := h; exact hb.lt
  | dead => obtain ⟨g, s, m, e, hb⟩ := h; exact hb.lt
theorem PSx.disk (h : PSx w H gd d x pw) : ∃ F, PD w F gd d ∧ ∀ k, F k → H k := by
  cases x with
  | none => exact ⟨H, h.2, fun k e => e⟩
  | live s m => obtain ⟨g, e, hb⟩ := h; exact hb.disk
  | dead => obtain ⟨g, F, e, hb, hp, h1, h2, h3, h4⟩ := h; exact ⟨F, hp, h1⟩
theorem RSx.disk (h : RSx w H M d x pw) : ∃ F, RD w F M d ∧ ∀ k, F k → H k := by
  cases x with
  | none => exact ⟨H, h.2, fun k e => e⟩
  | live s m => obtain ⟨g, e, hb⟩ := h; exact hb.disk
  | dead => obtain ⟨g, s, m, e, hb⟩ := h; exact hb.disk
theorem popen_x (F : Nat → Prop) (hwl : d.waits.length ≤ 800000000) (h : PD w F gd d) : Calls Tryz.prog 42 #[.pointer (some ⟨gd, 0, none⟩)] w fun e w' => ∃ H1 p, e = .returned (.tuple #[.pointer p, .int .i64 (openS d).1]) ∧ PSx w' H1 gd (openS d).2.2 (ssOf (openS d).2.1) p ∧ Mv F H1 w w' := by
  refine (sopen_any gd d F w hwl h).mono ?_
  unfold OpenedS
  rintro e w' (⟨F', hp, hm, hx, rfl⟩ | ⟨s2, m2, g, H, hx, rfl, hp, hm⟩)
  · rw [hx]; exact ⟨F', .none, rfl, ⟨rfl, hp⟩, hm⟩
  · rw [hx]; exact ⟨H, _, rfl, ⟨g, rfl, hp⟩, hm⟩
theorem ropen_x (F : Nat → Prop) (hwl : d.waits.length ≤ 800000000) (h : RD w F M d) : Calls Tryz.prog 74 #[.pointer (some ⟨M, 0, none⟩)] w fun e w' => ∃ H1 p, e = .returned (.tuple #[.pointer p, .int .i64 (openS d).1]) ∧ RSx w' H1 M (openS d).2.2 (ssOf (openS d).2.1) p ∧ Mv F H1 w w' := by
  refine (ropenS_any M d F w hwl h).mono ?_
  unfold ROpenedS
  rintro e w' (⟨F', hp, hm, hx, rfl⟩ | ⟨s2, m2, g, H, hx, rfl, hp, hm⟩)
  · rw [hx]; exact ⟨F', .none, rfl, ⟨rfl, hp⟩, hm⟩
  · rw [hx]; exact ⟨H, _, rfl, ⟨g, rfl, hp⟩, hm⟩
end

/-- Both disks; the pair at gp knows them. -/
def Ds (w : World) (H : Nat → Prop) (gp gd M : Nat) (d dr : Dk) : Prop :=
  ∃ F1 F2 vw vr, Bk w gp 55 #[.pointer (some ⟨gd, 0, none⟩), vw, .pointer (some ⟨M, 0, none⟩), vr] ∧ PD w F1 gd d ∧ RD w F2 M dr ∧ (∀ k, F1 k → ¬ F2 k) ∧ ¬ F1 gp ∧ ¬ F2 gp ∧ (∀ k, F1 k → H k) ∧ (∀ k, F2 k → H k) ∧ H gp ∧ ∀ k, H k → k < w.heap.size
/-- And their stores. -/
def Qs (w : World) (H : Nat → Prop) (gp gd M : Nat) (d : Dk) (x : Ss) (dr : Dk) (xr : Ss) (pw pr : Option Addr) : Prop :=
  ∃ H1 H2, Bk w gp 55 #[.pointer (some ⟨gd, 0, none⟩), .pointer pw, .pointer (some ⟨M, 0, none⟩), .pointer pr] ∧ PSx w H1 gd d x pw ∧ RSx w H2 M dr xr pr ∧ (∀ k, H1 k → ¬ H2 k) ∧ ¬ H1 gp ∧ ¬ H2 gp ∧ (∀ k, H1 k → H k) ∧ (∀ k, H2 k → H k) ∧ H gp ∧ ∀ k, H k → k < w.heap.size
section
variable {w w' : World} {H K : Nat → Prop} {gp gd M : Nat} {d d' dr : Dk} {x x' xr : Ss} {pw pr : Option Addr}
theorem Ds.kp (h : Ds w H gp gd M d dr) (hk : Kp K w w') (hd : ∀ k, H k → ¬ K k) : Ds w' H gp gd M d dr := by
  obtain ⟨H1, H2, pw, pr, h1, h2, h3, h4, h5, h6, h7, h8, h9, h10⟩ := h
  exact ⟨H1, H2, pw, pr, h1.kp hk (hd _ h9), h2.kp hk (fun k e => hd k (h7 k e)), h3.kp hk (fun k e => hd k (h8 k e)), h4, h5, h6, h7, h8, h9, fun k e => Nat.lt_of_lt_of_le (h10 k e) hk.size⟩
theorem Ds.below (h : Ds w H gp gd M d dr) (hb : Below w.heap.size w w') : Ds w' H gp gd M d dr := h.kp (K := fun _ => False) (Kp.of_below hb) fun _ _ h => h
theorem Qs.kp (h : Qs w H gp gd M d x dr xr pw pr) (hk : Kp K w w') (hd : ∀ k, H k → ¬ K k) : Qs w' H gp gd M d x dr xr pw pr := by
  obtain ⟨H1, H2, h1, h2, h3, h4, h5, h6, h7, h8, h9, h10⟩ := h
  exact ⟨H1, H2, h1.kp hk (hd _ h9), h2.kp hk (fun k e => hd k (h7 k e)), h3.kp hk (fun k e => hd k (h8 k e)), h4, h5, h6, h7, h8, h9, fun k e => Nat.lt_of_lt_of_le (h10 k e) hk.size⟩
theorem Qs.below (h : Qs w H gp gd M d x dr xr pw pr) (hb : Below w.heap.size w w') : Qs w' H gp gd M d x dr xr pw pr := h.kp (K := fun _ => False) (Kp.of_below hb) fun _ _ h => h
theorem Qs.lt (h : Qs w H gp gd M d x dr xr pw pr) : ∀ k, H k → k < w.heap.size := by
  obtain ⟨H1, H2, h1, h2, h3, h4, h5, h6, h7, h8, h9, h10⟩ := h
  exact h10
theorem Ds.lt (h : Ds w H gp gd M d dr) : ∀ k, H k → k < w.heap.size := by
  obtain ⟨H1, H2, pw, pr, h1, h2, h3, h4, h5, h6, h7, h8, h9, h10⟩ := h
  exact h10
theorem Qs.cells (h : Qs w H gp gd M d x dr xr pw pr) : w.cell? ⟨gp, 0, none⟩ = some (.pointer (some ⟨gd, 0, none⟩)) ∧ w.cell? ⟨gp, 1, none⟩ = some (.pointer pw) ∧ w.cell? ⟨gp, 2, none⟩ = some (.pointer (some ⟨M, 0, none⟩)) ∧ w.cell? ⟨gp, 3, none⟩ = some (.pointer pr) := by
  obtain ⟨H1, H2, h1, _⟩ := h
  exact ⟨h1.cell 0, h1.cell 1, h1.cell 2, h1.cell 3⟩
theorem Ds.cells (h : Ds w H gp gd M d dr) : w.cell? ⟨gp, 0, none⟩ = some (.pointer (some ⟨gd, 0, none⟩)) ∧ w.cell? ⟨gp, 2, none⟩ = some (.pointer (some ⟨M, 0, none⟩)) := by
  obtain ⟨F1, F2, vw, vr, h1, _⟩ := h
  exact ⟨h1.cell 0, h1.cell 2⟩
theorem Qs.disks (h : Qs w H gp gd M d x dr xr pw pr) : Ds w H gp gd M d dr := by
  obtain ⟨H1, H2, h1, h2, h3, h4, h5, h6, h7, h8, h9, h10⟩ := h
  obtain ⟨F1, p1, q1⟩ := h2.disk
  obtain ⟨F2, p2, q2⟩ := h3.disk
  exact ⟨F1, F2, _, _, h1, p1, p2, fun k e e2 => h4 k (q1 k e) (q2 k e2), fun e => h5 (q1 _ e), fun e => h6 (q2 _ e), fun k e => h7 k (q1 k e), fun k e => h8 k (q2 k e), h9, h10⟩
theorem Ds.len (h : Ds w H gp gd M d dr) : 1 ≤ d.safe.length ∧ d.safe.length ≤ 2048 := by
  obtain ⟨H1, H2, pw, pr, h1, h2, _⟩ := h
  exact h2.len
/-- The program's side has turned. -/
theorem Qs.prog (h : Qs w H gp gd M d x dr xr pw pr) (hp : ∀ H1, PSx w H1 gd d x pw → (∀ k, H1 k → H k) → ∃ H1', PSx w' H1' gd d' x' pw ∧ Mv H1 H1' w w') : ∃ H', Qs w' H' gp gd M d' x' dr xr pw pr ∧ Mv H H' w w' := by
  obtain ⟨H1, H2, h1, h2, h3, h4, h5, h6, h7, h8, h9, h10⟩ := h
  obtain ⟨H1', q1, q2⟩ := hp H1 h2 h7
  have hl := q1.lt
  refine ⟨fun k => H k ∨ H1' k, ⟨H1', H2, h1.kp q2.kp h5, q1, h3.kp q2.kp (fun k e e2 => h4 k e2 e), fun k e e2 => ?_, fun e => ?_, h6, fun k e => .inr e, fun k e => .inl (h8 k e), .inl h9, ?_⟩, ?_, ?_⟩
  · rcases q2.new k e with h | h
    · exact h4 k h e2
    · have := h10 k (h8 k e2); omega
  · rcases q2.new _ e with h | h
    · exact h5 h
    · have := h10 _ h9; omega
  · rintro k (e | e)
    · exact Nat.lt_of_lt_of_le (h10 k e) q2.kp.size
    · exact hl k e
  · exact q2.kp.mono h7
  · rintro k (e | e)
    · exact .inl e
    · exact (q2.new k e).imp (h7 k) id
/-- The document's side has turned. -/
theorem Qs.doc (h : Qs w H gp gd M d x dr xr pw pr) (hp : ∀ H2, RSx w H2 M dr xr pr → (∀ k, H2 k → H k) → ∃ H2', RSx w' H2' M d' x' pr ∧ Mv H2 H2' w w') : ∃ H', Qs w' H' gp gd M d x d' x' pw pr ∧ Mv H H' w w' := by
  obtain ⟨H1, H2, h1, h2, h3, h4, h5, h6, h7, h8, h9, h10⟩ := h
  obtain ⟨H2', q1, q2⟩ := hp H2 h3 h8
  have hl := q1.lt
  refine ⟨fun k => H k ∨ H2' k, ⟨H1, H2', h1.kp q2.kp h6, h2.kp q2.kp h4, q1, fun k e e2 => ?_, h5, fun e => ?_, fun k e => .inl (h7 k e), fun k e => .inr e, .inl h9, ?_⟩, ?_, ?_⟩
  · rcases q2.new k e2 with h | h
    · exact h4 k e h
    · have := h10 k (h7 k e); omega
  · rcases q2.new _ e with h | h
    · exact h6 h
    · have := h10 _ h9; omega
  · rintro k (e | e)
    · exact Nat.lt_of_lt_of_le (h10 k e) q2.kp.size
    · exact hl k e
  · exact q2.kp.mono h8
  · rintro k (e | e)
    · exact .inl e
    · exact (q2.new k e).imp (h8 k) id
end

/-- A pair both sides of which were opened alike. -/
def OpenR (w : World) (H : Nat → Prop) (gp gd M : Nat) (d : Dk) (e : Ending) (w' : World) : Prop :=
  e = .returned (.bool true) ∧ ∃ H' pw pr, Qs w' H' gp gd M (openS d).2.2 (ssOf (openS d).2.1) (openS d).2.2 (ssOf (openS d).2.1) pw pr ∧ Mv H H' w w'

set_option maxRecDepth 100000 in
set_option maxHeartbeats 4000000 in
/-- Both are opened. -/
theorem spairOpen_any (gp gd M : Nat) (d : Dk) (H : Nat → Prop) (w : World) (hwl : d.waits.length ≤ 800000000) (h : Ds w H gp gd M d d) :
    Calls Tryz.prog 39 #[.pointer (some ⟨gp, 0, none⟩)] w (OpenR w H gp gd M d) := by
  obtain ⟨c0, c2⟩ := h.cells
  obtain ⟨F1, F2, vw, vr, hb, hp, hr, h12, hg1, hg2, hH1, hH2, hHg, hlt⟩ := h
  have HC1 := Lib.hid (popen_x F1 hwl hp)
  have HC2 : Hid (∀ w1, RD w1 F2 M d → Calls Tryz.prog 74 #[.pointer (some ⟨M, 0, none⟩)] w1 fun e w' => ∃ H1 p, e = .returned (.tuple #[.pointer p, .int .i64 (openS d).1]) ∧ RSx w' H1 M (openS d).2.2 (ssOf (openS d).2.1) p ∧ Mv F2 H1 w1 w') := Lib.hid fun w1 h => ropen_x F2 hwl h
  have HEnd : Hid (∀ (w1 w2 : World) H1 H2 pw pr, Mv F1 H1 w w1 → Mv F2 H2 w1 w2 → PSx w1 H1 gd (openS d).2.2 (ssOf (openS d).2.1) pw → RSx w2 H2 M (openS d).2.2 (ssOf (openS d).2.1) pr →
      OpenR w H gp gd M d (.returned (.bool true)) ((w2.setCell ⟨gp, 1, none⟩ (.pointer pw)).setCell ⟨gp, 3, none⟩ (.pointer pr))) := by
    intro w1 w2 H1 H2 pw pr hm1 hm2 hp1 hr2
    have hgl := hb.lt
    have hz1 := hm1.kp.size
    have ng1 : ¬ H1 gp := fun e => by rcases hm1.new _ e with h | h; exact hg1 h; omega
    have ng2 : ¬ H2 gp := fun e => by rcases hm2.new _ e with h | h; exact hg2 h; omega
    have hd : ∀ k, H1 k → ¬ F2 k := fun k e e2 => by rcases hm1.new k e with h | h; exact h12 k h e2; have := hlt k (hH2 k e2); omega
    have hd2 : ∀ k, H1 k → ¬ H2 k := fun k e e2 => by rcases hm2.new k e2 with h | h; exact hd k e h; have := hp1.lt k e; omega
    have hk : ∀ (W : World) (i : Nat) (z : Value), Kp (· = gp) W (W.setCell ⟨gp, i, none⟩ z) := fun W i z => Kp.set_ (F := (· = gp)) (p := ⟨gp, i, none⟩) rfl z
    have hkk := (hk w2 1 (.pointer pw)).trans (hk (w2.setCell ⟨gp, 1, none⟩ (.pointer pw)) 3 (.pointer pr))
    have hb2 := (hb.kp hm1.kp hg1).kp hm2.kp hg2
    have hp2 := hp1.kp hm2.kp hd
    refine ⟨rfl, fun k => H k ∨ H1 k ∨ H2 k, pw, pr, ⟨H1, H2, (hb2.set_ 1 (.pointer pw)).set_ 3 (.pointer pr), hp2.kp hkk (fun k e e2 => ng1 (by rw [← e2]; exact e)), hr2.kp hkk (fun k e e2 => ng2 (by rw [← e2]; exact e)), hd2, ng1, ng2, fun k e => .inr (.inl e), fun k e => .inr (.inr e), .inl hHg, ?_⟩, ?_, ?_⟩
    · intro k e
      have hs : ((w2.setCell ⟨gp, 1, none⟩ (.pointer pw)).setCell ⟨gp, 3, none⟩ (.pointer pr)).heap.size = w2.heap.size := by simp [World.setCell]
      rw [hs]
      rcases e with e | e | e
      · exact Nat.lt_of_lt_of_le (hlt k e) (Nat.le_trans hm1.kp.size hm2.kp.size)
      · exact hp2.lt k e
      · exact hr2.lt k e
    · have h2 : Kp (fun k => H k ∨ w.heap.size ≤ k) w ((w2.setCell ⟨gp, 1, none⟩ (.pointer pw)).setCell ⟨gp, 3, none⟩ (.pointer pr)) :=
        ((hm1.kp.mono (fun k e => .inl (hH1 k e))).trans (hm2.kp.mono (fun k e => .inl (hH2 k e)))).trans (hkk.mono (fun k e => .inl (by rw [e]; exact hHg)))
      exact Kp.fresh (B := w.heap.size) h2 (Nat.le_refl _)
    · intro k e
      rcases e with e | e | e
      · exact .inl e
      · exact (hm1.new k e).imp (hH1 k) id
      · exact (hm2.new k e).elim (fun h => .inl (hH2 k h)) (fun h => .inr (by omega))
  have HA : Hid (∀ (w1 : World) H1, Mv F1 H1 w w1 → RD w1 F2 M d ∧ Bk w1 gp 55 #[.pointer (some ⟨gd, 0, none⟩), vw, .pointer (some ⟨M, 0, none⟩), vr]) := fun w1 H1 hm => ⟨hr.kp hm.kp (fun k e e2 => h12 k e2 e), hb.kp hm.kp hg1⟩
  have Hg2 := Lib.hid hg2
  clear hb hp hr h12 hg1 hg2 hH1 hH2 hHg hlt
  generalize openS d = o at *
  obtain ⟨o1, o2, o3⟩ := o
  cases o2 with
  | none =>
    go_enter Tryz.func39, Tryz.ntmps39
    go_wp2_with fail
    refine HC1.out.mono ?_
    rintro x w1 ⟨H1, pw, rfl, hp1, hm1⟩
    obtain ⟨hr1, hb1⟩ := HA.out w1 H1 hm1
    have c2 : w1.cell? ⟨gp, 2, none⟩ = some (.pointer (some ⟨M, 0, none⟩)) := hb1.cell 2
    have HC := Lib.hid (HC2.out w1 hr1)
    have Hb1 := Lib.hid hb1
    have Hp1 := Lib.hid hp1
    have Hm1 := Lib.hid hm1
    obtain rfl := Hp1.out.1
    clear hr1 hb1 hp1 hm1 HC1 HC2 HA c0
    go_wp2_with fail
    refine HC.out.mono ?_
    rintro x w2 ⟨H2, pr, rfl, hp2, hm2⟩
    obtain rfl := hp2.1
    have hb2 := Hb1.out.kp hm2.kp Hg2.out
    have HF := Lib.hid (HEnd.out w1 w2 H1 H2 _ _ Hm1.out hm2 Hp1.out hp2)
    have c1 : w2.cell? ⟨gp, 1, none⟩ = some vw := hb2.cell 1
    have f1 := hb2.frozen 1
    have c3 : w2.cell? ⟨gp, 3, none⟩ = some vr := hb2.cell 3
    have f3 := hb2.frozen 3
    clear hb2 hp2 hm2 HC HEnd Hb1 Hp1
    go_wp2
    go_ret
    exact HF.out
  | some sm =>
    go_enter Tryz.func39, Tryz.ntmps39
    go_wp2_with fail
    refine HC1.out.mono ?_
    rintro x w1 ⟨H1, pw, rfl, hp1, hm1⟩
    obtain ⟨hr1, hb1⟩ := HA.out w1 H1 hm1
    have c2 : w1.cell? ⟨gp, 2, none⟩ = some (.pointer (some ⟨M, 0, none⟩)) := hb1.cell 2
    have HC := Lib.hid (HC2.out w1 hr1)
    have Hb1 := Lib.hid hb1
    have Hp1 := Lib.hid hp1
    have Hm1 := Lib.hid hm1
    obtain ⟨g, rfl, _⟩ := Hp1.out
    clear hr1 hb1 hp1 hm1 HC1 HC2 HA c0
    go_wp2_with fail
    refine HC.out.mono ?_
    rintro x w2 ⟨H2, pr, rfl, hp2, hm2⟩
    have hp3 := hp2
    obtain ⟨g', rfl, _⟩ := hp3
    have hb2 := Hb1.out.kp hm2.kp Hg2.out
    have HF := Lib.hid (HEnd.out w1 w2 H1 H2 _ _ Hm1.out hm2 Hp1.out hp2)
    have c1 : w2.cell? ⟨gp, 1, none⟩ = some vw := hb2.cell 1
    have f1 := hb2.frozen 1
    have c3 : w2.cell? ⟨gp, 3, none⟩ = some vr := hb2.cell 3
    have f3 := hb2.frozen 3
    clear hb2 hp2 hm2 HC HEnd Hb1 Hp1
    go_wp2
    go_ret
    exact HF.out
end Go.Proofs.YtfepjgafamaegaaGreat

/- Layer 5's laws: both on new disks. -/
namespace Go.Proofs.YtfepjgafamaegaaGreat
open Go.RowKit

/-- A pair of the law's own, both sides alike. -/
def OwnQ (W w : World) (gp gd M : Nat) (d : Dk) (x : Ss) : Prop := ∃ H pw pr, Qs w H gp gd M d x d x pw pr ∧ (∀ k, H k → W.heap.size ≤ k) ∧ Below W.heap.size W w
theorem OwnQ.below {W w w' : World} {gp gd M : Nat} {d : Dk} {x : Ss} (h : OwnQ W w gp gd M d x) (hb : Below w.heap.size w w') : OwnQ W w' gp gd M d x := by
  obtain ⟨H, pw, pr, h1, h2, h3⟩ := h
  exact ⟨H, pw, pr, h1.below hb, h2, h3.trans (hb.mono h3.size)⟩
theorem OwnQ.size {W w : World} {gp gd M : Nat} {d : Dk} {x : Ss} (h : OwnQ W w gp gd M d x) : Below W.heap.size W w := by
  obtain ⟨H, pw, pr, h1, h2, h3⟩ := h
  exact h3
def StartR (W : World) (n : Nat) (e : Ending) (w' : World) : Prop :=
  ∃ gp gd M, e = .returned (.tuple #[.pointer (some ⟨gp, 0, none⟩), .bool true]) ∧ OwnQ W w' gp gd M (openS (Dk.new n)).2.2 (ssOf (openS (Dk.new n)).2.1)

set_option maxRecDepth 100000 in
set_option maxHeartbeats 4000000 in
theorem sstart_any (n : Nat) (W : World) (h1 : 1 ≤ n) (h2 : n ≤ 2048) : Calls Tryz.prog 23 #[.int .i64 (n : Int)] W (StartR W n) := by
  have HN := Lib.hid (nd_new n W h1 h2)
  have HR : Hid (∀ w, Calls Tryz.prog 58 #[.int .i64 (n : Int)] w (MadeR (Dk.new n) w)) := Lib.hid fun w => rnew_any n w h1 h2
  have hwl : (Dk.new n).waits.length ≤ 800000000 := Nat.zero_le _
  have HO : Hid (∀ w H gp gd M, Ds w H gp gd M (Dk.new n) (Dk.new n) → (∀ k, H k → W.heap.size ≤ k) → Below W.heap.size W w → Calls Tryz.prog 39 #[.pointer (some ⟨gp, 0, none⟩)] w fun e w' => e = .returned (.bool true) ∧ OwnQ W w' gp gd M (openS (Dk.new n)).2.2 (ssOf (openS (Dk.new n)).2.1)) := by
    refine Lib.hid fun w H gp gd M h hge hb => (spairOpen_any gp gd M (Dk.new n) H w hwl h).mono ?_
    rintro e w' ⟨rfl, H', pw, pr, q1, q2⟩
    exact ⟨rfl, H', pw, pr, q1, q2.ge hb.size hge, hb.trans (q2.kp.below hge hb.size)⟩
  clear h1 h2 hwl
  unfold StartR
  generalize hD : Dk.new n = D at *
  generalize (openS D).2.2 = o3 at *
  generalize ssOf (openS D).2.1 = o2 at *
  clear hD
  go_enter Tryz.func23, Tryz.ntmps23
  go_wp2_with fail
  refine HN.out.mono ?_
  rintro x w1 ⟨gd, F1, rfl, hd, hF1, hb1⟩
  have HR := Lib.hid (HR.out w1)
  have Hd := Lib.hid hd
  have HF1 := Lib.hid hF1
  have Hb1 := Lib.hid hb1
  clear hd hF1 hb1 HN
  go_wp2_with fail
  refine HR.out.mono ?_
  rintro x w2 ⟨M, F2, rfl, hr, hF2, hb2⟩
  have hz1 := Hb1.out.size
  have hz2 := hb2.size
  have hp2 := Hd.out.below hb2
  have hbA : Below w2.heap.size w2 (w2.alloc (.cells #[.pointer (some ⟨gd, 0, none⟩), .pointer none, .pointer (some ⟨M, 0, none⟩), .pointer none] 55)) := (Below.refl _ _).alloc (Nat.le_refl _) _
  have hD : Ds (w2.alloc (.cells #[.pointer (some ⟨gd, 0, none⟩), .pointer none, .pointer (some ⟨M, 0, none⟩), .pointer none] 55)) (fun k => F1 k ∨ F2 k ∨ k = w2.heap.size) w2.heap.size gd M D D := by
    refine ⟨F1, F2, _, _, Bk.new _ _ _, hp2.below hbA, hr.kp (G := fun _ => False) (Kp.of_below hbA) (fun _ _ h => h), fun k e e2 => ?_, fun e => ?_, fun e => ?_, fun k e => .inl e, fun k e => .inr (.inl e), .inr (.inr rfl), fun k e => ?_⟩
    · have := Hd.out.lt k e; have := hF2 k e2; omega
    · have := hp2.lt _ e; omega
    · have := hr.lt _ e; omega
    · have hzA : (w2.alloc (.cells #[.pointer (some ⟨gd, 0, none⟩), .pointer none, .pointer (some ⟨M, 0, none⟩), .pointer none] 55)).heap.size = w2.heap.size + 1 := by simp
      rw [hzA]
      rcases e with e | e | e
      · have := hp2.lt k e; omega
      · have := hr.lt k e; omega
      · omega
  have HO := Lib.hid (HO.out _ _ _ _ _ hD (fun k e => by
    rcases e with e | e | e
    · exact HF1.out k e
    · have := hF2 k e; omega
    · omega) ((Hb1.out.trans (hb2.mono hz1)).trans (hbA.mono (by omega))))
  clear hD hbA hp2 hr hF2 hb2 HR Hd HF1
  go_wp2_with fail
  refine HO.out.mono ?_
  rintro x w3 ⟨rfl, h⟩
  have h := Lib.hid h
  go_wp2
  go_ret2
  exact ⟨_, _, _, rfl, h.out⟩
end Go.Proofs.YtfepjgafamaegaaGreat
