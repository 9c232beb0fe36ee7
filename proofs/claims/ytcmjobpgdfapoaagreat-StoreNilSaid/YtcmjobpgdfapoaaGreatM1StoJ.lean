/- Of the proofs of layer 4, merged: StoJ. -/
import Derived.Test.YtcmjobpgdfapoaaGreatM1StoI

/- Layer 5's laws: pairs. -/
namespace Go.Proofs.YtcmjobpgdfapoaaGreat
open Go.RowKit Go.Shelf

attribute [local go_sem] Oper.semAt_some

def prCells (L : List Pr) : List Value := L.flatMap fun p => [sV p.1, sV p.2]
theorem prCells_snoc (L : List Pr) (p : Pr) : prCells (L ++ [p]) = prCells L ++ [sV p.1, sV p.2] := by simp [prCells]
/-- What All gives: a function value over the pairs L. -/
def AllR (L : List Pr) (W : World) (e : Ending) (w' : World) : Prop :=
  ∃ B A len cap, e = .returned (.func (.func 81) #[] #[.pointer (some ⟨B, 0, none⟩)]) ∧ w'.cell? ⟨B, 0, none⟩ = some (.slice A len cap) ∧ len ≤ 9223372036854775807 ∧ PRd w' w'.heap.size A len L ∧ B < w'.heap.size ∧ (∀ b o, A = some ⟨b, o, none⟩ → W.heap.size ≤ b) ∧ Below W.heap.size W w'
theorem Tryz.infoPair : (Tryz.prog.info? 86).map (fun i => (i.zero, i.size, i.bytes)) = some (some (.agg #[.string ByteArray.empty, .string ByteArray.empty]), 2, 32) := by kernel_rfl
theorem cell_two_new (w : World) (x y : Value) (t : TypeId) : ∀ j u, [x, y][j]? = some u → (w.alloc (.cells #[x, y] t)).cell? ((⟨w.heap.size, 0, none⟩ : Addr).add j) = some u := by
  intro j u hu
  rw [Addr.add_lit, Nat.zero_add, World.cell?_alloc_at _ _ _ _ rfl]
  match j, hu with
  | 0, hu => simpa using hu
  | 1, hu => simpa using hu

set_option maxRecDepth 100000 in
theorem not_nilFunc (x : Value) (w : World) : (binOp .eql 83 (.func (.func 81) #[] #[x]) .nilFunc).run Tryz.prog w = .ok (.bool false) w := by
  first | rfl | kernel_rfl | (simp [binOp, go_sem]; done)
theorem holdsRow_ownS {β : Type} (n₀ B n1 : Nat) (t e : TypeId) (size : Nat) (k : β → Nat) (f : β → List Value) : Own (fun s W => ∃ v, Boxed W B t v ∧ W.ownsRow n₀ e size v (k s) (f s) ∧ n1 ≤ W.heap.size) := by
  rintro s X Y row ⟨v, hv, hr, hG⟩ hg hrow
  obtain ⟨v', h1, h2, h3⟩ := holdsRow_own n₀ B t e size k f (fun s u => u = v) s X Y row ⟨v, hv, hr, rfl⟩ hg hrow
  exact ⟨v', h1, h2, Nat.le_trans hG hg.size⟩
set_option maxRecDepth 100000 in
set_option maxHeartbeats 4000000 in
theorem pairs_in (sv : Value) (L : List Pr) (w : World) (hlen : L.length ≤ 1000000)
    (hAll : ∀ W, Below w.heap.size w W → Calls Tryz.prog 43 #[sv] W (AllR L W)) :
    CallsIn Fence.wide 5 Tryz.prog 26 #[sv] w fun e W' => ∃ v, e = .returned v ∧ W'.ownsRow w.heap.size 86 2 v L.length (prCells L) ∧ Below w.heap.size w W' := by
  obtain ⟨i0, hi, hz0, hz1, hz2⟩ := info_parts Tryz.infoPair
  have HA := Lib.hid hAll
  clear hAll
  refine callsIn_of_wp_marks Tryz.func26 rfl trivial ?_ rfl
  simp only [Tryz.ntmps26, List.size_toArray, List.length_cons, List.length_nil, Nat.reduceAdd, Nat.reduceSub, Array.replicate_succ, Array.replicate_zero, List.push_toArray, List.append_toArray, List.nil_append, List.cons_append]
  have bO := Boxed.new w 57 (.slice none 0 0)
  have hb0 : Below w.heap.size w (w.alloc (.cells #[.slice none 0 0] 57)) := (Below.refl _ _).alloc (Nat.le_refl _) _
  have hs0 : (w.alloc (.cells #[.slice none 0 0] 57)).heap.size = w.heap.size + 1 := by simp
  have hnf := not_nilFunc
  gi_wp2_with (refine ⟨trivial, ?_⟩; gi_at_call 43; refine (callsIn_wide.2 (HA.out _ hb0)).mono ?_; rintro e w1 ⟨B, A, len, cap, rfl, hB, hl63, hP, hBl, hAge, hb1⟩)
  have hv1 : Boxed w1 w.heap.size 57 (.slice none 0 0) := bO.kept (grown_of_below hb1 none) (by simp)
  have hb01 : Below w.heap.size w w1 := below_then hb0 hb1
  have hws : w.heap.size + 1 ≤ w1.heap.size := by have := hb1.size; rw [hs0] at this; exact this
  have hlt : w.heap.size < w1.heap.size := by omega
  refine wpIn_rangeFunc_ownG rfl (by decide) (gf := 81) (lb := #[.pointer (some ⟨B, 0, none⟩)]) rfl trivial (enters_of Tryz.func81 (by kernel_rfl) rfl)
    (iter_stops Fence.wide 4 trivial rfl (by decide) B w1.heap.size w.heap.size A len cap L hl63 w1 hBl (Nat.le_refl _) hB hP (fun b o e => by have := hAge b o e; omega)) KX.trans (fun W l o o' hl ho _ _ => ⟨by simp [World.putObj], fun k hk _ => World.putObj_heap_other (by omega)⟩) (Below.refl _ _) (fun _ => rfl)
    (fun pre W => (∃ v, Boxed W w.heap.size 57 v ∧ W.ownsRow w1.heap.size 86 2 v pre.length (prCells pre) ∧ w1.heap.size ≤ W.heap.size) ∧ Below w.heap.size w W)
    (fun _ _ _ => False)
    (OwnFrom.and (Own.from (holdsRow_ownS w1.heap.size w.heap.size w1.heap.size 57 86 2 (fun pre => pre.length) (fun pre => prCells pre)) _) (ownFrom_below (Nat.le_refl _) (by omega)))
    (fun _ _ _ _ _ hs _ _ => hs)
    ⟨⟨_, hv1, World.ownsRow_nil _ _ _ _, Nat.le_refl _⟩, hb01⟩
    (fun x => { tmps := #[sv, undef, .slice none 0 0, .pointer (some ⟨w.heap.size, 0, none⟩), .func (.func 81) #[] #[.pointer (some ⟨B, 0, none⟩)], sV x.1, sV x.2, sv,
      .func (.func 81) #[] #[.pointer (some ⟨B, 0, none⟩)], .func (.func 81) #[] #[.pointer (some ⟨B, 0, none⟩)], .bool false, .func (.func 81) #[] #[.pointer (some ⟨B, 0, none⟩)], sV x.1, sV x.2, undef, undef, undef, undef, undef, undef, undef], defers := [] }) ?assign ?body ?done ?stop
  case assign =>
    intro l x W K hK
    gi_wp2
    exact hK
  case body =>
    rintro l pre x W ⟨⟨v, hv, hrow, hws2⟩, hB2⟩ hlt2
    have hc := hv.cell
    have hpl : pre.length ≤ 1000000 := by have := hP.1; omega
    have hrow0 := own_mono (base' := w.heap.size) hrow (by omega)
    gi_wp2_with (gi_at_builtin; refine wpListIn_append_own _ rfl _ _ 57 rfl w1.heap.size 86 i0 (.agg #[.string ByteArray.empty, .string ByteArray.empty]) 2 32 Tryz.underlying57 hi hz0 hz1 hz2 rfl (by decide) _ _ _ rfl (hrow.alloc _) ⟨W.heap.size, 0, none⟩ 1 1 [sV x.1, sV x.2] rfl rfl (cell_two_new _ _ _ _) (by intro u hu; simp at hu; rcases hu with rfl | rfl <;> rfl) (by unfold maxLen; omega) (by omega) (by simp; omega) ?_; intro v' w5 hown' hgrow _; obtain ⟨g', cap', rfl⟩ := ownsRow_succ hown'; obtain ⟨hv1, hv2, hr2, hk2, hb2⟩ := hv.appended (by decide) hrow0 hB2.size (Nat.le_refl _) (own_mono (base' := w.heap.size) hown' (by omega)) hgrow; have hc1 := hv1.cell; have hf1 := hv1.frozen)
    have hkx : KX w.heap.size w1.heap.size W (w5.setCell ⟨w.heap.size, 0, none⟩ (.slice (some ⟨g', 0, none⟩) (pre.length + 1) cap')) := by
      refine ⟨hk2.size, fun k hk hne => ?_⟩
      rw [Below.heap_setCell _ _ _ _ hne, hgrow.block k (by simp; omega) (fun e => by have := own_block_ge hrow k e.symm; omega)]
      exact Below.heap_alloc _ _ k (by omega)
    have hz5 := hgrow.size
    refine ⟨hk2.from _, hkx, ⟨_, hv2, ?_, by simp [World.setCell] at hz5 ⊢; omega⟩, hB2.trans hb2⟩
    rw [List.length_append, prCells_snoc]
    exact hown'.kept (grownBy_setCell' w5 w.heap.size _) (.inr (hv1.not_row (by decide) hown').symm)
  case done =>
    rintro D ys W hD rfl ⟨⟨v, hv, hrow1, -⟩, hB2⟩ hK
    have hc := hv.cell
    have hrow := own_mono (base' := w.heap.size) hrow1 (by omega)
    gi_wp2
    refine ⟨by simp, .inl ⟨_, _, rfl, run_takeDeferred hK, ?_⟩⟩
    exact ⟨_, results_tmp rfl _ _ _, v, rfl, ownsRow_putObj hrow _ hK rfl, hB2.trans (belowK_b (w := w) (Nat.le_refl _) W D _ _ (by omega) hK rfl rfl)⟩
  case stop =>
    rintro D c pre W _ _ h _
    exact h.elim
end Go.Proofs.YtcmjobpgdfapoaaGreat
