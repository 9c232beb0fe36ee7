/- Of the proofs of layer 4, merged: StoVal, StoSeq. -/
import Derived.Test.YtfepjgafamaegaaGreatMStoI
import Derived.Sort.EncStr
import Derived.RangeFuncMany
import Derived.Sort.MapsRangeIn
import Derived.Sort.KeysCollected
import Derived.RegionIn

/- maps.Values over the program's pairs: its iterator, for every loop body. -/
namespace Go.Proofs.YtfepjgafamaegaaGreat
open Go.RowKit Go.Shelf Go.Maps Go.Sort

theorem pairR_some {v : Value} {y : DataW Unit × List MemPlace} (h : pairR v = some y) : ∃ p : Pr, v = .agg #[sV p.1, sV p.2] ∧ y = (pairD p, []) := by
  cases v with
  | agg cs =>
    unfold pairR at h
    simp only at h
    split at h
    · rename_i a b hcs
      have : cs = #[.string a, .string b] := by rw [← Array.toArray_toList (xs := cs), hcs]
      refine ⟨(a.data.toList, b.data.toList), by rw [this], ?_⟩
      exact (Option.some.inj h).symm
    · cases h
  | _ => simp [pairR] at h
/-- The value at its own key. -/
def AtP (L : List Pr) (q : List UInt8 × Pr) : Prop := ∀ zd, (mapD L).atKey (.string q.1) zd = pairD q.2
theorem pairD_inj {p q : Pr} (h : pairD p = pairD q) : p = q := by
  unfold pairD at h
  injection h with h
  injection h with h1 h2
  injection h2 with h2 _
  injection h1 with h1
  injection h1 with h1
  injection h2 with h2
  injection h2 with h2
  exact Prod.ext h1 h2
theorem AtP.mem {L : List Pr} {q : List UInt8 × Pr} (h : AtP L q) : q.2 ∈ L ∧ q.2.1 = q.1 := by
  have h1 := h (pairD ([], []))
  have h2 := h (pairD ([0], []))
  rw [mapD_at] at h1 h2
  cases hf : L.find? (fun p => p.1 == q.1) with
  | none =>
    rw [hf] at h1 h2
    have e1 := pairD_inj h1
    have e2 := pairD_inj h2
    simp only [Option.getD_none] at e1 e2
    rw [← e1] at e2
    cases e2
  | some p =>
    rw [hf] at h1
    have e1 := pairD_inj h1
    simp only [Option.getD_some] at e1
    subst e1
    exact ⟨List.mem_of_find?_eq_some hf, by simpa using List.find?_some hf⟩
theorem strKeys_mapD (L : List Pr) : strKeys (mapD L) = L.map (·.1) := by
  show (L.map entD).map (fun p => strOf p.1) = _
  rw [List.map_map]
  rfl
theorem Srt.nodup {L : List Pr} (h : Srt L) : (L.map (·.1)).Nodup := by
  rw [List.nodup_iff_pairwise_ne, List.pairwise_map]
  refine h.imp fun {p q} hl e => ?_
  rw [e, lessB_irrefl] at hl
  cases hl
theorem vals_perm {L : List Pr} {qs : List (List UInt8 × Pr)} (hA : ∀ q ∈ qs, AtP L q) (hp : (qs.map (·.1)).Perm (L.map (·.1))) (hn : (L.map (·.1)).Nodup) : (qs.map (·.2)).Perm L := by
  have hk : (qs.map (·.2)).map (·.1) = qs.map (·.1) := by
    rw [List.map_map]
    exact List.map_congr_left fun q hq => (hA q hq).mem.2
  have hnq : (qs.map (·.2)).Nodup := by
    have : ((qs.map (·.2)).map (·.1)).Nodup := by rw [hk]; exact hp.nodup_iff.2 hn
    exact List.Pairwise.of_map _ (fun a b hab e => hab (by rw [e])) this
  have hnL : L.Nodup := List.Pairwise.of_map _ (fun a b hab e => hab (by rw [e])) hn
  rw [List.perm_ext_iff_of_nodup hnq hnL]
  intro p
  constructor
  · intro h
    obtain ⟨q, hq, rfl⟩ := List.mem_map.1 h
    exact (hA q hq).mem.1
  · intro h
    have h1 : p.1 ∈ qs.map (·.1) := hp.mem_iff.2 (List.mem_map_of_mem h)
    obtain ⟨q, hq, e⟩ := List.mem_map.1 h1
    have h2 := (hA q hq).mem
    have : q.2 = p := by
      have hkk : q.2.1 = p.1 := h2.2.trans e
      have hpw := List.nodup_iff_pairwise_ne.1 hn
      rw [List.pairwise_map] at hpw
      by_cases he : q.2 = p
      · exact he
      · exact absurd hkk (by
          rcases List.mem_iff_getElem.1 h2.1 with ⟨i, hi, ei⟩
          rcases List.mem_iff_getElem.1 h with ⟨j, hj, ej⟩
          have hij : i ≠ j := fun e => he (by rw [← ei, ← ej]; simp [e])
          rcases Nat.lt_or_gt_of_ne hij with hlt | hlt
          · have := List.pairwise_iff_getElem.1 hpw i j hi hj hlt; rw [ei, ej] at this; exact this
          · have := List.pairwise_iff_getElem.1 hpw j i hj hi hlt; rw [ei, ej] at this; exact this.symm)
    exact List.mem_map.2 ⟨q, hq, this⟩

set_option maxRecDepth 100000 in
set_option maxHeartbeats 2000000 in
theorem vals_in (F : Fence) (n : Nat) (hf : F.fn 115) (hro : F.round = none) (hn : 1 ≤ n) (l Bm b nn : Nat) (L : List Pr) (hS : Srt L) (J Jx : List Pr → World → Prop)
    (hY : ∀ pre x W, J pre W → pre.length < L.length → YieldAt F (n - 1) Tryz.prog l #[.agg (encP x)] W fun e W' =>
      (e = .returned (.bool true) ∧ J (pre ++ [x]) W' ∧ KeepsWalks W W') ∨ (e = .returned (.bool false) ∧ Jx (pre ++ [x]) W'))
    (W : World) (hJ : AbidesFrom W.heap.size J) (hm : W.cell? ⟨Bm, 0, none⟩ = some (.map (some b))) (hown : W.ownsMap Tryz.prog 9 pairR b nn (mapD L)) (h0 : J [] W) :
    CallsIn F n Tryz.prog 115 #[.func (.yield l) #[] #[], .pointer (some ⟨Bm, 0, none⟩)] W fun e W' => (∃ v, e = .returned v) ∧
      ((∃ xs, xs.Perm L ∧ J xs W') ∨ (∃ pre, Jx pre W')) := by
  have hsz := mapD_size L
  refine callsIn_of_wp Tryz.func115 rfl hf ?_ hro
  simp only [Tryz.ntmps115, List.size_toArray, List.length_cons, List.length_nil, Nat.reduceAdd, Nat.reduceSub, Array.replicate_succ, Array.replicate_zero, List.push_toArray, List.append_toArray, List.nil_append, List.cons_append]
  gi_wp2_with (first
    | (gi_at_range; refine wpListIn_range_own _ rfl _ 109 rfl 9 86 (string_keyed Tryz.underlying9) Tryz.underlying109 _ b nn _ rfl hown ?_; intro w0 hrg0 hg0 hs0)
    | gi_in)
  go_frame
  gi_loopw [4] (fun _ wr => ∃ (left : Lit → Bool) (cnt : Nat) (qs : List (List UInt8 × Pr)), wr.ranges Tryz.prog 9 pairR b W.heap.size nn (mapD L) left cnt ∧ qs.length + cnt ≤ L.length ∧ Collected (mapD L) left (qs.map (·.1)) ∧ (∀ q ∈ qs, AtP L q) ∧ J (qs.map (·.2)) wr)
    (fun _ wr => wr.rangeLeft b W.heap.size)
  case atStart =>
    exact ⟨_, _, [], hrg0, by simp [hsz], Collected.start _, by simp, hJ [] W w0 none h0 hg0 (fun r e => by cases e)⟩
  case round =>
    obtain ⟨left, cnt, qs, hrg, hcs, hC, hV, hJs⟩ := hrel
    gi_wp2_with (first
      | (gi_at_next; refine wpListIn_next_ranges _ rfl _ rfl 9 (string_keyed Tryz.underlying9) pairR encStr (fun p : Pr => .agg (encP p)) (fun key kl hk => by obtain ⟨x, hx, _⟩ := Maps.keyOf_str Tryz.underlying9 hk; exact ⟨x, hx⟩) (fun v y hv => by obtain ⟨c, rfl, _⟩ := pairR_some hv; exact ⟨c, rfl⟩) b W.heap.size nn _ _ _ rfl hrg ?_ ?_)
      | gi_in)
    · intro hc0 hl0
      gi_wp2
      go_end0
      refine ⟨⟨_, rfl⟩, .inl ⟨_, vals_perm hV ?_ hS.nodup, hJs⟩⟩
      rw [← strKeys_mapD]
      exact hC.perm hown (string_keyed Tryz.underlying9) Tryz.underlying9 hl0
    · intro x c1 c2 kl yd yp w2 cnt2 hkey hlk hv hat hrg2 hlt hg2 hs2 hen
      obtain ⟨x', ex, rfl, _⟩ := Maps.keyOf_str Tryz.underlying9 hkey
      obtain rfl : x = x' := encStr_inj ex
      obtain ⟨c', ec, ez⟩ := pairR_some hv
      obtain ⟨d1, d2⟩ := c'
      have ec : (.agg #[sV c1, sV c2] : Value) = .agg #[sV d1, sV d2] := ec
      have e12 : c1 = d1 ∧ c2 = d2 := by simpa using ec
      obtain ⟨rfl, rfl⟩ := e12
      obtain rfl : yd = pairD (c1, c2) := (Prod.mk.inj ez).1
      have hJ2 : J (qs.map (·.2)) w2 := hJ _ wr w2 (some W.heap.size) hJs hg2 (fun r e => by cases e; exact ⟨Nat.le_refl _, hrg.iter_walk⟩)
      have hJa : J (qs.map (·.2)) (w2.alloc (.cells #[sV c1, sV c2] 86)) := hJ _ _ _ none hJ2 (World.grownBy_alloc _ _ _) (fun r e => by cases e)
      have hka : KeepsWalks w2 (w2.alloc (.cells #[sV c1, sV c2] 86)) := KeepsWalks.alloc _ _
      have hBk := Bk.new w2 86 #[sV c1, sV c2]
      have k0 : (w2.alloc (.cells #[sV c1, sV c2] 86)).cell? ⟨w2.heap.size, 0, none⟩ = some (sV c1) := hBk.cell 0
      have k1 : (w2.alloc (.cells #[sV c1, sV c2] 86)).cell? ⟨w2.heap.size, 1, none⟩ = some (sV c2) := hBk.cell 1
      obtain ⟨fn, tmps, assign, body, hy, hR⟩ := hY (qs.map (·.2)) (c1, c2) _ hJa (by simp; omega)
      dsimp only [encP] at hy ⊢
      clear hs2
      gi_wp2
      refine hR.mono ?_
      have hC2 : Collected (mapD L) (fun z => left z && !z.sameKey (.string x)) ((qs ++ [(x, (c1, c2))]).map (·.1)) := by simpa using hC.step hlk hat
      have hV2 : ∀ q ∈ qs ++ [(x, (c1, c2))], AtP L q := fun q hq => (List.mem_append.1 hq).elim (hV q) (fun e => by simp at e; subst e; exact hat)
      rintro e W3 (⟨rfl, hJ3, hk3⟩ | ⟨rfl, hJx3⟩)
      · gi_wp2
        have hrg3 := hrg2.of_walks (hka.trans hk3)
        go_roundw
        case rel => exact ⟨_, cnt2, qs ++ [(x, (c1, c2))], hrg3, by simp; omega, hC2, hV2, by simpa using hJ3⟩
        case measure => rw [hrg3.left_eq, hrg.left_eq]; exact hlt
      · gi_wp2
        refine bodyPost_ret (results_none rfl _ _ _) rfl ?_
        exact ⟨⟨_, rfl⟩, .inr ⟨_, hJx3⟩⟩

theorem vals_stops (F : Fence) (n : Nat) (hf : F.fn 115) (hro : F.round = none) (hn : 1 ≤ n) (Bm b nn : Nat) (L : List Pr) (hS : Srt L) (w : World) (hBm : Bm < w.heap.size)
    (hm : w.cell? ⟨Bm, 0, none⟩ = some (.map (some b))) (hown : OwnM w b nn L) :
    SeqStopsK F n Tryz.prog 115 #[.pointer (some ⟨Bm, 0, none⟩)] (fun p : Pr => #[.agg (encP p)]) KeepsWalks (fun xs => xs.Perm L) (fun _ => True) L.length w := fun l J Jx W hW hJ _ hY h0 => by
  refine (vals_in F n hf hro hn l Bm b nn L hS J Jx hY W hJ ((hW.cell (p := ⟨Bm, 0, none⟩) hBm).trans hm) (hown.below hW hown.lt) h0).mono ?_
  rintro e W' ⟨h1, h2 | ⟨pre, h2⟩⟩
  · exact ⟨h1, .inl h2⟩
  · exact ⟨h1, .inr ⟨pre, trivial, h2⟩⟩
end Go.Proofs.YtfepjgafamaegaaGreat

/- slices.AppendSeq, slices.Collect, maps.Values over the program's pairs. -/
namespace Go.Proofs.YtfepjgafamaegaaGreat
open Go.RowKit Go.Shelf

attribute [local go_sem] Oper.semAt_some
abbrev valsV (Bm : Nat) : Value := .func (.func 115) #[] #[.pointer (some ⟨Bm, 0, none⟩)]

theorem bk_own {g : Nat} {t : TypeId} {cs : Array Value} (X Y : World) (row : Option Nat) (h : Bk X g t cs) (hg : X.grownBy Y row) (hr : ∀ r, row = some r → ∃ o : Obj, X.heap[r]? = some o ∧ o.isCells = false) : Bk Y g t cs :=
  h.grown hg (fun e => by
    obtain ⟨o, ho, hc⟩ := hr g e.symm
    rw [show X.heap[g]? = _ from h] at ho
    cases ho
    cases hc)

set_option maxRecDepth 100000 in
set_option maxHeartbeats 4000000 in
theorem appSeq_in (Bm b nn : Nat) (L : List Pr) (hS : Srt L) (w : World) (hlen : L.length ≤ 1000000) (hBm : Bm < w.heap.size) (hm : w.cell? ⟨Bm, 0, none⟩ = some (.map (some b))) (hown : OwnM w b nn L) :
    CallsIn Fence.wide 5 Tryz.prog 147 #[.slice none 0 0, valsV Bm] w fun e W' =>
      ∃ v xs, e = .returned v ∧ xs.Perm L ∧ W'.ownsRow w.heap.size 86 2 v xs.length (prCells xs) ∧ Below w.heap.size w W' := by
  obtain ⟨i0, hi, hz0, hz1, hz2⟩ := info_parts Tryz.infoPair
  refine callsIn_of_wp_marks Tryz.func147 rfl trivial ?_ rfl
  simp only [Tryz.ntmps147, List.size_toArray, List.length_cons, List.length_nil, Nat.reduceAdd, Nat.reduceSub, Array.replicate_succ, Array.replicate_zero, List.push_toArray, List.append_toArray, List.nil_append, List.cons_append]
  have bO := Boxed.new w 57 (.slice none 0 0)
  have hb0 : Below w.heap.size w (w.alloc (.cells #[.slice none 0 0] 57)) := (Below.refl _ _).alloc (Nat.le_refl _) _
  have hs0 : (w.alloc (.cells #[.slice none 0 0] 57)).heap.size = w.heap.size + 1 := by simp
  gi_wp2
  have hm1 : (w.alloc (.cells #[.slice none 0 0] 57)).cell? ⟨Bm, 0, none⟩ = some (.map (some b)) := (hb0.cell (p := ⟨Bm, 0, none⟩) hBm).trans hm
  have hown1 := hown.below hb0 hown.lt
  obtain ⟨w1, hw1⟩ : ∃ w1, w1 = w.alloc (.cells #[.slice none 0 0] 57) := ⟨_, rfl⟩
  rw [← hw1] at bO hb0 hs0 hm1 hown1 ⊢
  clear hw1
  refine wpIn_rangeFunc_ownH rfl (by decide) (gf := 115) (lb := #[.pointer (some ⟨Bm, 0, none⟩)]) rfl trivial (enters_of Tryz.func115 (by kernel_rfl) rfl)
    (vals_stops Fence.wide 4 trivial rfl (by decide) Bm b nn L hS w1 (by omega) hm1 hown1) walksK_t (walksK_b) (Below.refl _ _) (fun _ => rfl)
    (fun pre W => (∃ v, Boxed W w.heap.size 57 v ∧ W.ownsRow w1.heap.size 86 2 v pre.length (prCells pre) ∧ w1.heap.size ≤ W.heap.size) ∧ Below w.heap.size w W)
    (fun _ _ _ => False)
    (OwnFrom.and (Own.from (holdsRow_ownS w1.heap.size w.heap.size w1.heap.size 57 86 2 (fun pre => pre.length) (fun pre => prCells pre)) _) (ownFrom_below (Nat.le_refl _) (by omega)))
    (fun _ _ _ _ _ hs _ _ => hs)
    ⟨⟨_, bO, World.ownsRow_nil _ _ _ _, Nat.le_refl _⟩, hb0⟩
    (fun x a' W => ∃ Bx, w1.heap.size ≤ Bx ∧ Bk W Bx 86 #[sV x.1, sV x.2] ∧ a' = { tmps := #[.slice none 0 0, valsV Bm, .pointer (some ⟨w.heap.size, 0, none⟩), undef, .slice none 0 0, .pointer (some ⟨Bx, 0, none⟩), valsV Bm, .agg #[sV x.1, sV x.2], undef, undef, undef, undef, undef], defers := [] })
    (fun x a' _ X Y row hs hg hr => by obtain ⟨Bx, e1, e2, e3⟩ := hs; exact ⟨Bx, e1, bk_own X Y row e2 hg (fun r e => (hr r e).2), e3⟩)
    ?assign ?body ?done ?stop
  case assign =>
    rintro l pre x W K ⟨⟨v, hv, hrow, hws2⟩, hB2⟩ hK
    obtain ⟨x1, x2⟩ := x
    gi_wp2
    exact hK _ _ ((KeepsOthers.alloc _ _).from _) (KeepsWalks.alloc _ _) ⟨⟨v, hv.alloc _, hrow.alloc _, by simp; omega⟩, hB2.alloc hB2.size _⟩ ⟨W.heap.size, by omega, Bk.new W 86 _, rfl⟩
  case body =>
    rintro l pre x a' W hl ⟨r, hr⟩ ⟨⟨v, hv, hrow, hws2⟩, hB2⟩ ⟨Bx, hBx, bX, rfl⟩ hlt2
    obtain ⟨x1, x2⟩ := x
    have hc := hv.cell
    have k0 : W.cell? ⟨Bx, 0, none⟩ = some (sV x1) := bX.cell 0
    have k1 : W.cell? ⟨Bx, 1, none⟩ = some (sV x2) := bX.cell 1
    have hpl : pre.length ≤ 1000000 := by omega
    have hrow0 := own_mono (base' := w.heap.size) hrow (by omega)
    gi_wp2_with (gi_at_builtin; refine wpListIn_append_own _ rfl _ _ 57 rfl w1.heap.size 86 i0 (.agg #[.string ByteArray.empty, .string ByteArray.empty]) 2 32 Tryz.underlying57 hi hz0 hz1 hz2 rfl (by decide) _ _ _ rfl (hrow.alloc _) ⟨W.heap.size, 0, none⟩ 1 1 [sV x1, sV x2] rfl rfl (cell_two_new _ _ _ _) (by intro u hu; simp at hu; rcases hu with rfl | rfl <;> rfl) (by unfold maxLen; omega) (by omega) (by simp; omega) ?_; intro v' w5 hown' hgrow _; obtain ⟨g', cap', rfl⟩ := ownsRow_succ hown'; obtain ⟨hv1, hv2, hr2, hk2, hb2⟩ := hv.appended (by decide) hrow0 hB2.size (Nat.le_refl _) (own_mono (base' := w.heap.size) hown' (by omega)) hgrow; have hc1 := hv1.cell; have hf1 := hv1.frozen)
    have hz5 := hgrow.size
    refine ⟨hk2.from _, hk2.walks, ⟨_, hv2, ?_, by simp [World.setCell] at hz5 ⊢; omega⟩, hB2.trans hb2⟩
    rw [List.length_append, prCells_snoc]
    rw [← hs0]
    exact hown'.kept (grownBy_setCell' w5 w.heap.size _) (.inr (hv1.not_row (by decide) hown').symm)
  case done =>
    rintro D ys W hD hp ⟨⟨v, hv, hrow1, -⟩, hB2⟩ hK
    have hc := hv.cell
    have hrow := own_mono (base' := w.heap.size) hrow1 (by omega)
    gi_wp2
    refine ⟨by simp, .inl ⟨_, _, rfl, run_takeDeferred hK, ?_⟩⟩
    exact ⟨_, results_tmp rfl _ _ _, v, ys, rfl, hp, ownsRow_putObj hrow _ hK rfl, hB2.trans (belowK_b (w := w) (Nat.le_refl _) W D _ _ (by omega) hK rfl rfl)⟩
  case stop =>
    rintro D c pre W _ _ h _
    exact h.elim

set_option maxRecDepth 100000 in
set_option maxHeartbeats 2000000 in
theorem collect_any (Bm b nn : Nat) (L : List Pr) (hS : Srt L) (w : World) (hlen : L.length ≤ 1000000) (hBm : Bm < w.heap.size) (hm : w.cell? ⟨Bm, 0, none⟩ = some (.map (some b))) (hown : OwnM w b nn L) :
    Calls Tryz.prog 113 #[valsV Bm] w fun e W' =>
      ∃ v xs, e = .returned v ∧ xs.Perm L ∧ W'.ownsRow w.heap.size 86 2 v xs.length (prCells xs) ∧ Below w.heap.size w W' := by
  have HC := Lib.hid (callsIn_wide.1 (appSeq_in Bm b nn L hS w hlen hBm hm hown))
  go_enter Tryz.func113, Tryz.ntmps113
  go_wp2_with fail
  refine HC.out.mono ?_
  rintro e W' ⟨v, xs, rfl, hp, hr, hb⟩
  go_wp2
  go_ret
  exact ⟨v, xs, rfl, hp, hr, hb⟩
set_option maxRecDepth 100000 in
set_option maxHeartbeats 1000000 in
theorem values_any (mb : Option Nat) (w : World) :
    Calls Tryz.prog 78 #[.map mb] w fun e w' => e = .returned (valsV w.heap.size) ∧ w' = w.alloc (.cells #[.map mb] 109) := by
  go_enter Tryz.func78, Tryz.ntmps78
  go_wp2
  go_ret
  exact ⟨rfl, rfl⟩
end Go.Proofs.YtfepjgafamaegaaGreat
