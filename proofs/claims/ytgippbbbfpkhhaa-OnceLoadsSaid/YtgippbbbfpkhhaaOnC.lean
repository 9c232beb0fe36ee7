/- Layer 13, the program's table: Clients. -/
import Derived.Test.YtgippbbbfpkhhaaOnT
namespace Go.Proofs.Ytgippbbbfpkhhaa
open Go.RowKit Go.Maps

theorem own4_cell {w : World} {base : Nat} {v : Value} {es : List Cle} (h : w.ownsRow base 64 4 v es.length (clC es)) (i : Nat) (hi : i < es.length) : ∃ R c, v = .slice (some ⟨R, 0, none⟩) es.length c ∧ base ≤ R ∧ R < w.heap.size ∧ w.cell? ⟨R, i * 4, none⟩ = some (.int .u64 (es[i].1.id : Int)) ∧ w.cell? ⟨R, i * 4 + 1, none⟩ = some (.int .u64 (es[i].1.num : Int)) ∧ w.cell? ⟨R, i * 4 + 2, none⟩ = some (.bool es[i].1.busy) ∧ w.cell? ⟨R, i * 4 + 3, none⟩ = some (s3W es[i].2) ∧ w.frozen? ⟨R, i * 4 + 3, none⟩ = false := by
  have hlt := h.lt
  rcases h.2 with ⟨_, h0⟩ | ⟨g, cap, cur, rfl, hb, hh, h1, h2, _⟩
  · omega
  · have q := fun j (hj : j < 4) u (hu : (clE es[i])[j]? = some u) => h.cells (g := g) rfl (i * 4 + j) u (by rw [clC_at es i j hi hj]; exact hu)
    have q0 := q 0 (by omega) _ rfl
    have q1 := q 1 (by omega) _ rfl
    have q2 := q 2 (by omega) _ rfl
    have q3 := q 3 (by omega) _ rfl
    rw [Addr.add_lit, Nat.zero_add] at q0 q1 q2 q3
    exact ⟨g, cap, rfl, hb, (hlt g rfl).2, q0, q1, q2, q3, h.frozenAt _⟩
theorem over_one (xs : List Value) (o : Nat) (v : Value) (h : o < xs.length) : over xs o [v] = xs.set o v := by
  rw [← over_cons xs o v [] h, over_nil]
theorem over_rep (es : List Cle) (i : Nat) (hi : i < es.length) (s : Sl3) : over (clC es) (i * 4 + 3) [s3W s] = clC (es.set i (es[i].1, s)) := by
  have hl := clC_len es
  rw [over_one _ _ _ (by omega)]
  have h1 := flat_set (f := clE) (s := 4) es (fun _ _ => rfl) i (es[i].1, s) hi rfl
  show _ = (es.set i (es[i].1, s)).flatMap clE
  rw [← h1]
  have e0 := clC_at es i 0 hi (by decide)
  have e1 := clC_at es i 1 hi (by decide)
  have e2 := clC_at es i 2 hi (by decide)
  apply List.ext_getElem?
  intro j
  rw [over_get _ _ _ (by show i * 4 + 4 ≤ (clC es).length; omega)]
  show _ = if i * 4 ≤ j ∧ j < i * 4 + 4 then (clE (es[i].1, s))[j - i * 4]? else (clC es)[j]?
  rw [List.getElem?_set]
  by_cases hj : i * 4 + 3 = j
  · rw [if_pos hj, if_pos (by omega), if_pos (by omega)]
    subst hj
    rw [show i * 4 + 3 - i * 4 = 3 by omega]
    rfl
  · rw [if_neg hj]
    by_cases h4 : i * 4 ≤ j ∧ j < i * 4 + 4
    · rw [if_pos h4]
      have : j = i * 4 + 0 ∨ j = i * 4 + 1 ∨ j = i * 4 + 2 := by omega
      rcases this with rfl | rfl | rfl
      · rw [e0, show i * 4 + 0 - i * 4 = 0 by omega]; rfl
      · rw [e1, show i * 4 + 1 - i * 4 = 1 by omega]; rfl
      · rw [e2, show i * 4 + 2 - i * 4 = 2 by omega]; rfl
    · rw [if_neg h4]
section
variable {w w' : World} {F F' G : Nat → Prop} {g n c : Nat} {t : Tb} {A : Option Addr} {es : List Cle} {dn : Bool} {mp : Option Nat}
def CloneE (w : World) (es : List Cle) (e : Ending) (w' : World) : Prop := ∃ A c, e = .returned (.slice A es.length c) ∧ Hid (w'.ownsRow w.heap.size 64 4 (.slice A es.length c) es.length (clC es) ∧ Below w.heap.size w w')
set_option maxRecDepth 100000 in
set_option maxHeartbeats 2000000 in
theorem cloneCs_any (h : ClRow w F (.slice A n c) es) (hn : n ≤ 1000) : Calls Try.prog 49 #[.slice A n c] w (CloneE w es) := by
  obtain ⟨i0, hi0, hz0, hz1, hz2⟩ := info_parts Try.infoClient
  have q := fun (w : World) (a : Option Addr) (n c n' c' : Nat) => Lib.run_eql_slice_nil (P := Try.prog) w 47 64 a n c n' c' Try.underlying47
  obtain ⟨A1, c1, ev, hnc, hcm⟩ := h.shape
  injection ev with ev1 hl ev3
  subst ev1 ev3
  cases A with
  | none =>
    have hn0 : n = 0 := by
      rcases Nat.eq_zero_or_pos n with h0 | h0
      · exact h0
      · obtain ⟨b, c', e, _⟩ := h.cell 0 (by omega); cases e
    subst hn0
    obtain rfl : es = [] := List.eq_nil_of_length_eq_zero hl.symm
    clear h hl hnc hcm
    go_enter Try.func49, Try.ntmps49
    go_wp2
    go_ret
    exact ⟨none, 0, rfl, Lib.hid ⟨World.ownsRow_nil _ _ _ _, Below.refl _ _⟩⟩
  | some a =>
    have hb0 := (Below.refl w.heap.size w).alloc (Nat.le_refl _) (.cells #[] 64)
    have h' := h.below hb0
    have Hcells : Hid (∀ ad, (some a : Option Addr) = some ad → ∀ j u, (clC es)[j]? = some u → (w.alloc (.cells #[] 64)).cell? (ad.add j) = some u) := Lib.hid fun ad e j u hu => by
      rcases h'.own.2 with ⟨e2, _⟩ | ⟨g, cap, cur, e2, _⟩
      · cases e2
      · injection e2 with e2 _ _
        rw [e2] at e
        injection e with e
        subst e
        rw [e2] at h'
        exact h'.own.cells (g := g) rfl j u hu
    have Hl := Lib.hid hl
    clear hl h h' hnc hcm
    go_enter Try.func49, Try.ntmps49
    go_wp2_with (at_builtin; go_loud (refine wpList_append_app _ rfl _ _ 47 rfl w.heap.size 64 i0 (.agg #[.int .u64 0, .int .u64 0, .bool false, .slice none 0 0]) 4 48 Try.underlying47 hi0 hz0 hz1 hz2 rfl _ 0 [] rfl (World.ownsRow_made w #[] 0 (Nat.le_refl _) (Nat.zero_le _) rfl) (some a) n c (clC es) rfl (by rw [clC_len, Hl.out]) (by intro e; cases e) Hcells.out (clC_one es) (by unfold maxLen; omega) (by omega) (by simp) ?_))
    intro v' w1 ha
    have hb1 := ha.below hb0 (by simp) (by intro k hk; simp [Value.ownBlock] at hk; omega)
    have ho := ha.own
    rw [Nat.zero_add, List.nil_append] at ho
    obtain ⟨A', c', rfl, _⟩ := own_shape ho
    obtain rfl := Hl.out
    have HS := Lib.hid (And.intro ho hb1)
    clear Hcells ha ho hb0 hb1 Hl
    go_wp2
    go_ret
    exact ⟨A', c', rfl, HS⟩
/-- Clients of the call's own. -/
structure CliR (w : World) (base : Nat) (A : Option Addr) (c : Nat) (es : List Cle) : Prop where
  own : w.ownsRow base 64 4 (.slice A es.length c) es.length (clC es)
  each : ∀ e ∈ es, w.ownsRow base 5 1 (s3W e.2) e.1.rep.length (u8s e.1.rep)
def CliE (w : World) (t : Tb) (e : Ending) (w' : World) : Prop := ∃ A c m, e = .returned (.slice A m c) ∧ m = t.row.length ∧ Hid (∃ es, es.map (·.1) = t.row ∧ CliR w' w.heap.size A c es ∧ Below w.heap.size w w')
/-- Ahead of a round. -/
structure CliI (w : World) (t : Tb) (es0 : List Cle) (A : Option Addr) (c i : Nat) (wr : World) (es : List Cle) : Prop where
  eq : es.map (·.1) = t.row
  own : wr.ownsRow w.heap.size 64 4 (.slice A es.length c) es.length (clC es)
  done : ∀ j (hj : j < es.length), j < i → wr.ownsRow w.heap.size 5 1 (s3W es[j].2) es[j].1.rep.length (u8s es[j].1.rep)
  rest : ∀ j (hj : j < es.length), i ≤ j → es0[j]? = some es[j]
  bel : Below w.heap.size w wr
theorem CliI.below {es0 : List Cle} {i : Nat} (h : CliI w t es0 A c i w' es) {w2 : World} (hb : Below w'.heap.size w' w2) : CliI w t es0 A c i w2 es :=
  ⟨h.eq, own_below h.own hb (fun k e => (h.own.lt k e).2), fun j hj hi => own_below (h.done j hj hi) hb (fun k e => ((h.done j hj hi).lt k e).2), h.rest, h.bel.trans (hb.mono h.bel.size)⟩
theorem CliI.next {es0 : List Cle} {i : Nat} (h : CliI w t es0 A c i w' es) (hi : i < es.length) {R : Nat} (hA : A = some ⟨R, 0, none⟩) (s : Sl3) (hs : w'.ownsRow w.heap.size 5 1 (s3W s) es[i].1.rep.length (u8s es[i].1.rep)) : CliI w t es0 A c (i + 1) (w'.setCell ⟨R, i * 4 + 3, none⟩ (s3W s)) (es.set i (es[i].1, s)) := by
  subst hA
  have hb : w.heap.size ≤ R := (h.own.lt R rfl).1
  have hk : Kp (fun k => k = R) w' (w'.setCell ⟨R, i * 4 + 3, none⟩ (s3W s)) := Kp.set_ (F := fun k => k = R) (p := ⟨R, i * 4 + 3, none⟩) rfl _
  have hoff : ∀ {s' : Sl3} {l : List UInt8}, w'.ownsRow w.heap.size 5 1 (s3W s') l.length (u8s l) → ∀ k, (s3W s').ownBlock = some k → ¬ k = R := fun ho k e e2 => by
    subst e2
    exact own_sepC ho h.own (by decide) _ e rfl
  refine ⟨?_, ?_, fun j hj hji => ?_, fun j hj hji => ?_, h.bel.trans (hk.below (fun k e => e ▸ hb) h.bel.size)⟩
  · rw [← h.eq, List.map_set]
    apply List.ext_getElem?
    intro j
    rw [List.getElem?_set]
    by_cases e : i = j
    · subst e
      rw [if_pos rfl, if_pos (by rw [List.length_map]; exact hi), List.getElem?_map, List.getElem?_eq_getElem hi]
      rfl
    · rw [if_neg e]
  · rw [List.length_set, ← over_rep es i hi s]
    exact own_sets h.own (i * 4 + 3) [s3W s] (by show i * 4 + 4 ≤ es.length * 4; omega)
  · rw [List.length_set] at hj
    by_cases e : i = j
    · subst e
      rw [List.getElem_set_self]
      exact own_kp hs hk (hoff hs)
    · rw [List.getElem_set_ne e]
      have hd := h.done j hj (by omega)
      exact own_kp hd hk (hoff hd)
  · rw [List.length_set] at hj
    rw [List.getElem_set_ne (by omega)]
    exact h.rest j hj (by omega)
set_option maxRecDepth 100000 in
set_option maxHeartbeats 4000000 in
theorem clients_any (h : PT w F g t) (hok : t.Ok) : Calls Try.prog 26 #[.pointer (some ⟨g, 0, none⟩)] w (CliE w t) := by
  obtain ⟨A0, n0, c0, es0, dn, mp, h⟩ := h
  have hlen := h.len
  have hel := h.elen
  have hmost := hok.most
  have hrl := hok.len
  have g1 : w.cell? ⟨g, 1, none⟩ = some (.slice A0 n0 c0) := h.cells.2.1
  have HCl := Lib.hid (cloneCs_any h.row (by omega))
  have HRd : Hid (∀ W, Below w.heap.size w W → ∀ (j : Nat) (e : Cle), es0[j]? = some e → Rd W W.heap.size e.2.1 e.2.2.1 e.1.rep) := Lib.hid fun W hb j e he => ((RdF.of_own ((h.below hb).row.each e (List.mem_of_getElem? he))).rd)
  have HEq := Lib.hid h.eq
  have Hln : Hid (es0.length = n0 ∧ n0 = t.row.length) := Lib.hid ⟨hel, hlen⟩
  have hn64 : n0 ≤ 64 := by omega
  have HOk := Lib.hid hok.each
  clear h hok hlen hel hmost hrl
  go_enter Try.func26, Try.ntmps26
  go_wp2_with fail
  refine HCl.out.mono ?_
  clear HCl
  rintro e w1 ⟨A, c, rfl, HX⟩
  have HI : Hid (CliI w t es0 A c 0 w1 es0) := Lib.hid ⟨HEq.out, HX.out.1, fun j _ hj => by omega, fun j hj _ => List.getElem?_eq_getElem hj, HX.out.2⟩
  rw [Hln.out.1]
  clear HX g1
  go_wp2
  go_loopg [15] n0 (fun gk a wr => ∃ (i : Nat) (es : List Cle), a = .int .i64 (i : Int) ∧ i + gk = n0 ∧ Hid (CliI w t es0 A c i wr es))
  case atStart => exact ⟨0, es0, rfl, by omega, HI⟩
  case round =>
    obtain ⟨i, es, rfl, hig, HS⟩ := hrel
    have hesl : es.length = n0 := by
      have := congrArg List.length HS.out.eq
      rw [List.length_map] at this
      rw [this, Hln.out.2]
    by_cases hin : i < n0
    · have hie : i < es.length := by omega
      have m1 : (i : Int) < (n0 : Int) := by omega
      have m0 : ¬ (i : Int) < 0 := by omega
      have e1 : IntKind.i64.wrap ((i : Int) + 1) = ((i + 1 : Nat) : Int) := by rw [IntKind.wrap_i64]; omega
      obtain ⟨R, c', ev, hbR, hRs, q0, q1, q2, q3, qf⟩ := own4_cell HS.out.own i hie
      injection ev with ev ev2 ev3
      clear ev2 ev3
      subst ev
      have hrest := HS.out.rest i hie (Nat.le_refl _)
      have hmem : es[i].1 ∈ t.row := by rw [← HS.out.eq]; exact List.mem_map_of_mem (List.getElem_mem hie)
      have hrep := (HOk.out _ hmem).rep
      obtain ⟨⟨⟨id, num, busy, rep⟩, ⟨sA, sN, sC⟩⟩, hei⟩ : ∃ x, x = es[i] := ⟨_, rfl⟩
      rw [← hei] at q0 q1 q2 q3 hrest hrep
      unfold s3W at q3
      dsimp only at q0 q1 q2 q3 hrep
      obtain ⟨wx, hwx⟩ : ∃ wx, wx = wr.alloc (.cells #[.int .u64 (id : Int), .int .u64 (num : Int), .bool busy, .slice sA sN sC] 64) := ⟨_, rfl⟩
      have hbx : Below wr.heap.size wr wx := by rw [hwx]; exact bel1N _ _
      have hkx : Bk wx wr.heap.size 64 #[.int .u64 (id : Int), .int .u64 (num : Int), .bool busy, .slice sA sN sC] := by rw [hwx]; exact Bk.new wr _ _
      have hIx := HS.out.below hbx
      have hrdx := HRd.out wx hIx.bel i _ hrest
      have x3 : wx.cell? ⟨wr.heap.size, 3, none⟩ = some (.slice sA sN sC) := hkx.cell 3
      have hsn : rep.length = sN := hrdx.1
      have HCn := Lib.hid (cloneB_any sA sN sC wx.heap.size rep wx (by omega) (Nat.le_refl _) hrdx)
      have HIx := Lib.hid hIx
      have HWx := Lib.hid hwx
      have Hei := Lib.hid hei
      have Hsn := Lib.hid hsn
      have Hes := Lib.hid hesl
      clear hwx hbx hkx hIx hrdx hei hrest hmem HS hsn hbR hRs qf
      go_upto_region 7 with (fail)
      rw [← HWx.out]
      clear q0 q1 q2 q3
      go_wp2_with fail
      refine HCn.out.mono ?_
      clear HCn x3
      rintro e w2 ⟨v2, rfl, ho2, hb2⟩
      rw [← Hsn.out] at ho2
      obtain ⟨A2, c2, rfl, _⟩ := own_shape ho2
      have hI2 := HIx.out.below hb2
      obtain ⟨R', c'', ev, -, -, -, -, -, p3, pf⟩ := own4_cell hI2.own i hie
      injection ev with ev ev2 ev3
      injection ev with ev
      injection ev with ev ev4
      clear ev2 ev3 ev4
      subst ev
      have HN : Hid (CliI w t es0 (some ⟨R, 0, none⟩) c (i + 1) (w2.setCell ⟨R, i * 4 + 3, none⟩ (.slice A2 rep.length c2)) (es.set i (es[i].1, (A2, rep.length, c2)))) := Lib.hid (by
        refine hI2.next hie rfl (A2, rep.length, c2) ?_
        rw [← Hei.out]
        exact own_mono ho2 HIx.out.bel.size)
      have p3' : ∃ v, w2.cell? ⟨R, i * 4 + 3, none⟩ = some v := ⟨_, p3⟩
      obtain ⟨vv, p3''⟩ := p3'
      clear ho2 hb2 hI2 p3 HIx hesl
      go_wp2
      go_roundg (gk - 1)
      case measure => omega
      case rel => exact ⟨i + 1, _, by go_num, by omega, HN⟩
    · obtain rfl : i = n0 := by omega
      have m1 : ¬ (i : Int) < (i : Int) := by omega
      have HZ : Hid (∃ es, es.map (·.1) = t.row ∧ CliR wr w.heap.size A c es ∧ Below w.heap.size w wr) := Lib.hid ⟨es, HS.out.eq, ⟨HS.out.own, fun e he => by
        obtain ⟨j, hj, rfl⟩ := List.getElem_of_mem he
        exact HS.out.done j hj (by omega)⟩, HS.out.bel⟩
      have HL := Lib.hid Hln.out.2
      clear HS hesl Hln
      go_wp2
      go_ret
      exact ⟨A, c, i, rfl, HL.out, HZ⟩
end
end Go.Proofs.Ytgippbbbfpkhhaa
