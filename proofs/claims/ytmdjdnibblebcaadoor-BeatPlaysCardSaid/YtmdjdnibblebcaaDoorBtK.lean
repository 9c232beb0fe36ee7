/- Layer 14: two rows of numbers alike; a view of the call's own; the law's own view. -/
import Derived.Test.YtmdjdnibblebcaaDoorBtN
namespace Go.Proofs.YtmdjdnibblebcaaDoor
open Go.RowKit Go.Shelf Go.Lib Go.Sort

abbrev intsV (l : List Int) : List Value := l.map fun (x : Int) => Value.int .i64 x
theorem intsV_one (l : List Int) : ∀ u ∈ intsV l, u.oneCell' = true := by
  intro u hu
  obtain ⟨i, _, rfl⟩ := List.mem_map.1 hu
  rfl
theorem own_rdI {w : World} {base : Nat} {val : Value} {l : List Int} (h : w.ownsRow base 3 1 val l.length (intsV l)) (hb : ∀ x ∈ l, -9223372036854775808 ≤ x ∧ x ≤ 9223372036854775807) :
    ∃ A c, val = .slice A l.length c ∧ l.length ≤ c ∧ c ≤ maxLen ∧ RdI w w.heap.size A l.length l ∧ ∀ k o, A = some ⟨k, o, none⟩ → base ≤ k := by
  rcases h.2 with ⟨rfl, h0⟩ | ⟨k, c, cur, rfl, hbk, hh, h1, h2, _⟩
  · exact ⟨none, 0, by rw [h0], by omega, by unfold maxLen; omega, by rw [List.length_eq_zero_iff.1 h0]; exact RdI.nil _ _ _, fun k o e => by cases e⟩
  · refine ⟨some ⟨k, 0, none⟩, c, rfl, h1, h2, ⟨rfl, hb, fun _ => ⟨k, 0, rfl, (Array.getElem?_eq_some_iff.1 hh).1, fun j hj => ?_⟩⟩, fun k' o e => by injection e with e; injection e with e; omega⟩
    rw [Nat.zero_add, h.cellAt j (by omega)]
    simp [intsV, hj]
theorem natsV_ints (l : List Nat) : natsV l = intsV (l.map fun (i : Nat) => (i : Int)) := by simp [natsV, intsV]
set_option maxRecDepth 100000 in
set_option maxHeartbeats 1000000 in
theorem sameInts_any (A A2 : Option Addr) (n c n2 c2 : Nat) (l l2 : List Int) (w : World) (hn : n ≤ 9223372036854775807) (hr : RdI w w.heap.size A n l) (hr2 : RdI w w.heap.size A2 n2 l2) :
    Calls Tryd.prog 25 #[.slice A n c, .slice A2 n2 c2] w fun e w' => e = .returned (.bool (decide (l = l2))) ∧ ∃ q, w' = w.drewN q := by
  have hl := hr.1
  have hl2 := hr2.1
  by_cases hnn : n = n2
  · subst hnn
    have hs : ((n : Int) == (n : Int)) = true := by simp
    have HR := Lib.hid hr
    have HR2 := Lib.hid hr2
    have HL := Lib.hid (And.intro hl hl2)
    clear hr hr2 hl hl2
    go_enter Tryd.func25, Tryd.ntmps25
    go_wp2
    go_loopg [5] n (fun gk a wr => ∃ i : Nat, a = .int .i64 (i : Int) ∧ i + gk = n ∧ Hid (l.take i = l2.take i) ∧ ∃ q, wr = w.drewN q)
    case atStart => exact ⟨0, rfl, by omega, Lib.hid rfl, 0, rfl⟩
    case round =>
      obtain ⟨i, rfl, hig, HT, q, rfl⟩ := hrel
      by_cases hin : i < n
      · have m1 : (i : Int) < (n : Int) := by omega
        have m0 : ¬ (i : Int) < 0 := by omega
        have e1 : IntKind.i64.wrap ((i : Int) + 1) = ((i + 1 : Nat) : Int) := by rw [IntKind.wrap_i64]; omega
        obtain ⟨b, o, rfl, _, hc⟩ := HR.out.2.2 (by omega)
        obtain ⟨b2, o2, rfl, _, hc2⟩ := HR2.out.2.2 (by omega)
        have hi1 : i < l.length := by rw [HL.out.1]; exact hin
        have hi2 : i < l2.length := by rw [HL.out.2]; exact hin
        have q0 := hc i hi1
        have q1 := hc2 i hi2
        obtain ⟨x, hx⟩ : ∃ x, x = l[i] := ⟨_, rfl⟩
        obtain ⟨y, hy⟩ : ∃ y, y = l2[i] := ⟨_, rfl⟩
        rw [← hx] at q0
        rw [← hy] at q1
        have HX := Lib.hid (show l.take (i + 1) = l.take i ++ [x] by rw [List.take_succ_eq_append_getElem hi1, hx])
        have HY := Lib.hid (show l2.take (i + 1) = l2.take i ++ [y] by rw [List.take_succ_eq_append_getElem hi2, hy])
        clear hc hc2 hx hy
        by_cases hxy : x = y
        · subst hxy
          have hxx : (x == x) = true := by simp
          go_wp2_with (fail)
          go_quiet (fail)
          go_wp2
          go_roundg (gk - 1)
          case measure => omega
          case rel => exact ⟨i + 1, by go_num, by omega, Lib.hid (by rw [HX.out, HY.out, HT.out]), _, rfl⟩
        · have hxx : (x == y) = false := by simpa using hxy
          have hne : Hid (decide (l = l2) = false) := Lib.hid (decide_eq_false fun e => by
            have h1 := HX.out
            rw [e, HY.out] at h1
            have := List.append_cancel_left h1
            injection this with h2
            exact hxy h2.symm)
          go_wp2_with (fail)
          go_quiet (fail)
          go_wp2
          go_ret
          exact ⟨by rw [hne.out]; rfl, _, World.drewN_drewN w _ _⟩
      · obtain rfl : i = n := by omega
        have m1 : ¬ (i : Int) < (i : Int) := by omega
        go_wp2
        go_ret
        refine ⟨?_, q, rfl⟩
        have : l = l2 := by
          have h1 := HT.out
          rwa [List.take_of_length_le (by have := HL.out; omega), List.take_of_length_le (by have := HL.out; omega)] at h1
        rw [decide_eq_true this]
        rfl
  · have hs : ((n : Int) == (n2 : Int)) = false := by simp; omega
    have hne : decide (l = l2) = false := decide_eq_false fun e => by subst e; omega
    rw [hne]
    clear hr hr2 hl hl2
    go_enter Tryd.func25, Tryd.ntmps25
    go_wp2
    go_ret
    exact ⟨rfl, 0, rfl⟩

/-- A view of the call's own, made since W. -/
structure OV (W w : World) (g b c : Nat) (v : Vw) : Prop where
  pv : PV w g b c v
  gg : W.heap.size ≤ g
  gb : W.heap.size ≤ b
section
variable {W w w' : World} {g b c : Nat} {v : Vw}
theorem OV.kp {F : Nat → Prop} (h : OV W w g b c v) (hk : Kp F w w') (hg : ¬ F g) (hb : ¬ F b) : OV W w' g b c v := ⟨h.pv.kp hk hg hb, h.gg, h.gb⟩
theorem OV.below (h : OV W w g b c v) (hb : Below w.heap.size w w') : OV W w' g b c v := ⟨h.pv.below hb, h.gg, h.gb⟩
theorem OV.bel (h : OV W w g b c v) (hb : Below W.heap.size W w) (hk : Kp (fun k => k = g ∨ k = b) w w') : Below W.heap.size W w' :=
  hb.trans (hk.below (fun k e => by rcases e with rfl | rfl; exact h.gg; exact h.gb) hb.size)
end
/-! ### the law's own view -/
def siteL (l : List Int) : List Int := if l = [] then [0, 1, 1] else (l.take 12).map fun x => x % 18446744073709551616 % 12
def viewV (l : List Int) (me pat : Int) : Vw := mkV (siteL l) (me % 18446744073709551616 % (siteL l).length).toNat (1 + pat % 18446744073709551616 % 9).toNat
theorem siteL_len (l : List Int) : 1 ≤ (siteL l).length ∧ (siteL l).length ≤ 12 := by
  unfold siteL
  split
  · exact ⟨by decide, by decide⟩
  · rename_i h
    rw [List.length_map, List.length_take]
    have : 0 < l.length := List.length_pos_iff.2 h
    omega
theorem siteL_in (l : List Int) : ∀ x ∈ siteL l, 0 ≤ x ∧ x < 12 := by
  unfold siteL
  split
  · intro x hx; simp at hx; omega
  · intro x hx
    obtain ⟨y, _, rfl⟩ := List.mem_map.1 hx
    omega
theorem view_right (l : List Int) (me pat : Int) : rightN (siteL l) (me % 18446744073709551616 % (siteL l).length).toNat (1 + pat % 18446744073709551616 % 9).toNat = true := by
  have h1 := siteL_len l
  have h2 := siteL_in l
  have h3 : (siteL l).any noSite = false := by
    rw [List.any_eq_false]
    intro x hx
    have := h2 x hx
    unfold noSite
    simp; omega
  unfold rightN
  rw [h3]
  have h4 : 0 ≤ me % 18446744073709551616 % ((siteL l).length : Int) := Int.emod_nonneg _ (by omega)
  have h5 : me % 18446744073709551616 % ((siteL l).length : Int) < (siteL l).length := Int.emod_lt_of_pos _ (by omega)
  simp
  omega
/-- What the law's own view is. -/
def ViewE (W : World) (v : Vw) (e : Ending) (w' : World) : Prop := ∃ g b c, e = .returned (.pointer (some ⟨g, 0, none⟩)) ∧ Hid (OV W w' g b c v ∧ Below W.heap.size W w')
/-- The sites so far. -/
structure ViI (W : World) (val : Value) (s : List Int) (wr : World) : Prop where
  own : wr.ownsRow W.heap.size 3 1 val s.length (intsV s)
  bel : Below W.heap.size W wr
set_option maxRecDepth 100000 in
set_option maxHeartbeats 4000000 in
theorem view_any (A : Option Addr) (n c : Nat) (l : List Int) (me pat : Int) (w : World) (hn : n ≤ 9223372036854775807) (hr : RdI w w.heap.size A n l) :
    Calls Tryd.prog 27 #[.slice A n c, .int .i64 me, .int .i64 pat] w (ViewE w (viewV l me pat)) := by
  have hl := hr.1
  have HR := Lib.hid hr
  have HL := Lib.hid hl
  have Hi : Hid (ViI w (.slice none 0 0) [] w) := Lib.hid ⟨World.ownsRow_nil _ _ _ _, Below.refl _ _⟩
  obtain ⟨i0, hi0, hz0, hz1, hz2⟩ := info_parts infoIntB
  clear hr hl
  go_enter Tryd.func27, Tryd.ntmps27
  go_wp2
  go_loopg [7, 8] (min n 12) (fun gk a d wr => ∃ i : Nat, d = .int .i64 (i : Int) ∧ i + gk = min n 12 ∧ ∃ Ar cr, a = .slice Ar i cr ∧ Hid (ViI w (.slice Ar i cr) ((l.take i).map fun x => x % 18446744073709551616 % 12) wr))
  case atStart => exact ⟨0, rfl, by omega, none, 0, rfl, Hi⟩
  case round =>
    obtain ⟨i, rfl, hig, Ar, cr, rfl, HI⟩ := hrel
    by_cases hin : i < min n 12
    · have h12 : i < 12 := by omega
      have hin2 : i < n := by omega
      have m1 : (i : Int) < (n : Int) := by omega
      have m2 : (i : Int) < 12 := by omega
      have m0 : ¬ (i : Int) < 0 := by omega
      have e1 : IntKind.i64.wrap ((i : Int) + 1) = ((i + 1 : Nat) : Int) := by rw [IntKind.wrap_i64]; omega
      have hil : i < l.length := by rw [HL.out]; exact hin2
      obtain ⟨b, o, rfl, hbl, hc⟩ := (HR.out.below HI.out.bel).2.2 (by omega)
      have q0 := hc i hil
      obtain ⟨x, hx⟩ : ∃ x, x = l[i] := ⟨_, rfl⟩
      rw [← hx] at q0
      have e2 : IntKind.u64.wrap x = x % 18446744073709551616 := IntKind.wrap_u64 x
      have HTk := Lib.hid (show (l.take (i + 1)).map (fun x => x % 18446744073709551616 % 12) = ((l.take i).map fun x => x % 18446744073709551616 % 12) ++ [x % 18446744073709551616 % 12] by rw [List.take_succ_eq_append_getElem hil, List.map_append, hx]; rfl)
      have hlen : ((l.take i).map fun x => x % 18446744073709551616 % 12).length = i := by rw [List.length_map, List.length_take]; omega
      have HLen := Lib.hid hlen
      have HO := Lib.hid HI.out.own
      have e3 : (x % 18446744073709551616).tmod 12 = x % 18446744073709551616 % 12 := Int.tmod_eq_emod_of_nonneg (Int.emod_nonneg _ (by omega))
      have e4 : IntKind.i64.wrap (x % 18446744073709551616 % 12) = x % 18446744073709551616 % 12 := by rw [IntKind.wrap_i64]; omega
      clear hx hc hlen
      go_wp2_with (at_builtin; refine (?_ : _ ∧ True).1)
      refine ⟨?_, trivial⟩
      refine wpList_append_app _ rfl _ _ 22 rfl w.heap.size 3 i0 (.int .i64 0) 1 8 Tryd.underlying22 hi0 hz0 hz1 hz2 rfl _ i (intsV ((l.take i).map fun x => x % 18446744073709551616 % 12)) rfl (own_below (by have := HO.out; rwa [HLen.out] at this) (belA wr _) fun k hk => (HO.out.lt k hk).2) (some ⟨wr.heap.size, 0, none⟩) 1 1 (intsV [x % 18446744073709551616 % 12]) rfl rfl (by intro e; cases e) (new_cells wr _ 3 rfl) (intsV_one _) (by unfold maxLen; omega) (by omega) (by have := HI.out.bel.size; simp; omega) ?_
      intro v' w5 ha
      obtain ⟨A6, c6, rfl, _⟩ := own_shape ha.own
      have HI6 : Hid (ViI w (.slice A6 (i + 1) c6) ((l.take (i + 1)).map fun x => x % 18446744073709551616 % 12) w5) := Lib.hid ⟨by
        have := ha.own
        rw [show intsV ((l.take i).map fun x => x % 18446744073709551616 % 12) ++ intsV [x % 18446744073709551616 % 12] = intsV ((l.take (i + 1)).map fun x => x % 18446744073709551616 % 12) by rw [HTk.out]; simp [intsV]] at this
        have e8 : ((l.take (i + 1)).map fun x => x % 18446744073709551616 % 12).length = i + 1 := by rw [List.length_map, List.length_take]; omega
        rw [e8]
        exact this, ha.below (HI.out.bel.trans ((belA wr _).mono HI.out.bel.size)) (by have := HI.out.bel.size; simp; omega) fun k hk => (HO.out.lt k hk).1⟩
      clear ha HO
      go_wp2
      go_roundg (gk - 1)
      case measure => omega
      case rel => exact ⟨i + 1, by go_num, by omega, A6, c6, rfl, HI6⟩
    · have hi : i = min n 12 := by omega
      have hs : ((l.take i).map fun x => x % 18446744073709551616 % 12) = if l = [] then [] else siteL l := by
        unfold siteL
        by_cases h0 : l = []
        · rw [if_pos h0, h0]; simp
        · rw [if_neg h0, if_neg h0]
          have h1 := HL.out
          by_cases h2 : n ≤ 12
          · rw [List.take_of_length_le (by omega), List.take_of_length_le (by omega)]
          · rw [show i = 12 by omega]
      obtain ⟨P, hP⟩ : ∃ P, P = (1 + pat % 18446744073709551616 % 9).toNat := ⟨_, rfl⟩
      have p1 : (pat % 18446744073709551616).tmod 9 = pat % 18446744073709551616 % 9 := Int.tmod_eq_emod_of_nonneg (Int.emod_nonneg _ (by omega))
      have p2 : IntKind.u64.wrap pat = pat % 18446744073709551616 := IntKind.wrap_u64 pat
      have p3 : IntKind.u64.wrap me = me % 18446744073709551616 := IntKind.wrap_u64 me
      have p4 : IntKind.i64.wrap (pat % 18446744073709551616 % 9) = pat % 18446744073709551616 % 9 := by rw [IntKind.wrap_i64]; omega
      have p5 : IntKind.i64.wrap (1 + pat % 18446744073709551616 % 9) = (P : Int) := by rw [IntKind.wrap_i64]; omega
      have p6 : 1 + pat % 18446744073709551616 % 9 = (P : Int) := by omega
      by_cases h0 : i = 0
      · -- no site was handed in
        have hn0 : n = 0 := by omega
        have hl0 : l = [] := List.length_eq_zero_iff.1 (by rw [HL.out]; exact hn0)
        have hsl : siteL l = [0, 1, 1] := by unfold siteL; rw [if_pos hl0]
        obtain ⟨M, hM⟩ : ∃ M, M = (me % 18446744073709551616 % 3).toNat := ⟨_, rfl⟩
        have hM2 : me % 18446744073709551616 % 3 = (M : Int) := by omega
        have hv : viewV l me pat = mkV [0, 1, 1] M P := by unfold viewV; rw [hsl, hM, hP]; rfl
        have hgood : rightN [0, 1, 1] M P = true := by
          have := view_right l me pat
          rw [hsl] at this
          rw [hM, hP]
          exact this
        obtain ⟨wl, hwl⟩ : ∃ wl, wl = wr.alloc (.cells #[.int .i64 0, .int .i64 1, .int .i64 1] 3) := ⟨_, rfl⟩
        have hbl : Below wr.heap.size wr wl := by rw [hwl]; exact belA _ _
        have hkl : Bk wl wr.heap.size 3 #[.int .i64 0, .int .i64 1, .int .i64 1] := by rw [hwl]; exact Bk.new wr _ _
        have hrd : RdI wl wl.heap.size (some ⟨wr.heap.size, 0, none⟩) 3 [0, 1, 1] := ⟨rfl, by intro x hx; simp at hx; omega, fun _ => ⟨_, _, rfl, hkl.lt, fun j hj => by
          rw [Nat.zero_add, hkl.cell]
          have : j = 0 ∨ j = 1 ∨ j = 2 := by simp at hj; omega
          rcases this with rfl | rfl | rfl <;> rfl⟩⟩
        have HN := Lib.hid (new_ok (some ⟨wr.heap.size, 0, none⟩) 3 3 wl [0, 1, 1] M P hrd hgood)
        have HW := Lib.hid hwl
        have HBL := Lib.hid (And.intro hbl (HI.out.bel.trans (hbl.mono HI.out.bel.size)))
        have m1 : ¬ (i : Int) < (n : Int) := by omega
        have m2 : ((i : Int) == 0) = true := by simp; omega
        have q1 : (me % 18446744073709551616).tmod 3 = me % 18446744073709551616 % 3 := Int.tmod_eq_emod_of_nonneg (Int.emod_nonneg _ (by omega))
        have q2 : IntKind.i64.wrap (me % 18446744073709551616 % 3) = (M : Int) := by rw [IntKind.wrap_i64]; omega
        have HV := Lib.hid hv
        clear hP hM hl0 hsl hs hv hgood hbl hkl hrd hwl h0 hi hin hig
        go_wp2_with fail
        rw [← HW.out]
        refine HN.out.mono ?_
        rintro e w9 ⟨g, b, cc, rfl, HE⟩
        go_wp2
        go_ret
        refine ⟨g, b, cc, rfl, ?_⟩
        rw [HV.out]
        have hsz := HBL.out.2.size
        exact Lib.hid ⟨⟨HE.out.1, by have := HE.out.2.1; omega, by have := HE.out.2.2.1; omega⟩, HBL.out.2.trans (HE.out.2.2.2.mono hsz)⟩
      · have hl0 : l ≠ [] := fun e => by rw [e] at hs; have := HL.out; rw [e] at this; simp at this; omega
        rw [if_neg hl0] at hs
        have hlen : (siteL l).length = i := by rw [← hs, List.length_map, List.length_take]; have := HL.out; omega
        have ho := HI.out.own
        rw [hs] at ho
        obtain ⟨A9, c9, hval, hc1, hc2, hrd, hge⟩ := own_rdI ho (fun x hx => by have := siteL_in l x hx; omega)
        injection hval with e9 e7 e8
        subst e9 e8
        clear e7
        rw [hlen] at hrd
        obtain ⟨M, hM⟩ : ∃ M, M = (me % 18446744073709551616 % (i : Int)).toNat := ⟨_, rfl⟩
        have hi0 : 0 < (i : Int) := by omega
        have hM1 : 0 ≤ me % 18446744073709551616 % (i : Int) := Int.emod_nonneg _ (by omega)
        have hM0 : me % 18446744073709551616 % (i : Int) < (i : Int) := Int.emod_lt_of_pos _ hi0
        have hM2 : me % 18446744073709551616 % (i : Int) = (M : Int) := by omega
        have hv : viewV l me pat = mkV (siteL l) M P := by unfold viewV; rw [hlen, hM, hP]
        have hgood : rightN (siteL l) M P = true := by
          have := view_right l me pat
          rw [hlen] at this
          rw [hM, hP]
          exact this
        have HN := Lib.hid (new_ok Ar i cr wr (siteL l) M P hrd hgood)
        have HBL := Lib.hid HI.out.bel
        have m1 : ¬ ((i : Int) < (n : Int) ∧ (i : Int) < 12) := by omega
        have m2 : ((i : Int) == 0) = false := by simp; omega
        have m3 : ¬ (i : Int) = 0 := by omega
        have q1 : (me % 18446744073709551616).tmod (i : Int) = (M : Int) := by rw [Int.tmod_eq_emod_of_nonneg (Int.emod_nonneg _ (by omega))]; exact hM2
        have q2 : IntKind.i64.wrap (M : Int) = (M : Int) := by rw [IntKind.wrap_i64]; omega
        have q3 : IntKind.u64.wrap (i : Int) = (i : Int) := by rw [IntKind.wrap_u64]; omega
        have HV := Lib.hid hv
        have hcase : (¬ (i : Int) < (n : Int)) ∨ ((i : Int) < (n : Int) ∧ ¬ (i : Int) < 12) := by omega
        clear hP hM hl0 hs hv hgood hrd h0 hi hin hig hlen ho hc1 hc2 hge hM1 hM0 hi0 m1
        rcases hcase with m1 | ⟨m1, m4⟩
        all_goals
          go_wp2_with fail
          refine HN.out.mono ?_
          rintro e w9 ⟨g, b, cc, rfl, HE⟩
          go_wp2
          go_ret
          refine ⟨g, b, cc, rfl, ?_⟩
          rw [HV.out]
          have hsz := HBL.out.size
          exact Lib.hid ⟨⟨HE.out.1, by have := HE.out.2.1; omega, by have := HE.out.2.2.1; omega⟩, HBL.out.trans (HE.out.2.2.2.mono hsz)⟩
end Go.Proofs.YtmdjdnibblebcaaDoor
