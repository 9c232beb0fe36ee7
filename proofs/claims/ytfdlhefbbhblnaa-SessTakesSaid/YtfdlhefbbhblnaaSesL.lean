/- Layer 7's laws: what the chapter's example fixes. -/
import Derived.Test.YtfdlhefbbhblnaaSesK
namespace Go.Proofs.Ytfdlhefbbhblnaa
open Go.RowKit Go.Maps

def ks0 : Sd := ⟨1, 2, 3, 0, 0, []⟩
def ks1 : Sd := ⟨1, 2, 3, 0, 0, [([97], 0)]⟩
def ks2 : Sd := ⟨1, 2, 3, 0, 0, [([97], 0), ([98], 0)]⟩
def ks3 : Sd := ⟨1, 2, 3, 0, 0, [([97], 0), ([98], 0), ([99], 0)]⟩
def ks4 : Sd := ⟨1, 2, 3, 1, 0, [([97], 1), ([98], 1), ([99], 0)]⟩
def ks5 : Sd := ⟨1, 2, 3, 2, 0, [([97], 1), ([98], 1), ([99], 0)]⟩
def ks6 : Sd := ⟨1, 2, 3, 3, 0, [([97], 1), ([98], 1), ([99], 0)]⟩
def ks7 : Sd := ⟨1, 2, 3, 4, 0, [([97], 4), ([98], 4), ([99], 0)]⟩
def ks8 : Sd := ⟨1, 2, 3, 4, 2, [([99], 0)]⟩
def ks9 : Sd := ⟨1, 2, 3, 5, 2, [([99], 5)]⟩
def kg1 : Sg := ⟨1, 1, false, [97]⟩
def kg2 : Sg := ⟨1, 2, false, [98]⟩
def kg3 : Sg := ⟨1, 2, true, []⟩
def kr0 : Rc := ⟨2, 0, 0, []⟩
def kr1 : Rc := ⟨2, 1, 0, [(2, [98])]⟩
def kr2 : Rc := ⟨2, 1, 2, []⟩
theorem k_p1 : ks0.push [97] = (0, ks1) := by rfl
theorem k_p2 : ks1.push [98] = (0, ks2) := by rfl
theorem k_p3 : ks2.push [99] = (0, ks3) := by rfl
theorem k_t4 : ks3.tickS = ks4 ∧ ks3.out = [kg1, kg2] := ⟨rfl, rfl⟩
theorem k_t5 : ks4.tickS = ks5 ∧ ks4.out = [] := ⟨rfl, rfl⟩
theorem k_t6 : ks5.tickS = ks6 ∧ ks5.out = [] := ⟨rfl, rfl⟩
theorem k_t7 : ks6.tickS = ks7 ∧ ks6.out = [kg1, kg2] := ⟨rfl, rfl⟩
theorem k_h1 : kr0.hear kg2 = ([], kr1) := by rfl
theorem k_h2 : kr1.hear kg1 = ([[97], [98]], kr2) := by rfl
theorem k_h3 : ks7.hear kg3 = (0, ks8) := by rfl
theorem k_t9 : ks8.tickS = ks9 ∧ ks8.out = [⟨1, 3, false, [99]⟩] := ⟨rfl, rfl⟩

set_option maxHeartbeats 8000000 in
set_option maxRecDepth 100000 in
theorem sknown_any (W : World) : Calls Try.prog 8 #[] W fun e w' => e = .returned (.bool true) ∧ Below W.heap.size W w' := by
  have HN : Hid (∀ w, Calls Try.prog 7 #[.int .u64 1, .int .i64 2, .int .i64 3] w fun e w' => ∃ g F, e = .returned (.tuple #[.pointer (some ⟨g, 0, none⟩), .int .i64 0]) ∧ PS w' F g ks0 ∧ (∀ k, F k → w.heap.size ≤ k) ∧ Below w.heap.size w w') := Lib.hid fun w => sNew_any 1 2 3 w (by decide) (by decide) (by decide)
  have HR : Hid (∀ w, Calls Try.prog 22 #[.int .i64 2] w fun e w' => ∃ g F, e = .returned (.tuple #[.pointer (some ⟨g, 0, none⟩), .int .i64 0]) ∧ PR w' F g kr0 ∧ (∀ k, F k → w.heap.size ≤ k) ∧ Below w.heap.size w w') := Lib.hid fun w => rNew_any 2 w (by decide)
  have kc := conv7
  go_enter Try.func8, Try.ntmps8
  go_wp2_with fail
  refine (HN.out W).mono ?_
  rintro e w1 ⟨gx, Fx, rfl, p1, p2, p3⟩
  have P := Lib.hid (And.intro p1 (And.intro p2 p3))
  clear p1 p2 p3
  go_wp2_with fail
  refine (HR.out w1).mono ?_
  rintro e w2 ⟨gy, Fy, rfl, q1, q2, q3⟩
  have t2 := tw_new (Below.refl _ _) P.out.1 P.out.2.1 P.out.2.2 q1 q2 q3
  have Hs := t2.push1 97 97 rfl (by decide)
  rw [k_p1] at Hs
  replace Hs := Lib.hid Hs
  clear P q1 q2 q3 t2
  go_wp2_with fail
  refine Hs.out.mono ?_
  clear Hs
  rintro e w3 ⟨rfl, Fx3, t3, _⟩
  have Hs := t3.push1 98 98 rfl (by decide)
  rw [k_p2] at Hs
  replace Hs := Lib.hid Hs
  clear t3
  go_wp2_with fail
  refine Hs.out.mono ?_
  clear Hs
  rintro e w4 ⟨rfl, Fx4, t4, _⟩
  have Hs := t4.push1 99 99 rfl (by decide)
  rw [k_p3] at Hs
  replace Hs := Lib.hid Hs
  clear t4
  go_wp2_with fail
  refine Hs.out.mono ?_
  clear Hs
  rintro e w5 ⟨rfl, Fx5, t5, _⟩
  have Hs := t5.tick (by decide)
  rw [k_t4.1, k_t4.2] at Hs
  replace Hs := Lib.hid Hs
  clear t5
  go_wp2_with fail
  refine Hs.out.mono ?_
  clear Hs
  rintro e w6 ⟨A6, c6, es6, rfl, he6, r6, t6, _⟩
  have R6 := Lib.hid r6
  have He6 := Lib.hid he6
  have Hs := t6.tick (by decide)
  rw [k_t5.1, k_t5.2] at Hs
  replace Hs := Lib.hid Hs
  clear r6 t6 he6
  simp only [List.length_cons, List.length_nil]
  go_wp2_with fail
  refine Hs.out.mono ?_
  clear Hs
  rintro e w7 ⟨A7, c7, es7, rfl, _, _, t7, m7⟩
  have R7 := Lib.hid (R6.out.mv m7)
  have Hs := t7.tick (by decide)
  rw [k_t6.1, k_t6.2] at Hs
  replace Hs := Lib.hid Hs
  clear t7 m7 R6
  simp only [List.length_nil]
  go_wp2_with fail
  refine Hs.out.mono ?_
  clear Hs
  rintro e w8 ⟨A8, c8, es8, rfl, _, _, t8, m8⟩
  have R8 := Lib.hid (R7.out.mv m8)
  have Hs := t8.tick (by decide)
  rw [k_t7.1, k_t7.2] at Hs
  replace Hs := Lib.hid Hs
  clear t8 m8 R7
  simp only [List.length_nil]
  go_wp2_with fail
  refine Hs.out.mono ?_
  clear Hs
  rintro e w9 ⟨A9, c9, es9, rfl, _, _, t9, m9⟩
  have r9 := R8.out.mv m9
  clear R8 m9
  simp only [List.length_cons, List.length_nil]
  obtain ⟨⟨s1, v1⟩, ⟨s2, v2⟩, rfl⟩ : ∃ a b, es6 = [a, b] := by
    have := He6.out
    match es6, this with
    | [a, b], _ => exact ⟨a, b, rfl⟩
  have he := He6.out
  simp only [List.map_cons, List.map_nil, List.cons.injEq, and_true] at he
  obtain ⟨rfl, rfl⟩ := he
  obtain ⟨B1, d1, e1, rd1⟩ := r9.body (kg1, v1) (by simp)
  obtain ⟨B2, d2, e2, rd2⟩ := r9.body (kg2, v2) (by simp)
  have e1 : v1 = .slice B1 1 d1 := e1
  have e2 : v2 = .slice B2 1 d2 := e2
  subst e1 e2
  have hR : ∃ R, A6 = some ⟨R, 0, none⟩ := by
    obtain ⟨R, c, hv, _⟩ := r9.cell 0 (by simp)
    injection hv with hv
    exact ⟨R, hv⟩
  obtain ⟨R, rfl⟩ := hR
  have hcell : ∀ (w : World) (G : Nat → Prop), SgR w w5.heap.size G (.slice (some ⟨R, 0, none⟩) 2 c6) [(kg1, .slice B1 1 d1), (kg2, .slice B2 1 d2)] → (w.cell? ⟨R, 0, none⟩ = some (.int .u64 1) ∧ w.cell? ⟨R, 1, none⟩ = some (.int .u64 1) ∧ w.cell? ⟨R, 2, none⟩ = some (.bool false) ∧ w.cell? ⟨R, 3, none⟩ = some (.slice B1 1 d1)) ∧
      (w.cell? ⟨R, 4, none⟩ = some (.int .u64 1) ∧ w.cell? ⟨R, 5, none⟩ = some (.int .u64 2) ∧ w.cell? ⟨R, 6, none⟩ = some (.bool false) ∧ w.cell? ⟨R, 7, none⟩ = some (.slice B2 1 d2)) := by
    intro w G h
    obtain ⟨R1, c1, hv1, x⟩ := h.cell 0 (by simp)
    obtain ⟨R2, c2, hv2, y⟩ := h.cell 1 (by simp)
    have h1 : R1 = R := by injection hv1 with e; injection e with e; injection e with e; exact e.symm
    have h2 : R2 = R := by injection hv2 with e; injection e with e; injection e with e; exact e.symm
    subst h1
    rw [h2] at y
    exact ⟨x, y⟩
  have HCell := Lib.hid hcell
  obtain ⟨_, y0, y1, y2, y3⟩ := hcell w9 _ r9
  clear hcell
  have Hh := t9.rhear kg2 ⟨by decide, by decide⟩ B2 1 d2 rd2 (by decide) (by decide)
  rw [k_h1] at Hh
  have Hh : Calls Try.prog 23 #[.pointer (some ⟨gy, 0, none⟩), .agg #[.int .u64 1, .int .u64 2, .bool false, .slice B2 1 d2]] w9 fun e w' => ∃ A' c' out Fy', e = .returned (.tuple #[.slice A' 0 c', .agg #[.int .u64 1, .int .u64 0, .bool true, .slice none 0 0], .int .i64 0]) ∧ out.map (·.1) = [] ∧ ByR w' w9.heap.size (Un Fx5 Fy') (.slice A' 0 c') out ∧ Tw W w' Fx5 Fy' gx gy ks7 kr1 ∧ Mv (Un Fx5 Fy) (Un Fx5 Fy') w9 w' := Hh
  have Hh := Lib.hid Hh
  have R9 := Lib.hid r9
  have Rd1 := Lib.hid rd1
  clear r9 t9 rd1 rd2 He6
  go_wp2_with fail
  refine Hh.out.mono ?_
  clear Hh
  rintro e wa ⟨Aa, ca, outa, Fya, rfl, _, _, ta, ma⟩
  have hba : Below wa.heap.size wa (wa.alloc (.cells #[.int .u64 1, .int .u64 0, .bool true, .slice none 0 0] 36)) := (Below.refl _ _).alloc (Nat.le_refl _) _
  obtain ⟨wb, hwb⟩ : ∃ wb, wb = wa.alloc (.cells #[.int .u64 1, .int .u64 0, .bool true, .slice none 0 0] 36) := ⟨_, rfl⟩
  rw [← hwb] at hba
  have tb := ta.mvb hba
  have rb := (R9.out.mv ma).mv (Mv.below7 hba : Mv (Un Fx5 Fya) (Un Fx5 Fya) wa wb)
  have rdb := (Rd1.out.mv ma).mv (Mv.below7 hba : Mv (Un Fx5 Fya) (Un Fx5 Fya) wa wb)
  obtain ⟨⟨x0, x1, x2, x3⟩, _⟩ := HCell.out wb _ rb
  have Hh := tb.rhear kg1 ⟨by decide, by decide⟩ B1 1 d1 rdb (by decide) (by decide)
  rw [k_h2] at Hh
  have Hh : Calls Try.prog 23 #[.pointer (some ⟨gy, 0, none⟩), .agg #[.int .u64 1, .int .u64 1, .bool false, .slice B1 1 d1]] wb fun e w' => ∃ A' c' out Fy', e = .returned (.tuple #[.slice A' 2 c', .agg #[.int .u64 1, .int .u64 2, .bool true, .slice none 0 0], .int .i64 0]) ∧ out.map (·.1) = [[97], [98]] ∧ ByR w' wb.heap.size (Un Fx5 Fy') (.slice A' 2 c') out ∧ Tw W w' Fx5 Fy' gx gy ks7 kr2 ∧ Mv (Un Fx5 Fya) (Un Fx5 Fy') wb w' := Hh
  have Hh := Lib.hid Hh
  rw [hwb] at x0 x1 x2 x3
  have Hwb := Lib.hid hwb
  clear hba hwb ta tb rb rdb ma R9 Rd1 y0 y1 y2 y3 HCell
  go_wp2_with fail
  rw [← Hwb.out]
  refine Hh.out.mono ?_
  clear Hh
  rintro e wc ⟨Ac, cc, outc, Fyc, rfl, hoc, rc, tc, mc⟩
  obtain ⟨⟨o1, v1⟩, ⟨o2, v2⟩, rfl⟩ : ∃ a b, outc = [a, b] := by
    match outc, hoc with
    | [a, b], _ => exact ⟨a, b, rfl⟩
  simp only [List.map_cons, List.map_nil, List.cons.injEq, and_true] at hoc
  obtain ⟨rfl, rfl⟩ := hoc
  have hbc : Below wc.heap.size wc (wc.alloc (.cells #[.int .u64 1, .int .u64 2, .bool true, .slice none 0 0] 36)) := (Below.refl _ _).alloc (Nat.le_refl _) _
  obtain ⟨wd, hwd⟩ : ∃ wd, wd = wc.alloc (.cells #[.int .u64 1, .int .u64 2, .bool true, .slice none 0 0] 36) := ⟨_, rfl⟩
  have hkd : Bk wd wc.heap.size 36 #[.int .u64 1, .int .u64 2, .bool true, .slice none 0 0] := by rw [hwd]; exact Bk.new wc 36 _
  have had : Apt7 wd (Un Fx5 Fyc) wc.heap.size := ⟨hkd.lt, fun hf => by have := tc.lt _ hf; omega⟩
  rw [← hwd] at hbc
  have td := tc.mvb hbc
  have rd := rc.mv (Mv.below7 hbc : Mv (Un Fx5 Fyc) (Un Fx5 Fyc) wc wd)
  have z0 : wd.cell? ⟨wc.heap.size, 0, none⟩ = some (.int .u64 1) := hkd.cell 0
  have z1 : wd.cell? ⟨wc.heap.size, 1, none⟩ = some (.int .u64 2) := hkd.cell 1
  have z2 : wd.cell? ⟨wc.heap.size, 2, none⟩ = some (.bool true) := hkd.cell 2
  have z3 : wd.cell? ⟨wc.heap.size, 3, none⟩ = some (.slice none 0 0) := hkd.cell 3
  have Hh := td.shear kg3 ⟨by decide, by decide⟩ none 0 0 rfl
  rw [k_h3] at Hh
  have Hh : Calls Try.prog 18 #[.pointer (some ⟨gx, 0, none⟩), .agg #[.int .u64 1, .int .u64 2, .bool true, .slice none 0 0]] wd fun e w' => e = .returned (.int .i64 0) ∧ ∃ Fx', Tw W w' Fx' Fyc gx gy ks8 kr2 ∧ Mv (Un Fx5 Fyc) (Un Fx' Fyc) wd w' := Hh
  have Hh := Lib.hid Hh
  have Rd := Lib.hid rd
  have Hkd := Lib.hid hkd
  have Had := Lib.hid had
  rw [hwd] at z0 z1 z2 z3
  have Hwd := Lib.hid hwd
  clear hbc hwd tc td rc rd mc hkd had x0 x1 x2 x3
  go_wp2_with fail
  rw [← Hwd.out]
  refine Hh.out.mono ?_
  clear Hh
  rintro e we ⟨rfl, Fxe, te, me⟩
  have Re := Lib.hid (Rd.out.mv me)
  have Ke := Lib.hid (Hkd.out.kp me.kp Had.out.2)
  have Ae := Lib.hid (Had.out.mv me)
  have Hs := te.tick (by decide)
  rw [k_t9.1, k_t9.2] at Hs
  replace Hs := Lib.hid Hs
  clear te me Rd Hkd Had z0 z1 z2 z3
  go_wp2_with fail
  refine Hs.out.mono ?_
  clear Hs
  rintro e wf ⟨Af, cf, esf, rfl, hef, rf, tf, mf⟩
  have Rf := Re.out.mv mf
  have Kf := Ke.out.kp mf.kp Ae.out.2
  simp only [List.length_cons, List.length_nil]
  have HLf := Lib.hid tf.left
  have HBf := Lib.hid tf.below
  obtain ⟨⟨sg, vg⟩, rfl⟩ : ∃ a, esf = [a] := by
    match esf, hef with
    | [a], _ => exact ⟨a, rfl⟩
  simp only [List.map_cons, List.map_nil, List.cons.injEq, and_true] at hef
  subst hef
  have hx : ∃ R, Af = some ⟨R, 0, none⟩ ∧ wf.cell? ⟨R, 1, none⟩ = some (.int .u64 3) := by
    obtain ⟨R, c, hv, _, x1, _⟩ := rf.cell 0 (by simp)
    injection hv with hv
    exact ⟨R, hv, x1⟩
  obtain ⟨Rg, rfl, n1⟩ := hx
  have hy : ∃ R Ab cb, Ac = some ⟨R, 0, none⟩ ∧ wf.cell? ⟨R, 1, none⟩ = some (.slice Ab 1 cb) ∧ Rd wf wf.heap.size Ab 1 [98] := by
    obtain ⟨R, c, hv, x1⟩ := Rf.cell 1 (by simp)
    obtain ⟨Ab, cb, e1, h1⟩ := Rf.body ([98], v2) (by simp)
    injection hv with hv
    have e1 : v2 = .slice Ab 1 cb := e1
    subst e1
    exact ⟨R, Ab, cb, hv, x1, h1.rd⟩
  obtain ⟨Ry, Ab, cb, rfl, n2, n3⟩ := hy
  have n4 := n3.str Try.underlying34 Try.underlying5 Try.underlying9 cb
  have z1 : wf.cell? ⟨wc.heap.size, 1, none⟩ = some (.int .u64 2) := Kf.cell 1
  have z2 : wf.cell? ⟨wc.heap.size, 2, none⟩ = some (.bool true) := Kf.cell 2
  clear rf tf mf Rf Kf Re Ke Ae n3
  go_wp2_with fail
  refine HLf.out.mono ?_
  rintro e wg ⟨rfl, rfl⟩
  go_wp2
  go_ret
  exact ⟨rfl, HBf.out⟩
end Go.Proofs.Ytfdlhefbbhblnaa
