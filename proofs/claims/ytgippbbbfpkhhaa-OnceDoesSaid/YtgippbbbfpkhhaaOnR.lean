/- Layer 13, the program's table: makeRoom. -/
import Derived.Test.YtgippbbbfpkhhaaOnU
namespace Go.Proofs.Ytgippbbbfpkhhaa
open Go.RowKit Go.Maps

set_option maxRecDepth 100000 in
theorem notF_any (cl : Cl) (s : Sl3) (w : World) : Calls Try.prog 55 #[clV cl s] w fun e w' => e = .returned (.bool (!cl.busy)) ∧ Hid (Below w.heap.size w w') := by
  obtain ⟨id, num, busy, rep⟩ := cl
  obtain ⟨sA, sN, sC⟩ := s
  unfold clV s3W
  dsimp only
  obtain ⟨W1, hW1⟩ : ∃ W1, W1 = w.alloc (.cells #[.int .u64 (id : Int), .int .u64 (num : Int), .bool busy, .slice sA sN sC] 64) := ⟨_, rfl⟩
  have hb0 : Below w.heap.size w W1 := by rw [hW1]; exact bel1N _ _
  have hkb : Bk W1 w.heap.size 64 #[.int .u64 (id : Int), .int .u64 (num : Int), .bool busy, .slice sA sN sC] := by rw [hW1]; exact Bk.new w _ _
  have j2 : W1.cell? ⟨w.heap.size, 2, none⟩ = some (.bool busy) := hkb.cell 2
  have HW := Lib.hid hW1
  have HB := Lib.hid hb0
  have hnot : ∀ (x : Bool) (w : World), (Op.unary .not (.bool x)).run Try.prog w = .ok (.bool (!x)) w := fun _ _ => rfl
  clear hW1 hb0 hkb
  go_enter Try.func55, Try.ntmps55
  go_upto_region 1 with (fail)
  rw [← HW.out]
  go_wp2
  go_ret
  exact ⟨rfl, HB⟩
def idxI : Option Nat → Int
  | some k => (k : Int)
  | none => -1
theorem freeC_at {l : List Cl} {k : Nat} (hk : k < l.length) (h : l[k].busy = false) (hj : ∀ j (hj : j < l.length), j < k → l[j].busy = true) : freeC l = some k := by
  unfold freeC
  rw [List.findIdx?_eq_some_iff_getElem]
  exact ⟨hk, by simpa using h, fun j hj2 => by simpa using hj j (by omega) hj2⟩
theorem freeC_all {l : List Cl} (h : ∀ j (hj : j < l.length), l[j].busy = true) : freeC l = none := by
  unfold freeC
  rw [List.findIdx?_eq_none_iff]
  intro c hc
  obtain ⟨j, hj, rfl⟩ := List.getElem_of_mem hc
  simpa using h j hj
section
variable {w : World} {F : Nat → Prop} {g n c : Nat} {t : Tb} {A : Option Addr} {es : List Cle} {dn : Bool} {mp : Option Nat}
set_option maxRecDepth 100000 in
set_option maxHeartbeats 2000000 in
theorem index_any (h : PRm w F g t A n c es dn mp) (hn : n ≤ 200) :
    Calls Try.prog 54 #[.slice A n c, .func (.func 55) #[] #[]] w fun e w' => e = .returned (.int .i64 (idxI (freeC t.row))) ∧ Hid (Below w.heap.size w w') := by
  have hel := h.elen
  have hlen := h.len
  have HC : Hid (∀ W, Below w.heap.size w W → ∀ i (hi : i < t.row.length), ∃ R s, A = some ⟨R, 0, none⟩ ∧ W.cell? ⟨R, i * 4, none⟩ = some (.int .u64 (t.row[i].id : Int)) ∧ W.cell? ⟨R, i * 4 + 1, none⟩ = some (.int .u64 (t.row[i].num : Int)) ∧ W.cell? ⟨R, i * 4 + 2, none⟩ = some (.bool t.row[i].busy) ∧ W.cell? ⟨R, i * 4 + 3, none⟩ = some (s3W s)) := Lib.hid fun W hb i hi => by
    have hie : i < es.length := by omega
    obtain ⟨R, c', e, _, _, _, q0, q1, q2, q3⟩ := (h.row.below hb).cell i hie
    injection e with e _ _
    have h1 : t.row[i] = es[i].1 := by simp only [← h.eq, List.getElem_map]
    rw [h1]
    exact ⟨R, es[i].2, e, q0, q1, q2, q3⟩
  have HF := Lib.hid (fun cl s W => notF_any cl s W)
  have HLen := Lib.hid hlen
  obtain ⟨I, hI⟩ : ∃ I, I = idxI (freeC t.row) := ⟨_, rfl⟩
  rw [← hI]
  have HI := Lib.hid hI
  clear h hel hlen hI
  go_enter Try.func54, Try.ntmps54
  go_wp2
  go_loopg [8] n (fun gk a wr => ∃ i : Nat, a = .int .i64 (i : Int) ∧ i + gk = n ∧ Hid (∀ j (hj : j < t.row.length), j < i → t.row[j].busy = true) ∧ Hid (Below w.heap.size w wr))
  case atStart => exact ⟨0, rfl, by omega, Lib.hid (fun j _ h => by omega), Lib.hid (Below.refl _ _)⟩
  case round =>
    obtain ⟨i, rfl, hig, HA, HB⟩ := hrel
    by_cases hin : i < n
    · have hil : i < t.row.length := by rw [← HLen.out]; exact hin
      have m1 : (i : Int) < (n : Int) := by omega
      have m0 : ¬ (i : Int) < 0 := by omega
      have e1 : IntKind.i64.wrap ((i : Int) + 1) = ((i + 1 : Nat) : Int) := by rw [IntKind.wrap_i64]; omega
      obtain ⟨R, ⟨sA, sN, sC⟩, rfl, q0, q1, q2, q3⟩ := HC.out wr HB.out i hil
      have HQ := Lib.hid (HF.out t.row[i] (sA, sN, sC) wr)
      have HN : Hid (t.row[i].busy = true → ∀ j (hj : j < t.row.length), j < i + 1 → t.row[j].busy = true) := Lib.hid fun hb j hj hji => by
        by_cases e : j = i
        · subst e; exact hb
        · exact HA.out j hj (by omega)
      have HY : Hid (t.row[i].busy = false → freeC t.row = some i) := Lib.hid fun hb => freeC_at hil hb HA.out
      generalize t.row[i] = cl at *
      obtain ⟨id, num, busy, rep⟩ := cl
      unfold clV s3W at HQ
      unfold s3W at q3
      dsimp only at q0 q1 q2 q3 HQ HN HY
      clear hil
      cases busy with
      | false =>
        have hI : I = (i : Int) := by rw [HI.out, HY.out rfl]; rfl
        clear HI
        subst hI
        go_wp2_with fail
        refine HQ.out.mono ?_
        rintro e w2 ⟨rfl, hb2⟩
        have HB2 := Lib.hid (below_then HB.out hb2.out)
        clear q0 q1 q2 q3 HQ
        go_wp2
        go_ret
        exact ⟨rfl, HB2⟩
      | true =>
        have HN2 := Lib.hid (HN.out rfl)
        clear HN HY
        go_wp2_with fail
        refine HQ.out.mono ?_
        rintro e w2 ⟨rfl, hb2⟩
        have HB2 := Lib.hid (below_then HB.out hb2.out)
        clear q0 q1 q2 q3 HQ
        go_wp2
        go_roundg (gk - 1)
        case measure => omega
        case rel => exact ⟨i + 1, by go_num, by omega, HN2, HB2⟩
    · obtain rfl : i = n := by omega
      have m1 : ¬ (i : Int) < (i : Int) := by omega
      have hI : I = -1 := by rw [HI.out, freeC_all (fun j hj => HA.out j hj (by rw [HLen.out]; exact hj))]; rfl
      clear HI
      subst hI
      go_wp2
      go_ret
      exact ⟨rfl, HB⟩
/-- What makeRoom does. -/
def Tb.roomy (t : Tb) : Bool × Tb :=
  if t.row.length < t.most then (true, t)
  else match freeC t.row with
    | some k => (true, { t with row := t.row.eraseIdx k })
    | none => (false, t)
set_option maxRecDepth 100000 in
set_option maxHeartbeats 4000000 in
theorem room_any (h : PTm w F g t A n c es dn mp) (hn : n ≤ 200) :
    Calls Try.prog 31 #[.pointer (some ⟨g, 0, none⟩)] w (UsedE w F g t.roomy.2 (.bool t.roomy.1)) := by
  have hlen := h.len
  obtain ⟨c0, c1, c2, c3, c4, c5, c6, c7⟩ := h.cells
  obtain ⟨wd, hwd⟩ : ∃ wd, wd = w.drew := ⟨_, rfl⟩
  have hkd : Kp (fun _ => False) w wd := by rw [hwd]; exact Kp.drew _ _
  have hd : PTm wd F g t A n c es dn mp := h.kp hkd fun _ _ h => h
  have HWd := Lib.hid hwd
  clear hwd c2 c3 c4 c5 c6 c7
  by_cases hlt : t.row.length < t.most
  · have hr : t.roomy = (true, t) := by unfold Tb.roomy; rw [if_pos hlt]
    rw [hr]
    have m1 : (n : Int) < (t.most : Int) := by omega
    have HZ : Hid (∃ F', PT wd F' g t ∧ Mv F F' w wd) := Lib.hid ⟨F, ⟨_, _, _, _, _, _, hd⟩, Mv.of (hkd.mono fun _ h => h.elim)⟩
    clear h hr hd hkd hlt hlen
    go_enter Try.func31, Try.ntmps31
    go_wp2_with fail
    go_region
    all_goals
      rw [← HWd.out]
      go_wp2
      go_ret
      exact ⟨rfl, HZ⟩
  · have m1 : ¬ (n : Int) < (t.most : Int) := by omega
    have HI := Lib.hid (index_any hd.toPRm hn)
    have d1 : wd.cell? ⟨g, 1, none⟩ = some (.slice A n c) := hd.cells.2.1
    have HD := Lib.hid hd
    have HK := Lib.hid hkd
    cases hfc : freeC t.row with
    | none =>
      have hr : t.roomy = (false, t) := by unfold Tb.roomy; rw [if_neg hlt, hfc]
      rw [hfc] at HI
      unfold idxI at HI
      dsimp only at HI
      rw [hr]
      clear h hd hkd hlt hlen hfc hr
      go_enter Try.func31, Try.ntmps31
      go_wp2_with fail
      go_region
      all_goals
        rw [← HWd.out]
        go_wp2_with fail
        refine HI.out.mono ?_
        rintro e w2 ⟨rfl, HB2⟩
        have HZ : Hid (∃ F', PT w2 F' g t ∧ Mv F F' w w2) := Lib.hid ⟨F, ⟨_, _, _, _, _, _, HD.out.below HB2.out⟩, Mv.of ((HK.out.mono fun _ h => h.elim).trans (Kp.of_below HB2.out))⟩
        go_wp2
        go_ret
        exact ⟨rfl, HZ⟩
    | some k =>
      have hr : t.roomy = (true, { t with row := t.row.eraseIdx k }) := by unfold Tb.roomy; rw [if_neg hlt, hfc]
      rw [hfc] at HI
      unfold idxI at HI
      dsimp only at HI
      rw [hr]
      have hkl : k < t.row.length := (freeC_some hfc).1
      have hkn : k < n := by omega
      have hel := h.elen
      obtain ⟨b, c0', ev, -⟩ := h.row.cell k (by omega)
      injection ev with ev ev2 ev3
      clear ev2 ev3
      subst ev
      have HDel : Hid (∀ W, PRm W F g t (some ⟨b, 0, none⟩) n c es dn mp → Calls Try.prog 56 #[.slice (some ⟨b, 0, none⟩) n c, .int .i64 (k : Int), .int .i64 ((k : Int) + 1)] W fun e w3 =>
          e = .returned (.slice (some ⟨b, 0, none⟩) (es.eraseIdx k).length c) ∧ w3.cell? ⟨g, 1, none⟩ = some (.slice (some ⟨b, 0, none⟩) n c) ∧ w3.frozen? ⟨g, 1, none⟩ = false ∧
          Hid (PRm (w3.setCell ⟨g, 1, none⟩ (.slice (some ⟨b, 0, none⟩) (es.eraseIdx k).length c)) F g { t with row := t.row.eraseIdx k } (some ⟨b, 0, none⟩) (es.eraseIdx k).length c (es.eraseIdx k) dn mp ∧
            Kp (RG g (.slice (some ⟨b, 0, none⟩) n c)) W (w3.setCell ⟨g, 1, none⟩ (.slice (some ⟨b, 0, none⟩) (es.eraseIdx k).length c)))) := Lib.hid fun W hp => by
        obtain ⟨A0, c0, e0, hnc, _⟩ := hp.row.shape
        injection e0 with e0 e2 e3
        subst e3
        have ho := hp.row.own
        rw [hel] at ho
        refine (cdelete_any ho hel.symm hkn (by omega)).mono ?_
        rintro e w3 ⟨rfl, hrow, hk3⟩
        obtain ⟨h1, h2, h3⟩ := hp.cut hkn hrow hk3
        exact ⟨rfl, h1, h2, h3⟩
      have e1 : IntKind.i64.wrap ((k : Int) + 1) = (k : Int) + 1 := by rw [IntKind.wrap_i64]; omega
      have mk : ¬ (k : Int) < 0 := by omega
      clear h hd hkd hlt hlen hfc hr hkl hel
      generalize (es.eraseIdx k).length = n1 at *
      go_enter Try.func31, Try.ntmps31
      go_wp2_with fail
      go_region
      all_goals
        rw [← HWd.out]
        go_wp2_with fail
        refine HI.out.mono ?_
        rintro e w2 ⟨rfl, HB2⟩
        have hp2 := HD.out.toPRm.below HB2.out
        have g2 : w2.cell? ⟨g, 1, none⟩ = some (.slice (some ⟨b, 0, none⟩) n c) := hp2.cells.2.1
        have HDl := Lib.hid (HDel.out w2 hp2)
        have HK2 := Lib.hid ((HK.out.mono (fun (k : Nat) h => h.elim) : Kp F w wd).trans (Kp.of_below HB2.out))
        have HR2 := Lib.hid hp2.rg
        clear hp2 d1 c0 c1
        go_wp2_with fail
        refine HDl.out.mono ?_
        rintro e w3 ⟨rfl, q1, qf, HX⟩
        clear HDl HDel g2
        go_upto_region 7 with (fail)
        obtain ⟨w4, hw4⟩ : ∃ w4, w4 = w3.setCell ⟨g, 1, none⟩ (.slice (some ⟨b, 0, none⟩) n1 c) := ⟨_, rfl⟩
        rw [← hw4] at HX ⊢
        clear hw4 q1 qf
        have HR := Lib.hid (reorder_any HX.out.1)
        have HK4 := Lib.hid (HK2.out.trans (HX.out.2.mono HR2.out))
        have HFg := Lib.hid HX.out.1.fg
        clear HX HK2 HR2
        go_wp2_with fail
        refine HR.out.mono ?_
        rintro e w5 ⟨rfl, HY⟩
        have HZ : Hid (∃ F', PT w5 F' g { t with row := t.row.eraseIdx k } ∧ Mv F F' w w5) := Lib.hid ⟨F, ⟨_, _, _, _, _, _, HY.out.1⟩, Mv.of (HK4.out.trans (HY.out.2.mono fun k e => e ▸ HFg.out))⟩
        go_wp2
        go_ret
        exact ⟨rfl, HZ⟩
end
end Go.Proofs.Ytgippbbbfpkhhaa
