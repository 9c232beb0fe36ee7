/- The document's receiver: Hear. -/
import Derived.Test.YtfdlhefbbhblnaaSesDe
import Derived.Deep.DeepCutAuto
namespace Go.Proofs.Ytfdlhefbbhblnaa
open Go.RowKit Go.Maps

def bEls (parts : Array (Nat × Value)) : Sem Value := Instr.buildSlice 57 1 parts
theorem bEls_eq (parts : Array (Nat × Value)) : Instr.buildSlice 57 1 parts = bEls parts := rfl
theorem run_bEls (a b : Value) (W : World) : (bEls #[(0, .agg #[a, b])]).run Try.prog W = .ok (.slice (some ⟨W.heap.size, 0, none⟩) 1 1) (W.alloc (.cells #[a, b] 97)) := by
  obtain ⟨iw, hiw, hzw, hsw, hbw⟩ := info_parts Try.infoEarly
  exact run_buildSlice_one (P := Try.prog) Try.underlying57 hiw hzw hsw (by rfl) (by omega) (by omega) (.agg #[a, b]) rfl W
attribute [local go_sem ↓] bEls_eq
attribute [local go_sem] run_bEls

theorem FindE.of_none {es : List Eln} {k : Nat} {z : Int} (h : FindE es k z) (hn : getE es k = none) : z = -1 := by
  rcases h with ⟨i, hi, _, e⟩ | ⟨e, _⟩
  · rw [hn] at e; cases e
  · exact e
theorem FindE.of_some {es : List Eln} {k : Nat} {z : Int} (h : FindE es k z) (hn : getE es k ≠ none) : ∃ i, ∃ h : i < es.length, z = (i : Int) ∧ getE es k = some es[i].1.2 := by
  rcases h with h | ⟨_, e⟩
  · exact h
  · exact absurd e hn
theorem DR.ends {w wr w' : World} {F F7 : Nat → Prop} {g K : Nat} {r : Rc} {m : Sg} {v lv : Value} {es : List Eln} {tc : Nat} {rest : List (Nat × List UInt8)} {out : List (List UInt8 × Value)} (h : DT w wr F F7 g ((r.turn m).keep m) (K + 1) v es tc rest lv out) (hno : getE es (tc + 1) = none) (hok : (r.hear m).2.Ok) (hk : Kp (fun j => j = w.heap.size + 1) wr w') :
    (r.hear m).2.life = ((r.turn m).keep m).life ∧ (r.hear m).2.came = tc ∧ DHearS r m w F g K (.returned (.tuple #[lv, .agg #[.int .u64 (((r.turn m).keep m).life : Int), .int .u64 (tc : Int), .bool true, .slice none 0 0], .int .i64 0])) w' := by
  have hst : takeK tc rest = ([], tc, rest) := takeK_stop h.srt h.keys (by rw [← h.k.d.look (tc + 1) (Nat.lt_succ_self _)]; exact hno)
  have t1 := h.tk.1
  have t2 := h.tk.2
  rw [hst] at t1 t2
  have e2 : (r.hear m).2 = { (r.turn m).keep m with came := tc, early := rest } := by
    unfold Rc.hear Rc.take
    show ({ (r.turn m).keep m with came := (takeK ((r.turn m).keep m).came ((r.turn m).keep m).early).2.1, early := (takeK ((r.turn m).keep m).came ((r.turn m).keep m).early).2.2 } : Rc) = _
    rw [t2]
  have e1 : (r.hear m).1 = out.map (·.1) := by
    unfold Rc.hear Rc.take
    show (takeK ((r.turn m).keep m).came ((r.turn m).keep m).early).1 = _
    rw [t1, List.append_nil]
  have hd : ∀ k, F7 k → ¬ k = w.heap.size + 1 := fun k hf e => h.k.off (e ▸ hf)
  refine ⟨by rw [e2], by rw [e2], lv, out, F7, ?_, e1.symm, own_kp h.row hk fun k e e2 => (h.roff k e).2 e2, fun x hx => ?_, ⟨hok, v, es, ?_, h.k.len⟩, ⟨h.k.mv.kp.trans' hk fun i e => .inr (by omega), h.k.mv.new⟩⟩
  · unfold sgV Rc.ack
    rw [e2]
  · obtain ⟨e, he, q1, q2⟩ := h.each x hx
    rw [q1, q2]
    exact ⟨own_kp (h.k.d.row.each e he) hk fun k e2 => hd k (h.k.d.row.bods e he k e2), fun k e2 => h.k.d.row.bods e he k e2⟩
  · rw [e2]
    exact h.k.d.kp hk hd

set_option maxHeartbeats 8000000 in
set_option maxRecDepth 100000 in
theorem dRHear_any {w : World} {F : Nat → Prop} {g K : Nat} {r : Rc} (h : DR w F g r K) (m : Sg) (hm : m.Ok) (A : Option Addr) (n c : Nat) (hrd : Rd w w.heap.size A n m.body) (hoff : 0 < n → ∀ ad, A = some ad → ¬ F ad.block) (hrf : r.refuse m = 0) (hc : r.came + r.early.length + 1 < 4611686018427387904) (hK : K ≤ 900000) :
    Calls Try.prog 24 #[.pointer (some ⟨g, 0, none⟩), sgV m (.slice A n c)] w (DHearS r m w F g K) := by
  have hl := hrd.1
  have Hoff := Lib.hid hoff
  have hright : m.right = true := by
    unfold Rc.refuse at hrf
    cases hr : m.right with
    | false => rw [if_pos hr] at hrf; cases hrf
    | true => rfl
  have hack : m.ack = false := by
    unfold Rc.refuse at hrf
    rw [if_neg (by rw [hright]; decide)] at hrf
    cases ha : m.ack with
    | true => rw [if_pos ha] at hrf; cases hrf
    | false => rfl
  have hlife : ¬ m.life < r.life := by
    unfold Rc.refuse at hrf
    rw [if_neg (by rw [hright]; decide), if_neg (by rw [hack]; decide)] at hrf
    intro e
    rw [if_pos e] at hrf
    cases hrf
  have hn1000 : n ≤ 1000 := by
    unfold Sg.right at hright
    rw [hack] at hright
    simp at hright
    omega
  have hokr := h.1
  have hFl := h.lt
  obtain ⟨_, v0, es0, hd, hlen⟩ := h
  obtain ⟨W1, hW1⟩ : ∃ W1, W1 = w.alloc (.cells (sgA m (.slice A n c)) 36) := ⟨_, rfl⟩
  obtain ⟨W2, hW2⟩ : ∃ W2, W2 = W1.alloc (.cells #[.int .u64 0, .int .u64 0, .bool false, .slice none 0 0] 36) := ⟨_, rfl⟩
  have hb1 : Below w.heap.size w W1 := by rw [hW1]; exact (Below.refl _ _).alloc (Nat.le_refl _) _
  have hs1 : W1.heap.size = w.heap.size + 1 := by rw [hW1]; simp
  have hb2 : Below W1.heap.size W1 W2 := by rw [hW2]; exact (Below.refl _ _).alloc (Nat.le_refl _) _
  have hk1 : Bk W1 w.heap.size 36 (sgA m (.slice A n c)) := by rw [hW1]; exact Bk.new w 36 _
  have hk2 : Bk W2 (w.heap.size + 1) 36 rsZ := by
    rw [hW2, ← hs1]; exact Bk.new W1 36 _
  have hk12 := hk1.below hb2 hk1.lt
  have hb12 := below_then hb1 hb2
  have HR := dright_any m A n c W2 hl
  rw [hright] at HR
  have HJ0 : Hid (∀ W, Below W2.heap.size W2 W → DJ w W F g r m A n c K v0 es0) := Lib.hid fun W hb => by
    have hbw := below_then hb12 hb
    exact ⟨hd.below hbw, Kp.of_below hbw, hk12.below hb hk12.lt, hk2.below hb hk2.lt, hrd.up hbw, hlen⟩
  have hok1 := hokr.turn hm
  have hok2 : ((r.turn m).keep m).Ok := hok1.keep hright hack (by have := Rc.turn_sum r m; omega)
  have hokh := hokr.hear hm hright hack hc
  have hk0 : W2.cell? ⟨w.heap.size, 0, none⟩ = some (.int .u64 (m.life : Int)) := hk12.cell 0
  have hk1' : W2.cell? ⟨w.heap.size, 1, none⟩ = some (.int .u64 (m.seq : Int)) := hk12.cell 1
  have hk2' : W2.cell? ⟨w.heap.size, 2, none⟩ = some (.bool m.ack) := hk12.cell 2
  have hk3' : W2.cell? ⟨w.heap.size, 3, none⟩ = some (.slice A n c) := hk12.cell 3
  have Hm := Lib.hid hm
  have Hack := Lib.hid hack
  have Hl := Lib.hid hl
  have Hlt := Lib.hid hFl
  have Hok1 := Lib.hid hok1
  have Hok2 := Lib.hid hok2
  have Hokh := Lib.hid hokh
  have Hgl := Lib.hid hd.bk.lt
  have HJs := Lib.hid (show r.turn m = r ∨ r.life < m.life by
    unfold Rc.turn
    by_cases e : r.life < m.life
    · exact .inr e
    · exact .inl (by rw [if_neg e]))
  have hml : m.life < 18446744073709551616 := hm.life
  have hms : m.seq < 18446744073709551616 := hm.seq
  have hli : ¬ (m.life : Int) < (r.life : Int) := by omega
  have Hsum := Lib.hid (show (r.turn m).came + (r.turn m).early.length + 1 < 4611686018427387904 by have := Rc.turn_sum r m; omega)
  subst hW1
  have HW2 := Lib.hid hW2
  have HR := Lib.hid HR
  unfold sgV at HR ⊢
  unfold sgA at HW2
  rw [hack] at hk2' HR HW2 ⊢
  clear hb1 hb2 hk1 hk2 hk12 hb12 hW2 hs1 hd hrd hoff hrf hm hright hack hl hFl hokr hok1 hok2 hokh hlen hc
  have hld : decide (m.life < r.life) = false := decide_eq_false hlife
  go_enter Try.func24, Try.ntmps24
  go_wp2_with fail
  rw [← HW2.out]
  refine HR.out.mono ?_
  rintro e w3 ⟨rfl, hb3⟩
  have HJ1 := Lib.hid (fun q => HJ0.out (w3.drewN q) (bel_drewN hb3 q))
  have k0 : w3.cell? ⟨w.heap.size, 0, none⟩ = some (.int .u64 (m.life : Int)) := (HJ0.out w3 hb3).sg.cell 0
  have k2 : w3.cell? ⟨w.heap.size, 2, none⟩ = some (.bool m.ack) := (HJ0.out w3 hb3).sg.cell 2
  rw [Hack.out] at k2
  have k4 : w3.cell? ⟨g, 1, none⟩ = some (.int .u64 (r.life : Int)) := (HJ0.out w3 hb3).d.bk.cell 1
  clear hb3 HR HJ0 hk0 hk1' hk2' hk3'
  go_upto_region 6 with (fail)
  go_quiet (fail)
  obtain ⟨W4, hW4⟩ : ∃ W4, W4 = w3.drewN nq := ⟨_, rfl⟩
  rw [← hW4]
  have hJ4 := HJ1.out nq
  rw [← hW4] at hJ4
  replace k0 : W4.cell? ⟨w.heap.size, 0, none⟩ = some (.int .u64 (m.life : Int)) := hJ4.sg.cell 0
  replace k4 : W4.cell? ⟨g, 1, none⟩ = some (.int .u64 (r.life : Int)) := hJ4.d.bk.cell 1
  have HJ2 := Lib.hid (fun q => hJ4.below (bel_drewN (Below.refl _ _) q))
  clear hJ4 hW4 HJ1 k2
  clear w3
  go_upto_region 8 with (fail)
  go_quiet (fail)
  obtain ⟨W5, hW5⟩ : ∃ W5, W5 = W4.drewN nq := ⟨_, rfl⟩
  rw [← hW5]
  have hJ5 := HJ2.out nq
  rw [← hW5] at hJ5
  replace k0 : W5.cell? ⟨w.heap.size, 0, none⟩ = some (.int .u64 (m.life : Int)) := hJ5.sg.cell 0
  have f1 := hJ5.d.bk.frozen 1
  have f2 := hJ5.d.bk.frozen 2
  have f3 := hJ5.d.bk.frozen 3
  have j2 : W5.cell? ⟨g, 2, none⟩ = some (.int .u64 (r.came : Int)) := hJ5.d.bk.cell 2
  have j3 : W5.cell? ⟨g, 3, none⟩ = some v0 := hJ5.d.bk.cell 3
  replace k4 : W5.cell? ⟨g, 1, none⟩ = some (.int .u64 (r.life : Int)) := hJ5.d.bk.cell 1
  have HJ5 := Lib.hid hJ5
  clear hJ5 hW5 HJ2
  clear W4
  go_upto_if 35 with (fail)
  go_cut [36] (fun _s w' => Hid (∃ v es, DJ w w' F g (r.turn m) m A n c K v es))
  case first =>
    by_cases hlf : r.life < m.life
    · have mlf : (r.life : Int) < (m.life : Int) := by omega
      have mld : decide ((r.life : Int) < (m.life : Int)) = true := decide_eq_true mlf
      have HX : Hid (∃ v es, DJ w (((W5.setCell ⟨g, 1, none⟩ (.int .u64 (m.life : Int))).setCell ⟨g, 2, none⟩ (.int .u64 0)).setCell ⟨g, 3, none⟩ (.slice none 0 0)) F g (r.turn m) m A n c K v es) := by
        have hJ := HJ5.out
        have ht := hJ.d.turned hlf rfl
        have h1 : ¬ F w.heap.size := fun hf => by have := Hlt.out _ hf; omega
        have h2 : ¬ F (w.heap.size + 1) := fun hf => by have := Hlt.out _ hf; omega
        have hA : 0 < n → ∀ ad, A = some ad → ¬ F ad.block := Hoff.out
        exact ⟨_, _, ht.1, hJ.kp.trans ht.2, hJ.sg.kp ht.2 h1, hJ.rs.kp ht.2 h2, (Rd.kp8 hJ.rd ht.2 hA).more ht.2.size, Nat.zero_le _⟩
      clear HJ5 HJs
      go_wp2_with fail
      go_meet
      exact HX
    · have mlf : ¬ (r.life : Int) < (m.life : Int) := by omega
      have mld : decide ((r.life : Int) < (m.life : Int)) = false := decide_eq_false mlf
      have HX : Hid (∃ v es, DJ w W5 F g (r.turn m) m A n c K v es) := by
        have hJ := HJ5.out
        have e : r.turn m = r := by
          rcases HJs.out with e | e
          · exact e
          · exact absurd e hlf
        rw [e]
        exact ⟨v0, es0, hJ⟩
      clear HJ5 HJs
      go_wp2_with fail
      go_meet
      exact HX
  case rest =>
    obtain ⟨v1, es1, hJ⟩ := hcut.out
    clear hcut HJ5 HJs k0 k4 f1 f2 f3 j2 j3 hli hlife hld
    clear W5
    generalize hrt : r.turn m = rt at *
    have Hrt := Lib.hid hrt
    have t1 : wc.cell? ⟨w.heap.size, 1, none⟩ = some (.int .u64 (m.seq : Int)) := hJ.sg.cell 1
    have HWt := Lib.hid (has_any hJ.d m.seq (by have := hJ.len; omega))
    have HJ1 := Lib.hid hJ
    clear hJ hrt
    go_wp2_with fail
    refine HWt.out.mono ?_
    rintro e W7 ⟨⟨z, rfl, hz⟩, rfl⟩
    have t2 : wc.cell? ⟨g, 2, none⟩ = some (.int .u64 (rt.came : Int)) := HJ1.out.d.bk.cell 2
    have t0 : wc.cell? ⟨g, 0, none⟩ = some (.int .i64 (rt.window : Int)) := HJ1.out.d.bk.cell 0
    have HZ := Lib.hid hz
    clear hz HWt
    go_upto_region 13 with (fail)
    obtain ⟨bw, hbw⟩ : ∃ b, b = rt.wants m.seq := ⟨_, rfl⟩
    have Hbw := Lib.hid hbw
    go_cut [76] (fun cv wx => cv = .bool bw ∧ ∃ q, wx = wc.drewN q)
    case first =>
      have hwin := Hok1.out.win
      have hlook := HJ1.out.d.look
      have hwr : IntKind.u64.wrap (rt.window : Int) = (rt.window : Int) := by rw [IntKind.wrap_u64]; omega
      clear Hbw
      unfold Rc.wants at hbw
      generalize m.seq = sq at *
      generalize rt.came = cm at *
      generalize rt.window = wd at *
      have hdisj : (sq ≤ cm ∧ ((∃ i, ∃ h : i < es1.length, z = (i : Int) ∧ getE es1 sq = some es1[i].1.2) ∨ z = -1)) ∨ (cm < sq ∧ ((getK rt.early sq).isSome = true ∧ ∃ i : Nat, z = (i : Int)) ∨ (cm < sq ∧ getK rt.early sq = none ∧ z = -1 ∧ wd < sq - cm) ∨ (cm < sq ∧ getK rt.early sq = none ∧ z = -1 ∧ ¬ wd < sq - cm)) := by
        by_cases h1 : sq ≤ cm
        · refine .inl ⟨h1, ?_⟩
          rcases HZ.out with h | ⟨h, _⟩
          · exact .inl h
          · exact .inr h
        · have h2 : cm < sq := by omega
          have h3 := hlook sq h2
          by_cases h4 : getK rt.early sq = none
          · have h5 := HZ.out.of_none (by rw [h3]; exact h4)
            by_cases h6 : wd < sq - cm
            · exact .inr (.inr (.inl ⟨h2, h4, h5, h6⟩))
            · exact .inr (.inr (.inr ⟨h2, h4, h5, h6⟩))
          · obtain ⟨i, hi, hz, _⟩ := HZ.out.of_some (by rw [h3]; exact h4)
            refine .inr (.inl ⟨h2, ?_, i, hz⟩)
            cases hg : getK rt.early sq with
            | none => exact absurd hg h4
            | some b => rfl
      clear hlook HZ HJ1
      rcases hdisj with ⟨h1, (⟨i, _, rfl, _⟩ | rfl)⟩ | ⟨h2, h3, i, rfl⟩ | ⟨h2, h3, rfl, h4⟩ | ⟨h2, h3, rfl, h4⟩
      · rw [if_pos (.inl h1)] at hbw
        subst hbw
        have hi0 : decide ((i : Int) < 0) = false := decide_eq_false (by omega)
        go_quiet (fail)
        go_wp2
        go_meet
        exact ⟨rfl, _, rfl⟩
      · rw [if_pos (.inl h1)] at hbw
        subst hbw
        have hi0 : decide ((-1 : Int) < 0) = true := rfl
        have hi1 : decide ((cm : Int) < (sq : Int)) = false := decide_eq_false (by omega)
        have hi3 : decide (cm < sq) = false := decide_eq_false (by omega)
        have hi4 : ¬ cm < sq := by omega
        go_quiet (fail)
        go_wp2
        go_meet
        exact ⟨rfl, _, rfl⟩
      · have hi0 : decide ((i : Int) < 0) = false := decide_eq_false (by omega)
        have he : (if sq ≤ cm ∨ wd < sq - cm then false else !(getK rt.early sq).isSome) = false := by rw [h3]; simp
        rw [he] at hbw
        subst hbw
        clear he h3
        go_quiet (fail)
        go_wp2
        go_meet
        exact ⟨rfl, _, rfl⟩
      · rw [if_pos (.inr h4)] at hbw
        subst hbw
        have hi1 : decide ((cm : Int) < (sq : Int)) = true := decide_eq_true (by omega)
        have hi3 : decide (cm < sq) = true := decide_eq_true (by omega)
        have hw1 : IntKind.u64.wrap ((sq : Int) - (cm : Int)) = ((sq - cm : Nat) : Int) := by rw [IntKind.wrap_u64]; omega
        have hi2 : decide (((sq - cm : Nat) : Int) ≤ (wd : Int)) = false := decide_eq_false (by omega)
        have hi5 : decide (sq - cm ≤ wd) = false := decide_eq_false (by omega)
        clear h3
        generalize sq - cm = D at *
        go_quiet (fail)
        go_wp2
        go_meet
        exact ⟨rfl, _, rfl⟩
      · rw [if_neg (by omega), h3] at hbw
        replace hbw : bw = true := hbw
        subst hbw
        have hi1 : decide ((cm : Int) < (sq : Int)) = true := decide_eq_true (by omega)
        have hi3 : decide (cm < sq) = true := decide_eq_true (by omega)
        have hw1 : IntKind.u64.wrap ((sq : Int) - (cm : Int)) = ((sq - cm : Nat) : Int) := by rw [IntKind.wrap_u64]; omega
        have hi2 : decide (((sq - cm : Nat) : Int) ≤ (wd : Int)) = true := decide_eq_true (by omega)
        have hi5 : decide (sq - cm ≤ wd) = true := decide_eq_true (by omega)
        clear h3
        generalize sq - cm = D at *
        go_quiet (fail)
        go_wp2
        go_meet
        exact ⟨rfl, _, rfl⟩
    case rest =>
      obtain ⟨rfl, q, rfl⟩ := hcut
      clear hbw t0 t1 t2
      obtain ⟨W8, hW8⟩ : ∃ W8, W8 = wc.drewN q := ⟨_, rfl⟩
      rw [← hW8]
      have HJ8 : Hid (DJ w W8 F g rt m A n c K v1 es1) := by
        rw [hW8]
        exact HJ1.out.below (bel_drewN (Below.refl _ _) q)
      clear hW8 HJ1
      clear wc
      go_upto_if 76 with (fail)
      go_cut [77] (fun _s w' => Hid (∃ F7 v es, DK w w' F F7 g (rt.keep m) (K + 1) v es))
      case first =>
        cases bw with
        | false =>
          have HX : Hid (∃ F7 v es, DK w W8 F F7 g (rt.keep m) (K + 1) v es) := by
            have hJ := HJ8.out
            have e : rt.keep m = rt := by unfold Rc.keep; rw [← Hbw.out]; rfl
            rw [e]
            exact ⟨F, v1, es1, hJ.d, Mv.of hJ.kp, hJ.rs, fun hf => by have := Hlt.out _ hf; omega, Nat.le_succ_of_le hJ.len⟩
          clear HJ8 HZ Hbw
          go_wp2_with fail
          go_meet
          exact HX
        | true =>
          have hJ := HJ8.out
          have hwt := Rc.wants_iff Hbw.out.symm
          have hke : rt.keep m = { rt with early := insK (m.seq, m.body) rt.early } := by unfold Rc.keep; rw [← Hbw.out, if_pos rfl]
          have hge : getE es1 m.seq = none := by rw [hJ.d.look _ hwt.1]; exact hwt.2.2
          have hfr : ¬ F w.heap.size := fun hf => by have := Hlt.out _ hf; omega
          have HC : Hid (∀ W, Below W8.heap.size W8 W → Calls Try.prog 34 #[.slice A n c] W fun e w' => ∃ Av cv, e = .returned (.slice Av n cv) ∧ w'.ownsRow W.heap.size 5 1 (.slice Av n cv) n (u8s m.body) ∧ Below W.heap.size W w') := by
            refine Lib.hid fun W hb => (copy_any A n c W.heap.size m.body W (by omega) (hJ.rd.up hb)).mono ?_
            rintro e w' ⟨v, rfl, ho, hb2⟩
            obtain ⟨Av, cv, rfl, _⟩ := own_shape ho
            exact ⟨Av, cv, rfl, ho, hb2⟩
          obtain ⟨Aq, cq, hv, hc1, hc2⟩ := hJ.d.row.shape
          have c3 : W8.cell? ⟨g, 3, none⟩ = some v1 := hJ.d.bk.cell 3
          have s1 : W8.cell? ⟨w.heap.size, 1, none⟩ = some (.int .u64 (m.seq : Int)) := hJ.sg.cell 1
          have s3 : W8.cell? ⟨w.heap.size, 3, none⟩ = some (.slice A n c) := hJ.sg.cell 3
          have HG : Hid (∀ (w1 : World) (Av : Option Addr) (cv : Nat), Below W8.heap.size W8 w1 → w1.ownsRow W8.heap.size 5 1 (.slice Av n cv) n (u8s m.body) → w1.cell? ⟨g, 3, none⟩ = some v1 ∧ w1.cell? ⟨w.heap.size, 1, none⟩ = some (.int .u64 (m.seq : Int)) ∧ (w1.alloc (.cells #[.int .u64 (m.seq : Int), .slice Av n cv] 97)).cell? ⟨g, 3, none⟩ = some v1 ∧
              Hid (DRv (w1.alloc (.cells #[.int .u64 (m.seq : Int), .slice Av n cv] 97)) F g rt v1 es1) ∧ Hid ((w1.alloc (.cells #[.int .u64 (m.seq : Int), .slice Av n cv] 97)).ownsRow 0 5 1 (.slice Av n cv) n (u8s m.body)) ∧
              Hid (Below W8.heap.size W8 (w1.alloc (.cells #[.int .u64 (m.seq : Int), .slice Av n cv] 97))) ∧ Hid (∀ u ∈ [Value.int .u64 (m.seq : Int), .slice Av n cv], u.oneCell' = true) ∧ Hid (∀ k, (Value.slice Av n cv).ownBlock = some k → W8.heap.size ≤ k)) := by
            refine Lib.hid fun w1 Av cv hb ho => ?_
            have hb2 : Below W8.heap.size W8 (w1.alloc (.cells #[.int .u64 (m.seq : Int), .slice Av n cv] 97)) := hb.alloc hb.size _
            have hb3 : Below w1.heap.size w1 (w1.alloc (.cells #[.int .u64 (m.seq : Int), .slice Av n cv] 97)) := (Below.refl _ _).alloc (Nat.le_refl _) _
            refine ⟨(hJ.d.below hb).bk.cell 3, (hJ.sg.below hb hJ.sg.lt).cell 1, (hJ.d.below hb2).bk.cell 3, Lib.hid (hJ.d.below hb2), Lib.hid (own_mono (own_below ho hb3 fun k e => (ho.lt k e).2) (Nat.zero_le _)), Lib.hid hb2, Lib.hid ?_, Lib.hid fun k e => (ho.lt k e).1⟩
            intro u hu
            simp only [List.mem_cons, List.not_mem_nil, or_false] at hu
            rcases hu with rfl | rfl <;> rfl
          obtain ⟨iw, hiw, hzw, hsw, hbwi⟩ := info_parts Try.infoEarly
          have HI := Lib.hid (And.intro hiw (And.intro hzw (And.intro hsw hbwi)))
          obtain ⟨ne, hne⟩ : ∃ ne, ne = es1.length := ⟨_, rfl⟩
          have hneb : ne ≤ 1000000 := by have := hJ.len; omega
          rw [← hne] at hv hc1
          have HX : Hid (∀ (w1 : World) (Av : Option Addr) (cv : Nat) (v' : Value) (w3 : World), Hid (DRv (w1.alloc (.cells #[.int .u64 (m.seq : Int), .slice Av n cv] 97)) F g rt v1 es1) → Hid ((w1.alloc (.cells #[.int .u64 (m.seq : Int), .slice Av n cv] 97)).ownsRow 0 5 1 (.slice Av n cv) n (u8s m.body)) →
              Hid (Below W8.heap.size W8 (w1.alloc (.cells #[.int .u64 (m.seq : Int), .slice Av n cv] 97))) → Hid (∀ k, (Value.slice Av n cv).ownBlock = some k → W8.heap.size ≤ k) → App (w1.alloc (.cells #[.int .u64 (m.seq : Int), .slice Av n cv] 97)) w3 0 97 2 v1 v' ne 1 (elC es1) [.int .u64 (m.seq : Int), .slice Av n cv] →
              w3.cell? ⟨g, 3, none⟩ = some v1 ∧ w3.frozen? ⟨g, 3, none⟩ = false ∧ Hid (∃ F7 v es, DK w (w3.setCell ⟨g, 3, none⟩ v') F F7 g (rt.keep m) (K + 1) v es)) := by
            refine Lib.hid fun w1 Av cv v' w3 q1 q2 q3 q4 happ => ?_
            rw [hne] at happ
            have hk3 : Kp (fun k => v1.ownBlock = some k) _ w3 := Kp.of_row happ.grow (fun g e => e)
            have hb3 := q1.out.bk.kp hk3 (fun e => q1.out.row.off q1.out.bk g (.inl e) rfl)
            refine ⟨hb3.cell 3, hb3.frozen 3, ?_⟩
            obtain ⟨F', d, mv⟩ := q1.out.push (w0 := W8) (q := (m.seq, m.body)) (Kp.of_below q3.out) hJ.d.lt hge hwt.1 happ (by rw [Hl.out]; exact q2.out) (fun k e => .inr (q4.out k e))
            have hrl := hJ.rs.lt
            have hrs := hJ.rs.below q3.out hrl
            have hrs3 := hrs.kp hk3 (fun e => by have := hJ.d.row.foot _ e; have := Hlt.out _ this; omega)
            have hgl := Hgl.out
            have hrs4 := hrs3.kp (Kp.set_ (F := fun k => k = g) (p := ⟨g, 3, none⟩) rfl v') (fun e => by omega)
            refine Lib.hid ⟨F', v', es1 ++ [((m.seq, m.body), .slice Av n cv)], ?_, (Mv.of hJ.kp).trans mv, hrs4, fun hf => ?_, by rw [List.length_append]; have := hJ.len; simp; omega⟩
            · rw [hke]; exact d
            · rcases mv.new _ hf with h' | h'
              · have := Hlt.out _ h'; omega
              · omega
          have Hv := Lib.hid hv
          have Hne := Lib.hid hne
          have HR0 : Hid (∀ (w1 : World) (Av : Option Addr) (cv : Nat), Hid (DRv (w1.alloc (.cells #[.int .u64 (m.seq : Int), .slice Av n cv] 97)) F g rt v1 es1) → (w1.alloc (.cells #[.int .u64 (m.seq : Int), .slice Av n cv] 97)).ownsRow 0 97 2 v1 ne (elC es1)) := Lib.hid fun w1 Av cv q1 => by rw [hne]; exact q1.out.row.own
          rw [hv] at c3
          clear hJ HJ8 HZ Hbw hwt hke hge hiw hzw hsw hbwi hv hne hfr hc1 hc2
          go_wp2_with fail
          go_region_law (first
            | (go_simp; go_at_call 34; (refine (HC.out _ (by (repeat' (first | assumption | exact Below.refl _ _ | apply Below.drew | exact bel_drewN (Below.refl _ _) _)))).mono ?_); rintro e w1 ⟨Av, cv, rfl, ho1, hb1⟩; (obtain ⟨x3, x1, y3, K3, KO, KB, KC, KE⟩ := HG.out w1 Av cv (below_then (by (repeat' (first | assumption | exact Below.refl _ _ | apply Below.drew | exact bel_drewN (Below.refl _ _) _))) hb1) (own_mono ho1 (by simp))); rw [Hv.out] at x3 y3; clear ho1 hb1)
            | ((refine step_append_app _ rfl _ _ 57 (by rfl) 0 97 iw _ 2 32 Try.underlying57 HI.out.1 HI.out.2.1 HI.out.2.2.1 HI.out.2.2.2 rfl v1 ne _ (by rw [Hv.out]; rfl) (HR0.out _ _ _ K3) (some ⟨w1.heap.size, 0, none⟩) 1 1 [.int .u64 (m.seq : Int), .slice Av n cv] (by rfl) (by rfl) (by intro e; cases e) (new_cells _ _ _ rfl) KC.out (by unfold maxLen; omega) (by omega) (by simp) ?_); intro v' w3 happ; (obtain ⟨Av', cv', rfl, _⟩ := own_shape happ.own); (obtain ⟨k2, kf, HXX⟩ := HX.out _ _ _ _ w3 K3 KO KB KE happ); rw [Hv.out] at k2))
          all_goals
            clear happ k2 kf x3 x1 y3 c3 s1 s3 K3 KO KB KC KE HX HG HC HR0
            go_wp2_with fail
            go_meet
            exact HXX
      case rest =>
        obtain ⟨F7, v7, es7, hK⟩ := hcut.out
        clear hcut HJ8 HZ Hbw
        clear W8
        obtain ⟨r7, hr7⟩ : ∃ r7, r7 = rt.keep m := ⟨_, rfl⟩
        have h64 := Hok2.out.len
        have hcs := Hok2.out.came
        rw [← hr7] at hK h64 hcs
        have hes : es7.length ≤ 900001 := by have := hK.len; omega
        have HT0 : Hid (DT w wc F F7 g r7 (K + 1) v7 es7 r7.came r7.early (.slice none 0 0) []) := Lib.hid (DT.start hK (by rw [hr7]; exact Hok2.out))
        have c2 : wc.cell? ⟨g, 2, none⟩ = some (.int .u64 (r7.came : Int)) := hK.d.bk.cell 2
        have HWt := Lib.hid (has_any hK.d (r7.came + 1) (by omega))
        have HE : Hid (∀ (wr : World) (lv : Value) (tc : Nat) (rest : List (Nat × List UInt8)) (out : List (List UInt8 × Value)) (w' : World), DT w wr F F7 g r7 (K + 1) v7 es7 tc rest lv out → getE es7 (tc + 1) = none → Kp (fun j => j = w.heap.size + 1) wr w' → DHearS r m w F g K (.returned (.tuple #[lv, .agg #[.int .u64 (r7.life : Int), .int .u64 (tc : Int), .bool true, .slice none 0 0], .int .i64 0])) w') := Lib.hid fun wr lv tc rest out w' hT hno hk => by
          rw [hr7, ← Hrt.out] at hT ⊢
          exact (DR.ends hT hno Hokh.out hk).2.2
        have Hes := Lib.hid hes
        have Hcs := Lib.hid hcs
        have H64 := Lib.hid h64
        clear hK hr7
        obtain ⟨c0, hc0⟩ : ∃ c0, c0 = r7.came := ⟨_, rfl⟩
        rw [← hc0] at c2 HT0 HWt hcs
        obtain ⟨C1, hC1⟩ : ∃ C1, C1 = c0 + 1 := ⟨_, rfl⟩
        rw [← hC1] at HWt
        have hwC : IntKind.u64.wrap ((c0 : Int) + 1) = (C1 : Int) := by rw [IntKind.wrap_u64]; omega
        have HC1 := Lib.hid hC1
        clear hC1 hc0
        go_wp2_with fail
        refine HWt.out.mono ?_
        rintro e W9 ⟨⟨z, rfl, hz⟩, rfl⟩
        have HZ : Hid (FindE es7 (c0 + 1) z) := by rw [← HC1.out]; exact hz
        clear hz HWt c2 hwC HC1 Hok2 Hok1 Hsum Hokh Hrt Hl Hm
        go_wp2_with fail
        go_loopg [8, 9] r7.early.length (fun gk zt lv wr => ∃ (tc : Nat) (rest : List (Nat × List UInt8)) (out : List (List UInt8 × Value)) (z : Int), zt = .int .i64 z ∧ rest.length = gk ∧ Hid (DT w wr F F7 g r7 (K + 1) v7 es7 tc rest lv out) ∧ Hid (FindE es7 (tc + 1) z))
        case atStart => exact ⟨c0, _, [], z, rfl, rfl, HT0, HZ⟩
        case round =>
          clear HT0 HZ hcs
          obtain ⟨tc, rest, out, z, rfl, hgk, HT, HZ⟩ := hrel
          obtain ⟨lv, rfl⟩ : ∃ lv : Value, lv = u9 := ⟨_, rfl⟩
          by_cases hno : getE es7 (tc + 1) = none
          · have hz := HZ.out.of_none hno
            subst hz
            have HF : Hid (∀ w', Kp (fun j => j = w.heap.size + 1) wr w' → DHearS r m w F g K (.returned (.tuple #[lv, .agg #[.int .u64 (r7.life : Int), .int .u64 (tc : Int), .bool true, .slice none 0 0], .int .i64 0])) w') := Lib.hid fun w' hk => HE.out wr lv tc rest out w' HT.out hno hk
            have hB := HT.out.k.rs
            have y1 : wr.cell? ⟨g, 1, none⟩ = some (.int .u64 (r7.life : Int)) := HT.out.k.d.bk.cell 1
            have y2 : wr.cell? ⟨g, 2, none⟩ = some (.int .u64 (tc : Int)) := HT.out.k.d.bk.cell 2
            have q0 : wr.cell? ⟨w.heap.size + 1, 0, none⟩ = some (.int .u64 0) := hB.cell 0
            have q1 : wr.cell? ⟨w.heap.size + 1, 1, none⟩ = some (.int .u64 0) := hB.cell 1
            have q2 : wr.cell? ⟨w.heap.size + 1, 2, none⟩ = some (.bool false) := hB.cell 2
            have q3 : wr.cell? ⟨w.heap.size + 1, 3, none⟩ = some (.slice none 0 0) := hB.cell 3
            have p0 := hB.frozen 0
            have p1 := hB.frozen 1
            have p2 := hB.frozen 2
            have p3 := hB.frozen 3
            have HB9 := Lib.hid hB
            have g1 : g ≠ w.heap.size + 1 := by have := Hgl.out; omega
            clear hB HT HZ hno HE
            generalize r7.life = L at *
            have V1 := Lib.hid (cell_kp y1 (set4 wr (w.heap.size + 1) (.int .u64 (L : Int)) (.int .u64 (tc : Int)) (.bool true) (.slice none 0 0)) g1)
            have V2 := Lib.hid (cell_kp y2 (set4 wr (w.heap.size + 1) (.int .u64 (L : Int)) (.int .u64 (tc : Int)) (.bool true) (.slice none 0 0)) g1)
            go_wp2_with fail
            go_region_held3 (fun w' => w'.cell? ⟨g, 1, none⟩ = some (.int .u64 (L : Int)) ∧ w'.cell? ⟨g, 2, none⟩ = some (.int .u64 (tc : Int))) (first | exact ⟨y1, y2⟩ | exact ⟨V1.out, V2.out⟩ | go_keep) (first | fail)
            all_goals
              have hkp := (set4 wr (w.heap.size + 1) (.int .u64 (L : Int)) (.int .u64 (tc : Int)) (.bool true) (.slice none 0 0)).trans (Kp.of_below ((Below.refl _ _).drew))
              have hk4 := HB9.out.set4 (.int .u64 (L : Int)) (.int .u64 (tc : Int)) (.bool true) (.slice none 0 0)
              replace hk4 : Bk ((((wr.setCell ⟨w.heap.size + 1, 0, none⟩ (.int .u64 (L : Int))).setCell ⟨w.heap.size + 1, 1, none⟩ (.int .u64 (tc : Int))).setCell ⟨w.heap.size + 1, 2, none⟩ (.bool true)).setCell ⟨w.heap.size + 1, 3, none⟩ (.slice none 0 0)).drew (w.heap.size + 1) 36 _ := hk4
              clear q0 q1 q2 q3 p0 p1 p2 p3 y1 y2 g1 V1 V2
              generalize ((((wr.setCell ⟨w.heap.size + 1, 0, none⟩ (.int .u64 (L : Int))).setCell ⟨w.heap.size + 1, 1, none⟩ (.int .u64 (tc : Int))).setCell ⟨w.heap.size + 1, 2, none⟩ (.bool true)).setCell ⟨w.heap.size + 1, 3, none⟩ (.slice none 0 0)).drew = w10 at *
              have j0 : w10.cell? ⟨w.heap.size + 1, 0, none⟩ = some (.int .u64 (L : Int)) := hk4.cell 0
              have j1 : w10.cell? ⟨w.heap.size + 1, 1, none⟩ = some (.int .u64 (tc : Int)) := hk4.cell 1
              have j2 : w10.cell? ⟨w.heap.size + 1, 2, none⟩ = some (.bool true) := hk4.cell 2
              have j3 : w10.cell? ⟨w.heap.size + 1, 3, none⟩ = some (.slice none 0 0) := hk4.cell 3
              go_wp2
              refine bodyPost_ret (by simp [results, Try.results24, go_sem, j0, j1, j2, j3]; try rfl) rfl ?_
              exact HF.out _ hkp
          · obtain ⟨i, hi, rfl, hge⟩ := HZ.out.of_some hno
            have hT := HT.out
            have hg2 : getK rest (tc + 1) = some es7[i].1.2 := by rw [← hT.k.d.look (tc + 1) (Nat.lt_succ_self _)]; exact hge
            obtain ⟨r', hr'⟩ := getK_cut hT.srt hT.keys hg2
            obtain ⟨R, c8, ev, _, _, _, x1⟩ := hT.k.d.row.cell i hi
            have hbe := hT.k.d.row.each es7[i] (List.getElem_mem hi)
            obtain ⟨Ab, cb, eb, _⟩ := own_shape hbe
            obtain ⟨bl, hbl⟩ : ∃ bl, bl = es7[i].1.2.length := ⟨_, rfl⟩
            rw [← hbl] at eb
            rw [eb] at x1
            obtain ⟨Ao, co, eo, _⟩ := own_shape hT.row
            obtain ⟨no, hno2⟩ : ∃ no, no = out.length := ⟨_, rfl⟩
            rw [← hno2] at eo
            have hrow := hT.row
            rw [← hno2] at hrow
            have hcnt := hT.cnt
            have hsum := hT.sum
            have h64' := H64.out
            have hcs' := Hcs.out
            have hes' := Hes.out
            rw [hr', List.length_cons] at hcnt hsum
            have n64 : (no : Int) ≤ 64 := by omega
            have y3 : wr.cell? ⟨g, 3, none⟩ = some v7 := hT.k.d.bk.cell 3
            rw [ev] at y3
            have hsz := hT.k.mv.kp.size
            obtain ⟨C1, hC1⟩ : ∃ C1, C1 = tc + 1 := ⟨_, rfl⟩
            obtain ⟨C2, hC2⟩ : ∃ C2, C2 = C1 + 1 := ⟨_, rfl⟩
            have HN : Hid (∀ (w3 : World) (lv' : Value), App (wr.alloc (.cells #[.slice Ab bl cb] 34)) w3 w.heap.size 34 1 lv lv' no 1 (out.map (·.2)) [.slice Ab bl cb] → w3.cell? ⟨g, 2, none⟩ = some (.int .u64 (tc : Int)) ∧ w3.frozen? ⟨g, 2, none⟩ = false ∧ Hid (DT w (w3.setCell ⟨g, 2, none⟩ (.int .u64 (C1 : Int))) F F7 g r7 (K + 1) v7 es7 C1 r' lv' (out ++ [(es7[i].1.2, es7[i].2)]))) := Lib.hid fun w3 lv' ha => by
              obtain ⟨r2, e2, d2, k2, f2⟩ := hT.next hi hge ((Below.refl _ _).alloc (Nat.le_refl _) _) (by rw [eb, ← hno2]; exact ha)
              rw [hr'] at e2
              injection e2 with _ e2
              subst e2
              rw [hC1]
              exact ⟨k2, f2, Lib.hid d2⟩
            have hw1 : IntKind.u64.wrap ((tc : Int) + 1) = (C1 : Int) := by rw [IntKind.wrap_u64]; omega
            have hw2 : IntKind.u64.wrap ((C1 : Int) + 1) = (C2 : Int) := by rw [IntKind.wrap_u64]; omega
            have hgr : r'.length = gk - 1 := by rw [hr', List.length_cons] at hgk; omega
            have hg0 : 0 < gk := by rw [hr', List.length_cons] at hgk; omega
            have Hgr := Lib.hid hgr
            have HC2 := Lib.hid hC2
            obtain ⟨i1, hi1, hy0, hy1, hy2⟩ := info_parts Try.infoBytes
            obtain ⟨NE, hNE⟩ : ∃ NE, NE = es7.length := ⟨_, rfl⟩
            rw [← hNE] at y3 hi
            have iN : (i : Int) < (NE : Int) := by omega
            have i0 : ¬ (i : Int) < 0 := by omega
            have Hb0 := Lib.hid hsz
            clear hno hT HT HZ hg2 hr' ev hbe eb hbl hno2 hcnt hsum h64' hcs' hes' hC1 hC2 hgr hge hNE hgk
            subst eo
            go_wp2_with (at_builtin; refine wpList_append_app _ rfl _ _ 33 rfl w.heap.size 34 i1 (.slice none 0 0) 1 24 Try.underlying33 hi1 hy0 hy1 hy2 rfl _ _ _ rfl (hrow.alloc _) (some ⟨wr.heap.size, 0, none⟩) 1 1 [Value.slice Ab bl cb] rfl rfl (by intro h; cases h) (cell_new1 _ _ _) (by intro u hu; simp at hu; subst hu; rfl) (by unfold maxLen; omega) (by omega) (by simp; omega) ?_)
            intro lv' w3 ha
            obtain ⟨k2, f2, HD⟩ := HN.out w3 lv' ha
            have HWt : Hid (Calls Try.prog 43 #[.pointer (some ⟨g, 0, none⟩), .int .u64 (C2 : Int)] (w3.setCell ⟨g, 2, none⟩ (.int .u64 (C1 : Int))) fun e w' => (∃ z, e = .returned (.int .i64 z) ∧ FindE es7 (C1 + 1) z) ∧ w3.setCell ⟨g, 2, none⟩ (.int .u64 (C1 : Int)) = w') := by
              rw [HC2.out]
              exact Lib.hid (has_any HD.out.k.d (C1 + 1) (by have := Hes.out; omega))
            clear ha HN hrow hi1 hy0 hy1 hy2 x1 y3
            go_wp2_with fail
            refine HWt.out.mono ?_
            rintro e W9 ⟨⟨z, rfl, hz⟩, rfl⟩
            have HZ2 := Lib.hid hz
            clear hz HWt
            go_wp2
            go_roundg (gk - 1)
            case measure => omega
            case rel => exact ⟨C1, r', _, z, rfl, Hgr.out, HD, HZ2⟩
end Go.Proofs.Ytfdlhefbbhblnaa
