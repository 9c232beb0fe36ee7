/- The document's sender: Tick. -/
import Derived.Test.YtfdlhefbbhblnaaSesRt
namespace Go.Proofs.Ytfdlhefbbhblnaa
open Go.RowKit Go.Maps

attribute [local go_sem ↓] bSgs_eq
attribute [local go_sem] run_bSgs

def DTickR (s : Sd) (dn : List (List UInt8 × Nat)) (w : World) (F : Nat → Prop) (g : Nat) (e : Ending) (w' : World) : Prop :=
  ∃ v gs, e = .returned v ∧ gs.map (·.1) = s.out ∧ w'.ownsRow w.heap.size 36 4 v gs.length (sgC gs) ∧ (∀ e ∈ gs, w'.ownsRow 0 5 1 e.2 e.1.body.length (u8s e.1.body) ∧ ∀ k, e.2.ownBlock = some k → F k) ∧ RS w' F g s.tickS dn ∧ Kp F w w'

set_option maxRecDepth 100000 in
set_option maxHeartbeats 8000000 in
theorem dTick_any {w : World} {F : Nat → Prop} {g : Nat} {s : Sd} {dn : List (List UInt8 × Nat)} (h : RS w F g s dn) (ht : s.tick + 1 < 4611686018427387904) : Calls Try.prog 16 #[.pointer (some ⟨g, 0, none⟩)] w (DTickR s dn w F g) := by
  obtain ⟨v, es, h1, h3, h4, h8, h5, h6, h7⟩ := h
  obtain ⟨A, c, rfl, hc1, hc2⟩ := h3.shape
  have hel : es.length = s.came + s.queue.length := by
    have := congrArg List.length h4
    rw [List.length_map, List.length_append, h8] at this
    exact this
  obtain ⟨N, hN⟩ : ∃ N, N = s.came + s.queue.length := ⟨_, rfl⟩
  rw [hel, ← hN] at h1 h3 hc1
  have c4 : w.cell? ⟨g, 4, none⟩ = some (.int .i64 (s.tick : Int)) := h1.cell 4
  have f4 := h1.frozen 4
  obtain ⟨T, hT⟩ : ∃ T, T = s.tick + 1 := ⟨_, rfl⟩
  have e1 : IntKind.i64.wrap ((s.tick : Int) + 1) = (T : Int) := by rw [IntKind.wrap_i64]; omega
  obtain ⟨W1, hW1⟩ : ∃ W1, W1 = w.setCell ⟨g, 4, none⟩ (.int .i64 (T : Int)) := ⟨_, rfl⟩
  have hb3 := h1.set_ 4 (.int .i64 (T : Int))
  rw [← hW1] at hb3
  have d3 : W1.cell? ⟨g, 3, none⟩ = some (.int .i64 (s.came : Int)) := hb3.cell 3
  have HW1 := Lib.hid hW1
  have hk0 : Kp (fun j => j = g) w (w.setCell ⟨g, 4, none⟩ (.int .i64 (T : Int))) := Kp.set_ (F := fun j => j = g) (p := ⟨g, 4, none⟩) rfl _
  have HI : Hid (DTick w (w.setCell ⟨g, 4, none⟩ (.int .i64 (T : Int))) F g s dn (.slice A N c) 0 (.slice none 0 0) es []) :=
    Lib.hid ⟨(by rw [hT]; exact h1.set_ 4 _), ⟨own_kp h3.own hk0 fun k e => h3.off h1 k (.inl e), fun x hx => own_kp (h3.each x hx) hk0 fun k e => h3.off h1 k (.inr ⟨x, hx, e⟩), h3.foot, h3.bods⟩, by simp [h4], h8, World.ownsRow_nil _ _ _ _, (fun e he => by simp at he), rfl, hk0.mono fun k e => by rw [e]; exact h6⟩
  rw [← hW1] at HI
  clear hW1 hb3 hk0
  have Hok := Lib.hid (h5.tickS ht)
  have Hbods := Lib.hid h5.bods
  have hcmb := h5.came
  have hwin := h5.win
  have hlen := h5.len
  have HT := Lib.hid hT
  have H6 := Lib.hid h6
  have H7 := Lib.hid h7
  have H8 := Lib.hid h8
  obtain ⟨cm, hcm⟩ : ∃ cm, cm = s.came := ⟨_, rfl⟩
  obtain ⟨wi, hwi⟩ : ∃ wi, wi = s.window := ⟨_, rfl⟩
  obtain ⟨K, hK⟩ : ∃ K, K = s.k := ⟨_, rfl⟩
  have hkl : K ≤ 64 ∧ cm + K ≤ N ∧ (K = wi ∨ cm + K = N) ∧ K ≤ wi := by rw [hK, hcm, hwi, hN]; unfold Sd.k; omega
  have hcN : cm ≤ N ∧ N < 4611686018427387904 ∧ wi ≤ 64 := by omega
  rw [← hcm] at d3
  have HC := Lib.hid hcm
  have HWI := Lib.hid hwi
  have HK := Lib.hid hK
  have HN := Lib.hid hN
  have e6 : IntKind.i64.wrap ((cm : Int) + (wi : Int)) = (cm : Int) + (wi : Int) := by rw [IntKind.wrap_i64]; omega
  clear h1 h3 h4 h5 h6 h7 h8 hel hT hcm hwi hK hN hcmb hwin hlen hc1
  go_enter Try.func16, Try.ntmps16
  go_upto_region 2 with (fail)
  rw [← HW1.out]
  clear c4 f4
  go_wp2_with fail
  go_loopg [4, 3] K (fun q iv lv wr => ∃ (i p : Nat) (es : List Pce) (gs : List Sge), iv = .int .i64 (p : Int) ∧ p = cm + i ∧ i + q = K ∧ Hid (DTick w wr F g s dn (.slice A N c) i lv es gs))
  case atStart => exact ⟨0, cm, es, [], rfl, by omega, by omega, HI⟩
  case round =>
    obtain ⟨i, p, es, gs, rfl, hpi, hik, hI⟩ := hrel
    have h := hI.out
    have c5 : wr.cell? ⟨g, 5, none⟩ = some (.slice A N c) := h.bk.cell 5
    have c3 : wr.cell? ⟨g, 3, none⟩ = some (.int .i64 (cm : Int)) := by rw [HC.out]; exact h.bk.cell 3
    have c1 : wr.cell? ⟨g, 1, none⟩ = some (.int .i64 (wi : Int)) := by rw [HWI.out]; exact h.bk.cell 1
    have HPI := Lib.hid hpi
    by_cases hiK : i < K
    · have m1 : (p : Int) < (N : Int) := by omega
      have m2 : (p : Int) < (cm : Int) + (wi : Int) := by omega
      have m1d : decide ((p : Int) < (N : Int)) = true := decide_eq_true m1
      have m2d : decide ((p : Int) < (cm : Int) + (wi : Int)) = true := decide_eq_true m2
      have hpN : p < N := by omega
      clear hpi
      go_wp2_with fail
      go_quiet (fail)
      have HB0 := Lib.hid (h.below (bel_drewN (Below.refl wr.heap.size wr) nq))
      clear h hI c5 c3 c1
      generalize wr.drewN nq = wr2 at HB0 ⊢
      have hiQ : i < s.queue.length := by have := HN.out; have := HC.out; have := HPI.out; omega
      have hil : p < es.length := by have := HB0.out.len; have := HN.out; omega
      have hat : es[p]'hil = (s.queue[i], (es[p]'hil).2) := HB0.out.at_ hiQ (by rw [← HC.out]; exact HPI.out) hil
      obtain ⟨R, c', hv, hx1, hx2, cb0, cs0⟩ := HB0.out.row.cell p hil
      injection hv with hv hv1 hv2
      subst hv
      clear hx1 hx2 hv1 hv2
      have hqb := Hbods.out _ (List.getElem_mem hiQ)
      obtain ⟨q, hqe⟩ : ∃ q, s.queue[i] = q := ⟨_, rfl⟩
      rw [hqe] at hat hqb
      obtain ⟨Ab, cb, hbe0, hbr⟩ := own_shape (HB0.out.row.each _ (List.getElem_mem hil))
      have hbe : (es[p]'hil).2 = .slice Ab q.1.length cb := by rw [hbe0, hat]
      clear hbe0 hbr
      obtain ⟨q2, hq2⟩ : ∃ q2, q2 = q.2 := ⟨_, rfl⟩
      have c5 : wr2.cell? ⟨g, 5, none⟩ = some (.slice (some ⟨R, 0, none⟩) N c) := HB0.out.bk.cell 5
      have c4 : wr2.cell? ⟨g, 4, none⟩ = some (.int .i64 (T : Int)) := by have := HB0.out.bk.cell 4; rw [HT.out]; exact this
      have c2 : wr2.cell? ⟨g, 2, none⟩ = some (.int .i64 (s.span : Int)) := HB0.out.bk.cell 2
      have cs : wr2.cell? ⟨R, p * 2 + 1, none⟩ = some (.int .i64 (q2 : Int)) := by rw [cs0, hat, hq2]
      have hT := HT.out
      rw [← hq2] at hqb
      obtain ⟨D, hD⟩ : ∃ D, D = T - q2 := ⟨_, rfl⟩
      obtain ⟨S1, hS1⟩ : ∃ S1, S1 = s.came + i + 1 := ⟨_, rfl⟩
      have e2 : IntKind.i64.wrap ((T : Int) - (q2 : Int)) = (D : Int) := by rw [IntKind.wrap_i64]; omega
      have e3 : IntKind.i64.wrap ((p : Int) + 1) = (S1 : Int) := by have := HPI.out; have := HC.out; rw [IntKind.wrap_i64]; omega
      have e4 : IntKind.u64.wrap (S1 : Int) = (S1 : Int) := by have := HPI.out; have := HC.out; rw [IntKind.wrap_u64]; omega
      have HS1 := Lib.hid hS1
      have hdd : dueQ s.span T q = !(decide (0 < q2) && decide (D < s.span)) := by unfold dueQ; rw [← hq2, hD]
      have HAT := Lib.hid (And.intro hat (And.intro hbe hqe))
      have HQ2 := Lib.hid hq2
      clear hS1 hT cb0 cs0 hat hbe hq2
      by_cases hp : q2 = 0
      · have hb0 : ((q2 : Int) == 0) = true := by rw [hp]; rfl
        have hdue : dueQ s.span T q = true := by rw [hdd, hp]; rfl
        clear hp hqe
        clear hdd hD
        go_wp2_with fail
        go_quiet (fail)
        have HB := Lib.hid (HB0.out.below (bel_drewN (Below.refl wr2.heap.size wr2) nq))
        clear HB0 c5 c4 c2 cs
        generalize wr2.drewN nq = wr3 at HB ⊢
        have c5 : wr3.cell? ⟨g, 5, none⟩ = some (.slice (some ⟨R, 0, none⟩) N c) := HB.out.bk.cell 5
        have c4 : wr3.cell? ⟨g, 4, none⟩ = some (.int .i64 (T : Int)) := by have := HB.out.bk.cell 4; rw [HT.out]; exact this
        have hown := HB.out.row.own
        rw [show es.length = N by rw [HB.out.len, HN.out]] at hown
        have hth := own_there hown (p * 2 + 1) 1 (by omega) 0 (by omega)
        have hfr : wr3.frozen? ⟨R, p * 2 + 1, none⟩ = false := hth.2
        clear hown hth
        have cs : wr3.cell? ⟨R, p * 2 + 1, none⟩ = some (.int .i64 (q2 : Int)) := by
          obtain ⟨R', c', e1, _, _, _, e2⟩ := HB.out.row.cell p hil
          injection e1 with e1
          injection e1 with e1
          injection e1 with e1
          subst e1
          rw [e2, HAT.out.1]
          exact congrArg (fun x : Nat => some (Value.int IntKind.i64 (x : Int))) HQ2.out.symm
        obtain ⟨w0, hw0⟩ : ∃ w0, w0 = wr3.setCell ⟨R, p * 2 + 1, none⟩ (.int .i64 (T : Int)) := ⟨_, rfl⟩
        have hRF : F R := HB.out.row.foot R rfl
        have hRg : R ≠ g := HB.out.row.off HB.out.bk R (.inl rfl)
        have hk0 : Kp (fun j => j = R) wr3 w0 := by rw [hw0]; exact Kp.set_ (F := fun j => j = R) (p := ⟨R, p * 2 + 1, none⟩) rfl _
        have hlN : N = es.length := by rw [HB.out.len, HN.out]
        have HK : Hid (∀ W, Below w0.heap.size w0 W → W.cell? ⟨g, 0, none⟩ = some (.int .u64 (s.life : Int)) ∧ W.cell? ⟨g, 5, none⟩ = some (.slice (some ⟨R, 0, none⟩) N c) ∧ W.cell? ⟨R, p * 2, none⟩ = some (.slice Ab q.1.length cb) ∧ Hid (W.ownsRow w.heap.size 36 4 u3 gs.length (sgC gs)) ∧ w.heap.size ≤ W.heap.size) := Lib.hid fun W hb => by
          have hbk0 := HB.out.bk.kp hk0 (fun e => hRg e.symm)
          have hbk := hbk0.below hb hbk0.lt
          have hrow0 : DcRow w0 F (.slice (some ⟨R, 0, none⟩) N c) (es.set p ((es[p].1.1, T), es[p].2)) := by rw [hw0]; exact HB.out.row.sent hlN hil T
          have hown0 : w0.ownsRow w.heap.size 36 4 u3 gs.length (sgC gs) := own_kp HB.out.own hk0 fun k e e2 => by
            have h1 := (HB.out.own.lt k e).1
            have h2 := H7.out R hRF
            omega
          have yb : w0.cell? ⟨R, p * 2, none⟩ = some (.slice Ab q.1.length cb) := by
            obtain ⟨R', c', e1, _, _, e2, _⟩ := hrow0.cell p (by simp; omega)
            injection e1 with e1
            injection e1 with e1
            injection e1 with e1
            subst e1
            rw [e2]
            simp [HAT.out.2.1]
          have hz1 := HB.out.kp.size
          have hz2 := hk0.size
          have hz3 := hb.size
          exact ⟨hbk.cell 0, hbk.cell 5, (hb.cell (p := ⟨R, p * 2, none⟩) (World.block_lt_of_cell? w0 _ yb)).trans yb, Lib.hid (own_below hown0 hb fun k e => (hown0.lt k e).2), by omega⟩
        have HF : Hid (∀ w2 w3 lv', Below w0.heap.size w0 w2 → App w2 w3 w.heap.size 36 4 u3 lv' gs.length 1 (sgC gs) [.int .u64 (s.life : Int), .int .u64 (S1 : Int), .bool false, .slice Ab q.1.length cb] → Hid (∃ es' gs', DTick w w3 F g s dn (.slice (some ⟨R, 0, none⟩) N c) (i + 1) lv' es' gs') ∧ w3.cell? ⟨g, 0, none⟩ = some (.int .u64 (s.life : Int)) ∧ w3.cell? ⟨g, 5, none⟩ = some (.slice (some ⟨R, 0, none⟩) N c) ∧ w3.cell? ⟨R, p * 2, none⟩ = some (.slice Ab q.1.length cb)) := Lib.hid fun w2 w3 lv' hb happ => by
          have hq := HAT.out.2.2
          have hgo := HB.out.go (p := p) (w0 := w0) (w2 := w2) (w3 := w3) (lv' := lv') hlN hiQ (by rw [← HC.out]; exact HPI.out) hil (by rw [hq, ← HT.out]; exact hdue) H7.out (by rw [← HT.out]; exact hw0) hb (by rw [HAT.out.2.1, hq, ← HS1.out]; exact happ)
          obtain ⟨es', hI⟩ := hgo
          refine ⟨Lib.hid ⟨es', _, hI⟩, hI.bk.cell 0, hI.bk.cell 5, ?_⟩
          have hk3 : Kp (fun k => u3.ownBlock = some k) w2 w3 := Kp.of_row happ.grow (fun g e => e)
          refine cell_kp (HK.out w2 hb).2.2.1 hk3 fun e => ?_
          have h1 := (HB.out.own.lt R e).1
          have h2 := H7.out R hRF
          omega
        have hgl : gs.length ≤ 64 := by
          have h1 := congrArg List.length HB.out.oeq
          have h2 := outQ_len s.life s.span (s.tick + 1) (s.queue.take i) s.came
          simp only [List.length_map, List.length_take] at h1 h2
          have h3 := hkl
          omega
        obtain ⟨iw, hiw, hzw, hsw, hbw⟩ := info_parts Try.infoSeg
        have HIW := Lib.hid (And.intro hiw (And.intro hzw (And.intro hsw hbw)))
        have HOne : Hid (∀ u ∈ ([.int .u64 (s.life : Int), .int .u64 (S1 : Int), .bool false, .slice Ab q.1.length cb] : List Value), u.oneCell' = true) := Lib.hid fun u hu => by
          simp only [List.mem_cons, List.not_mem_nil, or_false] at hu
          rcases hu with rfl | rfl | rfl | rfl <;> rfl
        have HW0 := Lib.hid hw0
        clear hw0 hk0 hRg hlN hiw hzw hsw hbw hdue
        go_wp2_with fail
        first
        | (go_region_law (fail))
        | fail
        all_goals
          rw [← HW0.out]
          have hbd : Below w0.heap.size w0 w0.drew := (Below.refl _ _).drew
          generalize w0.drew = wd at hbd ⊢
          clear c5 c4 hfr cs
          obtain ⟨y0, y5, yb, _, _⟩ := HK.out wd hbd
          obtain ⟨a0, a5, ab, _, _⟩ := HK.out (wd.alloc (.cells #[.int .u64 (s.life : Int), .int .u64 (S1 : Int), .bool false, .slice Ab q.1.length cb] 36)) (below_then hbd ((Below.refl _ _).alloc (Nat.le_refl _) _))
          have hb8 : Below w0.heap.size w0 (wd.drew.alloc (.cells #[.int .u64 (s.life : Int), .int .u64 (S1 : Int), .bool false, .slice Ab q.1.length cb] 36)) := below_then hbd ((Below.refl _ _).drew.alloc (Nat.le_refl _) _)
          obtain ⟨_, _, _, o8, z8⟩ := HK.out _ hb8
          have HF8 := Lib.hid (fun v' w3 happ => HF.out _ w3 v' hb8 happ)
          clear hbd hb8 HK HF
          go_wp2_with fail
          first
          | (go_region_law ((refine step_append_app _ rfl _ _ 45 (by rfl) w.heap.size 36 iw _ 4 48 Try.underlying45 HIW.out.1 HIW.out.2.1 HIW.out.2.2.1 HIW.out.2.2.2 rfl u3 gs.length _ (by rfl) o8.out (some ⟨wd.heap.size, 0, none⟩) 1 1 [.int .u64 (s.life : Int), .int .u64 (S1 : Int), .bool false, .slice Ab q.1.length cb] (by rfl) (by rfl) (by intro e; cases e) (new_cells _ _ _ rfl) HOne.out (by unfold maxLen; omega) (by omega) z8 ?_); intro lv' w3 happ; (obtain ⟨H9, t0, t5, tb⟩ := HF8.out lv' w3 happ); clear happ))
          | fail
          all_goals
            clear y0 y5 yb a0 a5 ab t0 t5 tb HF8 o8
            go_wp2
            go_roundg (gk - 1)
            case measure => omega
            case rel =>
              obtain ⟨es', gs', hn⟩ := H9.out
              have hS : S1 = p + 1 := by have h1 := HS1.out; have h2 := HPI.out; have h3 := HC.out; omega
              exact ⟨i + 1, p + 1, es', gs', by rw [hS], by have := HPI.out; omega, by omega, Lib.hid hn⟩
      · have hb0 : ((q2 : Int) == 0) = false := by simp; exact hp
        by_cases hds : D < s.span
        · have md : ¬ (s.span : Int) ≤ (D : Int) := by omega
          have mdd : decide ((s.span : Int) ≤ (D : Int)) = false := decide_eq_false md
          have hnd : dueQ s.span (s.tick + 1) s.queue[i] = false := by rw [hqe, ← HT.out, hdd, decide_eq_true (by omega : 0 < q2), decide_eq_true hds]; rfl
          have HNX : Hid (∀ q, DTick w (wr2.drewN q) F g s dn (.slice (some ⟨R, 0, none⟩) N c) (i + 1) u3 es gs) := Lib.hid fun q => (HB0.out.skip hiQ hnd).below (bel_drewN (Below.refl wr2.heap.size wr2) q)
          clear hnd hdd hqe HAT HB0 hD hil hp e3 e4
          go_wp2_with fail
          go_quiet (fail)
          go_wp2
          go_roundg (gk - 1)
          case measure => omega
          case rel => exact ⟨i + 1, p + 1, es, gs, by go_num, by have := HPI.out; omega, by omega, Lib.hid (HNX.out _)⟩
        · have md : (s.span : Int) ≤ (D : Int) := by omega
          have mdd : decide ((s.span : Int) ≤ (D : Int)) = true := decide_eq_true md
          have hdue : dueQ s.span T q = true := by rw [hdd, decide_eq_false hds]; simp
          clear hp hqe
          clear hdd hD
          go_wp2_with fail
          go_quiet (fail)
          have HB := Lib.hid (HB0.out.below (bel_drewN (Below.refl wr2.heap.size wr2) nq))
          clear HB0 c5 c4 c2 cs
          generalize wr2.drewN nq = wr3 at HB ⊢
          have c5 : wr3.cell? ⟨g, 5, none⟩ = some (.slice (some ⟨R, 0, none⟩) N c) := HB.out.bk.cell 5
          have c4 : wr3.cell? ⟨g, 4, none⟩ = some (.int .i64 (T : Int)) := by have := HB.out.bk.cell 4; rw [HT.out]; exact this
          have hown := HB.out.row.own
          rw [show es.length = N by rw [HB.out.len, HN.out]] at hown
          have hth := own_there hown (p * 2 + 1) 1 (by omega) 0 (by omega)
          have hfr : wr3.frozen? ⟨R, p * 2 + 1, none⟩ = false := hth.2
          clear hown hth
          have cs : wr3.cell? ⟨R, p * 2 + 1, none⟩ = some (.int .i64 (q2 : Int)) := by
            obtain ⟨R', c', e1, _, _, _, e2⟩ := HB.out.row.cell p hil
            injection e1 with e1
            injection e1 with e1
            injection e1 with e1
            subst e1
            rw [e2, HAT.out.1]
            exact congrArg (fun x : Nat => some (Value.int IntKind.i64 (x : Int))) HQ2.out.symm
          obtain ⟨w0, hw0⟩ : ∃ w0, w0 = wr3.setCell ⟨R, p * 2 + 1, none⟩ (.int .i64 (T : Int)) := ⟨_, rfl⟩
          have hRF : F R := HB.out.row.foot R rfl
          have hRg : R ≠ g := HB.out.row.off HB.out.bk R (.inl rfl)
          have hk0 : Kp (fun j => j = R) wr3 w0 := by rw [hw0]; exact Kp.set_ (F := fun j => j = R) (p := ⟨R, p * 2 + 1, none⟩) rfl _
          have hlN : N = es.length := by rw [HB.out.len, HN.out]
          have HK : Hid (∀ W, Below w0.heap.size w0 W → W.cell? ⟨g, 0, none⟩ = some (.int .u64 (s.life : Int)) ∧ W.cell? ⟨g, 5, none⟩ = some (.slice (some ⟨R, 0, none⟩) N c) ∧ W.cell? ⟨R, p * 2, none⟩ = some (.slice Ab q.1.length cb) ∧ Hid (W.ownsRow w.heap.size 36 4 u3 gs.length (sgC gs)) ∧ w.heap.size ≤ W.heap.size) := Lib.hid fun W hb => by
            have hbk0 := HB.out.bk.kp hk0 (fun e => hRg e.symm)
            have hbk := hbk0.below hb hbk0.lt
            have hrow0 : DcRow w0 F (.slice (some ⟨R, 0, none⟩) N c) (es.set p ((es[p].1.1, T), es[p].2)) := by rw [hw0]; exact HB.out.row.sent hlN hil T
            have hown0 : w0.ownsRow w.heap.size 36 4 u3 gs.length (sgC gs) := own_kp HB.out.own hk0 fun k e e2 => by
              have h1 := (HB.out.own.lt k e).1
              have h2 := H7.out R hRF
              omega
            have yb : w0.cell? ⟨R, p * 2, none⟩ = some (.slice Ab q.1.length cb) := by
              obtain ⟨R', c', e1, _, _, e2, _⟩ := hrow0.cell p (by simp; omega)
              injection e1 with e1
              injection e1 with e1
              injection e1 with e1
              subst e1
              rw [e2]
              simp [HAT.out.2.1]
            have hz1 := HB.out.kp.size
            have hz2 := hk0.size
            have hz3 := hb.size
            exact ⟨hbk.cell 0, hbk.cell 5, (hb.cell (p := ⟨R, p * 2, none⟩) (World.block_lt_of_cell? w0 _ yb)).trans yb, Lib.hid (own_below hown0 hb fun k e => (hown0.lt k e).2), by omega⟩
          have HF : Hid (∀ w2 w3 lv', Below w0.heap.size w0 w2 → App w2 w3 w.heap.size 36 4 u3 lv' gs.length 1 (sgC gs) [.int .u64 (s.life : Int), .int .u64 (S1 : Int), .bool false, .slice Ab q.1.length cb] → Hid (∃ es' gs', DTick w w3 F g s dn (.slice (some ⟨R, 0, none⟩) N c) (i + 1) lv' es' gs') ∧ w3.cell? ⟨g, 0, none⟩ = some (.int .u64 (s.life : Int)) ∧ w3.cell? ⟨g, 5, none⟩ = some (.slice (some ⟨R, 0, none⟩) N c) ∧ w3.cell? ⟨R, p * 2, none⟩ = some (.slice Ab q.1.length cb)) := Lib.hid fun w2 w3 lv' hb happ => by
            have hq := HAT.out.2.2
            have hgo := HB.out.go (p := p) (w0 := w0) (w2 := w2) (w3 := w3) (lv' := lv') hlN hiQ (by rw [← HC.out]; exact HPI.out) hil (by rw [hq, ← HT.out]; exact hdue) H7.out (by rw [← HT.out]; exact hw0) hb (by rw [HAT.out.2.1, hq, ← HS1.out]; exact happ)
            obtain ⟨es', hI⟩ := hgo
            refine ⟨Lib.hid ⟨es', _, hI⟩, hI.bk.cell 0, hI.bk.cell 5, ?_⟩
            have hk3 : Kp (fun k => u3.ownBlock = some k) w2 w3 := Kp.of_row happ.grow (fun g e => e)
            refine cell_kp (HK.out w2 hb).2.2.1 hk3 fun e => ?_
            have h1 := (HB.out.own.lt R e).1
            have h2 := H7.out R hRF
            omega
          have hgl : gs.length ≤ 64 := by
            have h1 := congrArg List.length HB.out.oeq
            have h2 := outQ_len s.life s.span (s.tick + 1) (s.queue.take i) s.came
            simp only [List.length_map, List.length_take] at h1 h2
            have h3 := hkl
            omega
          obtain ⟨iw, hiw, hzw, hsw, hbw⟩ := info_parts Try.infoSeg
          have HIW := Lib.hid (And.intro hiw (And.intro hzw (And.intro hsw hbw)))
          have HOne : Hid (∀ u ∈ ([.int .u64 (s.life : Int), .int .u64 (S1 : Int), .bool false, .slice Ab q.1.length cb] : List Value), u.oneCell' = true) := Lib.hid fun u hu => by
            simp only [List.mem_cons, List.not_mem_nil, or_false] at hu
            rcases hu with rfl | rfl | rfl | rfl <;> rfl
          have HW0 := Lib.hid hw0
          clear hw0 hk0 hRg hlN hiw hzw hsw hbw hdue
          go_wp2_with fail
          first
          | (go_region_law (fail))
          | fail
          all_goals
            rw [← HW0.out]
            have hbd : Below w0.heap.size w0 w0.drew := (Below.refl _ _).drew
            generalize w0.drew = wd at hbd ⊢
            clear c5 c4 hfr cs
            obtain ⟨y0, y5, yb, _, _⟩ := HK.out wd hbd
            obtain ⟨a0, a5, ab, _, _⟩ := HK.out (wd.alloc (.cells #[.int .u64 (s.life : Int), .int .u64 (S1 : Int), .bool false, .slice Ab q.1.length cb] 36)) (below_then hbd ((Below.refl _ _).alloc (Nat.le_refl _) _))
            have hb8 : Below w0.heap.size w0 (wd.drew.alloc (.cells #[.int .u64 (s.life : Int), .int .u64 (S1 : Int), .bool false, .slice Ab q.1.length cb] 36)) := below_then hbd ((Below.refl _ _).drew.alloc (Nat.le_refl _) _)
            obtain ⟨_, _, _, o8, z8⟩ := HK.out _ hb8
            have HF8 := Lib.hid (fun v' w3 happ => HF.out _ w3 v' hb8 happ)
            clear hbd hb8 HK HF
            go_wp2_with fail
            first
            | (go_region_law ((refine step_append_app _ rfl _ _ 45 (by rfl) w.heap.size 36 iw _ 4 48 Try.underlying45 HIW.out.1 HIW.out.2.1 HIW.out.2.2.1 HIW.out.2.2.2 rfl u3 gs.length _ (by rfl) o8.out (some ⟨wd.heap.size, 0, none⟩) 1 1 [.int .u64 (s.life : Int), .int .u64 (S1 : Int), .bool false, .slice Ab q.1.length cb] (by rfl) (by rfl) (by intro e; cases e) (new_cells _ _ _ rfl) HOne.out (by unfold maxLen; omega) (by omega) z8 ?_); intro lv' w3 happ; (obtain ⟨H9, t0, t5, tb⟩ := HF8.out lv' w3 happ); clear happ))
            | fail
            all_goals
              clear y0 y5 yb a0 a5 ab t0 t5 tb HF8 o8
              go_wp2
              go_roundg (gk - 1)
              case measure => omega
              case rel =>
                obtain ⟨es', gs', hn⟩ := H9.out
                have hS : S1 = p + 1 := by have h1 := HS1.out; have h2 := HPI.out; have h3 := HC.out; omega
                exact ⟨i + 1, p + 1, es', gs', by rw [hS], by have := HPI.out; omega, by omega, Lib.hid hn⟩
    · have hiE : i = K := by omega
      have HE : Hid (∃ es gs, DTick w wr F g s dn (.slice A N c) s.k u3 es gs) := Lib.hid ⟨es, gs, by rw [← HK.out, ← hiE]; exact h⟩
      have FIN : Hid (∀ q, DTickR s dn w F g (.returned u3) (wr.drewN q)) := Lib.hid fun q => by
        obtain ⟨es, gs, h⟩ := HE.out
        have h := h.below (bel_drewN (Below.refl wr.heap.size wr) q)
        exact ⟨_, gs, rfl, h.oeq, h.own, h.bods, ⟨_, es, h.bk, h.row, h.eq, H8.out, Hok.out, H6.out, fun k e => Nat.lt_of_lt_of_le (H7.out k e) h.kp.size⟩, h.kp⟩
      by_cases hpN : p < N
      · have m1 : (p : Int) < (N : Int) := by omega
        have m2 : ¬ (p : Int) < (cm : Int) + (wi : Int) := by omega
        have m1d : decide ((p : Int) < (N : Int)) = true := decide_eq_true m1
        have m2d : decide ((p : Int) < (cm : Int) + (wi : Int)) = false := decide_eq_false m2
        clear hI HI HE h hpi hiE
        go_wp2_with fail
        go_quiet (fail)
        go_wp2
        go_ret
        exact FIN.out _
      · have m1 : ¬ (p : Int) < (N : Int) := by omega
        have m1d : decide ((p : Int) < (N : Int)) = false := decide_eq_false m1
        clear hI HI HE h hpi hiE
        go_wp2_with fail
        go_quiet (fail)
        go_wp2
        go_ret
        exact FIN.out _
end Go.Proofs.Ytfdlhefbbhblnaa
