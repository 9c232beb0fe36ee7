/- The program's sender: Tick. -/
import Derived.Test.YtfdlhefbbhblnaaSesW
import Derived.Deep.DeepCutAuto
namespace Go.Proofs.Ytfdlhefbbhblnaa
open Go.RowKit Go.Maps

def TickR (s : Sd) (w : World) (F : Nat → Prop) (g : Nat) (e : Ending) (w' : World) : Prop :=
  ∃ v es, e = .returned v ∧ es.map (·.1) = s.out ∧ SgRow w' w.heap.size v es ∧ PS w' F g s.tickS ∧ Kp F w w'

theorem Try.infoSeg : (Try.prog.info? 36).map (fun i => (i.zero, i.size, i.bytes)) = some (some (.agg #[.int .u64 0, .int .u64 0, .bool false, .slice none 0 0]), 4, 48) := by kernel_rfl
def bSgs (parts : Array (Nat × Value)) : Sem Value := Instr.buildSlice 45 1 parts
theorem bSgs_eq (parts : Array (Nat × Value)) : Instr.buildSlice 45 1 parts = bSgs parts := rfl
theorem run_bSgs (a b c d : Value) (W : World) : (bSgs #[(0, .agg #[a, b, c, d])]).run Try.prog W = .ok (.slice (some ⟨W.heap.size, 0, none⟩) 1 1) (W.alloc (.cells #[a, b, c, d] 36)) := by
  obtain ⟨iw, hiw, hzw, hsw, hbw⟩ := info_parts Try.infoSeg
  exact run_buildSlice_one (P := Try.prog) Try.underlying45 hiw hzw hsw (by rfl) (by omega) (by omega) (.agg #[a, b, c, d]) rfl W
attribute [local go_sem ↓] bSgs_eq
attribute [local go_sem] run_bSgs

set_option maxRecDepth 100000 in
set_option maxHeartbeats 400000 in
theorem sTick_nil (w : World) : Calls Try.prog 15 #[.pointer none] w fun e w' => e = .returned (.slice none 0 0) ∧ w = w' := by
  go_enter Try.func15, Try.ntmps15
  go_wp2
  go_ret
  exact ⟨rfl, rfl⟩

set_option maxRecDepth 100000 in
set_option maxHeartbeats 8000000 in
theorem sTick_any {w : World} {F : Nat → Prop} {g : Nat} {s : Sd} (h : PS w F g s) (ht : s.tick + 1 < 4611686018427387904) : Calls Try.prog 15 #[.pointer (some ⟨g, 0, none⟩)] w (TickR s w F g) := by
  obtain ⟨v, es, h1, h3, h4, h5, h6, h7⟩ := h
  obtain ⟨A, c, rfl, hc1, hc2⟩ := h3.shape
  have hel : es.length = s.queue.length := by rw [← h4]; simp
  rw [hel] at h1 h3 hc1
  have c1 : w.cell? ⟨g, 1, none⟩ = some (.int .i64 (s.window : Int)) := h1.cell 1
  have c3 : w.cell? ⟨g, 3, none⟩ = some (.int .i64 (s.tick : Int)) := h1.cell 3
  have c5 : w.cell? ⟨g, 5, none⟩ = some (.slice A s.queue.length c) := h1.cell 5
  have f3 := h1.frozen 3
  obtain ⟨T, hT⟩ : ∃ T, T = s.tick + 1 := ⟨_, rfl⟩
  have e1 : IntKind.i64.wrap ((s.tick : Int) + 1) = (T : Int) := by rw [IntKind.wrap_i64]; omega
  obtain ⟨W1, hW1⟩ : ∃ W1, W1 = w.setCell ⟨g, 3, none⟩ (.int .i64 (T : Int)) := ⟨_, rfl⟩
  have hb3 := h1.set_ 3 (.int .i64 (T : Int))
  rw [← hW1] at hb3
  have d1 : W1.cell? ⟨g, 1, none⟩ = some (.int .i64 (s.window : Int)) := hb3.cell 1
  have d5 : W1.cell? ⟨g, 5, none⟩ = some (.slice A s.queue.length c) := hb3.cell 5
  have HW1 := Lib.hid hW1
  have hk0 : Kp (fun j => j = g) w (w.setCell ⟨g, 3, none⟩ (.int .i64 (T : Int))) := Kp.set_ (F := fun j => j = g) (p := ⟨g, 3, none⟩) rfl _
  have HI : Hid (∃ es gs, TickI w (w.setCell ⟨g, 3, none⟩ (.int .i64 (T : Int))) F g s (.slice A s.queue.length c) 0 (.slice none 0 0) es gs) :=
    Lib.hid ⟨es, [], (by rw [hT]; exact h1.set_ 3 _), ⟨own_kp h3.own hk0 fun k e => h3.off h1 k (.inl e), fun x hx => own_kp (h3.each x hx) hk0 fun k e => h3.off h1 k (.inr ⟨x, hx, e⟩), h3.foot, h3.bods⟩, by simp [h4], SgRow.nil _ _, rfl, hk0.mono fun k e => by rw [e]; exact h6⟩
  rw [← hW1] at HI
  clear hW1 hb3 hk0
  have hok := h5.tickS ht
  have hbods := h5.bods
  have Hcm := Lib.hid h5.came
  have hwin := h5.win
  have hlen := h5.len
  have HT := Lib.hid hT
  clear h1 h3 h4 h5 hel hT
  go_enter Try.func15, Try.ntmps15
  go_upto_region 5 with (fail)
  rw [← HW1.out]
  have hkm : (s.k : Int) = if s.queue.length < s.window then (s.queue.length : Int) else (s.window : Int) := by unfold Sd.k; split <;> omega
  go_cut [24, 25] (fun m i w' => m = .int .i64 (s.k : Int) ∧ i = .int .i64 0 ∧ Below W1.heap.size W1 w')
  case first =>
    go_quiet (fail)
    go_wp2_with fail
    all_goals
      go_meet
      exact ⟨by first | rw [hkm, if_pos h] | rw [hkm, if_neg h], rfl, bel_drewN (Below.refl _ _) _⟩
  case rest =>
    obtain ⟨rfl, rfl, hbc⟩ := hcut
    obtain ⟨es0, gs0, hI0⟩ := HI.out
    have HI1 : Hid (TickI w wc F g s (.slice A s.queue.length c) 0 (.slice none 0 0) es0 gs0) := Lib.hid ⟨hI0.bk.below hbc hI0.bk.lt, hI0.row.kp (G := fun _ => False) (Kp.of_below hbc) (fun _ _ h => h), hI0.eq, hI0.out.below hbc, hI0.oeq, hI0.kp.trans (Kp.of_below hbc)⟩
    have hkl : s.k ≤ 64 ∧ s.k ≤ s.queue.length := by unfold Sd.k; omega
    have Hok := Lib.hid hok
    have Hbods := Lib.hid hbods
    have H6 := Lib.hid h6
    have H7 := Lib.hid h7
    clear hI0 hbc HI c1 c3 c5 f3 d1 d5 hkm hok hbods h6 h7
    obtain ⟨K, hK⟩ : ∃ K, K = s.k := ⟨_, rfl⟩
    obtain ⟨N, hN⟩ : ∃ N, N = s.queue.length := ⟨_, rfl⟩
    rw [← hN] at HI1 hkl hc1 hlen
    rw [← hK] at hkl ⊢
    have HK := Lib.hid hK
    have HNq := Lib.hid hN
    clear hK hN
    go_wp2_with fail
    go_loopg [25, 3] K (fun q iv lv wr => ∃ (i : Nat) (es : List Pce) (gs : List Sge), iv = .int .i64 i ∧ i + q = K ∧ Hid (TickI w wr F g s (.slice A N c) i lv es gs))
    case atStart => exact ⟨0, es0, gs0, rfl, by omega, HI1⟩
    case round =>
      obtain ⟨i, es, gs, rfl, hik, hI⟩ := hrel
      by_cases hiK : i < K
      · have hiN : i < N := by omega
        have hNq := HNq.out
        have hiQ : i < s.queue.length := by rw [← hNq]; exact hiN
        have h := hI.out
        have hrow := h.row
        have hil : i < es.length := by rw [h.len]; exact hiQ
        obtain ⟨R, c', hv, hx1, hx2, cb0, cs0⟩ := hrow.cell i hil
        injection hv with hv hv1 hv2
        subst hv
        clear hx1 hx2 hv1 hv2
        have hat : es[i]'hil = (s.queue[i], (es[i]'hil).2) := h.at_ hiQ
        have hqb := Hbods.out _ (List.getElem_mem hiQ)
        obtain ⟨q, hqe⟩ : ∃ q, s.queue[i] = q := ⟨_, rfl⟩
        rw [hqe] at hat hqb
        have hsh := own_shape (hrow.each _ (List.getElem_mem hil))
        obtain ⟨Ab, cb, hbe0, hbr⟩ := hsh
        have hbe : (es[i]'hil).2 = .slice Ab q.1.length cb := by rw [hbe0, hat]
        clear hbe0 hbr
        have m0 : (i : Int) < (K : Int) := by omega
        have m1 : (i : Int) < (N : Int) := by omega
        have c5 : wr.cell? ⟨g, 5, none⟩ = some (.slice (some ⟨R, 0, none⟩) N c) := h.bk.cell 5
        have c3 : wr.cell? ⟨g, 3, none⟩ = some (.int .i64 (T : Int)) := by have := h.bk.cell 3; rw [HT.out]; exact this
        have c2 : wr.cell? ⟨g, 2, none⟩ = some (.int .i64 (s.span : Int)) := h.bk.cell 2
        have cs : wr.cell? ⟨R, i * 2 + 1, none⟩ = some (.int .i64 (q.2 : Int)) := by rw [cs0, hat]
        have hown := hrow.own
        rw [show es.length = N by rw [h.len, hNq]] at hown
        have hfr : wr.frozen? ⟨R, i * 2 + 1, none⟩ = false := by
          have := own_there hown (i * 2 + 1) 1 (by omega) 0 (by omega)
          exact this.2
        have hRF : F R := hrow.foot R rfl
        have hRg : R ≠ g := hrow.off h.bk R (.inl rfl)
        obtain ⟨D, hD⟩ : ∃ D, D = T - q.2 := ⟨_, rfl⟩
        obtain ⟨S1, hS1⟩ : ∃ S1, S1 = s.came + i + 1 := ⟨_, rfl⟩
        obtain ⟨C1, hC1⟩ : ∃ C1, C1 = s.came + 1 := ⟨_, rfl⟩
        have hT := HT.out
        have hcm := Hcm.out
        have e2 : IntKind.i64.wrap ((T : Int) - (q.2 : Int)) = (D : Int) := by rw [IntKind.wrap_i64]; omega
        have e3 : IntKind.u64.wrap ((s.came : Int) + 1) = (C1 : Int) := by rw [IntKind.wrap_u64]; omega
        have e4 : IntKind.u64.wrap (i : Int) = (i : Int) := by rw [IntKind.wrap_u64]; omega
        have e5 : IntKind.u64.wrap ((C1 : Int) + (i : Int)) = (S1 : Int) := by rw [IntKind.wrap_u64]; omega
        have HS1 := Lib.hid hS1
        have hdd : dueQ s.span T q = !(decide (0 < q.2) && decide (D < s.span)) := by unfold dueQ; rw [hD]
        clear hS1 hC1 hT hcm hown cb0 cs0 hrow
        by_cases hp : 0 < q.2
        · have mp : (0 : Int) < (q.2 : Int) := by omega
          by_cases hds : D < s.span
          · have md : (D : Int) < (s.span : Int) := by omega
            have hnd : dueQ s.span (s.tick + 1) s.queue[i] = false := by rw [hqe, ← HT.out, hdd, decide_eq_true hp, decide_eq_true hds]; rfl
            have HN : Hid (∀ W, Below wr.heap.size wr W → TickI w W F g s (.slice (some ⟨R, 0, none⟩) N c) (i + 1) u3 es gs) := Lib.hid fun W hb => h.skip hiQ hnd hb
            clear h hnd hdd hat hbe hqe hI hD hil
            go_wp2_with fail
            go_quiet (fail)
            go_wp2
            go_roundg (gk - 1)
            case measure => omega
            case rel => exact ⟨i + 1, es, gs, by go_num, by omega, Lib.hid (HN.out _ (bel_drewN (Below.refl _ _) _))⟩
          · have md : ¬ (D : Int) < (s.span : Int) := by omega
            have hdue : dueQ s.span T q = true := by rw [hdd, decide_eq_true hp, decide_eq_false hds]; rfl
            clear hdd hD
            go_wp2_with fail
            go_quiet (fail)
            have h2 := h.below (bel_drewN (Below.refl wr.heap.size wr) nq)
            clear h hI c5 c3 c2 cs hfr
            generalize wr.drewN nq = wr2 at h2 ⊢
            have h := h2
            clear h2
            have hrow := h.row
            have c3 : wr2.cell? ⟨g, 3, none⟩ = some (.int .i64 (T : Int)) := by have := h.bk.cell 3; rw [HT.out]; exact this
            have hown := hrow.own
            rw [show es.length = N by rw [h.len, hNq]] at hown
            have hfr : wr2.frozen? ⟨R, i * 2 + 1, none⟩ = false := (own_there hown (i * 2 + 1) 1 (by omega) 0 (by omega)).2
            have cs : wr2.cell? ⟨R, i * 2 + 1, none⟩ = some (.int .i64 (q.2 : Int)) := by
              obtain ⟨R', c', e1, _, _, _, e2⟩ := hrow.cell i hil
              injection e1 with e1
              injection e1 with e1
              injection e1 with e1
              subst e1
              rw [e2, hat]
            clear hown hrow
            have hbk := h.bk
            have x0 : wr2.cell? ⟨g, 0, none⟩ = some (.int .u64 (s.life : Int)) := hbk.cell 0
            have x4 : wr2.cell? ⟨g, 4, none⟩ = some (.int .u64 (s.came : Int)) := hbk.cell 4
            obtain ⟨w0, hw0⟩ : ∃ w0, w0 = wr2.setCell ⟨R, i * 2 + 1, none⟩ (.int .i64 (T : Int)) := ⟨_, rfl⟩
            have hk0 : Kp (fun j => j = R) wr2 w0 := by rw [hw0]; exact Kp.set_ (F := fun j => j = R) (p := ⟨R, i * 2 + 1, none⟩) rfl _
            have hbk0 := hbk.kp hk0 (fun e => hRg e.symm)
            have y0 : w0.cell? ⟨g, 0, none⟩ = some (.int .u64 (s.life : Int)) := hbk0.cell 0
            have y4 : w0.cell? ⟨g, 4, none⟩ = some (.int .u64 (s.came : Int)) := hbk0.cell 4
            have hrow0 : PcRow w0 F (.slice (some ⟨R, 0, none⟩) N c) (es.set i ((es[i].1.1, T), es[i].2)) := by rw [hw0]; exact h.row.sent (by rw [h.len]; exact hNq) (by rw [h.len, ← hNq]; exact hiN) T
            have hce : es[i].2 = .slice Ab q.1.length cb := hbe
            have yb : w0.cell? ⟨R, i * 2, none⟩ = some (.slice Ab q.1.length cb) := by
              obtain ⟨R', c', e1, _, _, e2, _⟩ := hrow0.cell i (by simp; omega)
              injection e1 with e1
              injection e1 with e1
              injection e1 with e1
              subst e1
              rw [e2]
              simp [hce]
            have hob : w0.ownsRow 0 5 1 (.slice Ab q.1.length cb) q.1.length (u8s q.1) := by
              have hm : ((es[i].1.1, T), es[i].2) ∈ es.set i ((es[i].1.1, T), es[i].2) := List.mem_set (by omega) _
              have := hrow0.each _ hm
              have e1 : es[i].1.1 = q.1 := by rw [hat]
              simp only [e1, hce] at this
              exact this
            have HC : Hid (∀ W, Below w0.heap.size w0 W → Calls Try.prog 35 #[.slice Ab q.1.length cb] W fun e w' => ∃ Av cv, e = .returned (.slice Av q.1.length cv) ∧ w'.ownsRow W.heap.size 5 1 (.slice Av q.1.length cv) q.1.length (u8s q.1) ∧ Below W.heap.size W w') := by
              refine Lib.hid fun W hb => (cloneB_any Ab q.1.length cb W.heap.size q.1 W (by have := hqb.1; omega) (Nat.le_refl _) (Rd.of_own (own_below hob hb fun k e => (hob.lt k e).2))).mono ?_
              rintro e w' ⟨v, rfl, ho, hb2⟩
              obtain ⟨Av, cv, rfl, _⟩ := own_shape ho
              exact ⟨Av, cv, rfl, ho, hb2⟩
            have HG : Hid (∀ w1 Av cv, Below w0.heap.size w0 w1 → w1.ownsRow w0.heap.size 5 1 (.slice Av q.1.length cv) q.1.length (u8s q.1) → w1.cell? ⟨g, 0, none⟩ = some (.int .u64 (s.life : Int)) ∧ w1.cell? ⟨g, 4, none⟩ = some (.int .u64 (s.came : Int)) ∧ w1.cell? ⟨R, i * 2, none⟩ = some (.slice Ab q.1.length cb) ∧ Hid (w1.ownsRow w0.heap.size 5 1 (.slice Av q.1.length cv) q.1.length (u8s q.1)) ∧ Hid (Below w0.heap.size w0 w1) ∧
                Hid ((w1.alloc (.cells #[.int .u64 (s.life : Int), .int .u64 (S1 : Int), .bool false, .slice Av q.1.length cv] 36)).ownsRow w.heap.size 36 4 u3 gs.length (sgC gs)) ∧ Hid (∀ u ∈ [Value.int .u64 (s.life : Int), .int .u64 (S1 : Int), .bool false, .slice Av q.1.length cv], u.oneCell' = true) ∧ Hid (w.heap.size ≤ (w1.alloc (.cells #[.int .u64 (s.life : Int), .int .u64 (S1 : Int), .bool false, .slice Av q.1.length cv] 36)).heap.size) ∧
                Hid (∀ w3 lv', App (w1.alloc (.cells #[.int .u64 (s.life : Int), .int .u64 (S1 : Int), .bool false, .slice Av q.1.length cv] 36)) w3 w.heap.size 36 4 u3 lv' gs.length 1 (sgC gs) [.int .u64 (s.life : Int), .int .u64 (S1 : Int), .bool false, .slice Av q.1.length cv] → (∃ es' gs', TickI w w3 F g s (.slice (some ⟨R, 0, none⟩) N c) (i + 1) lv' es' gs') ∧ w3.cell? ⟨g, 0, none⟩ = some (.int .u64 (s.life : Int)) ∧ w3.cell? ⟨g, 4, none⟩ = some (.int .u64 (s.came : Int)) ∧ w3.cell? ⟨R, i * 2, none⟩ = some (.slice Ab q.1.length cb))) := by
              refine Lib.hid fun w1 Av cv hb ho => ?_
              have hout0 := h.out.kp hk0 (fun k e => by rw [e]; exact H7.out R hRF)
              have hb2 : Below w1.heap.size w1 (w1.alloc (.cells #[.int .u64 (s.life : Int), .int .u64 (S1 : Int), .bool false, .slice Av q.1.length cv] 36)) := (Below.refl _ _).alloc (Nat.le_refl _) _
              have hz1 := hk0.size
              have hz2 := hb.size
              have hz3 := hb2.size
              have hz4 := h.kp.size
              have hRl := World.block_lt_of_cell? w0 _ yb
              have hc : ∀ (a : Nat) (k : Nat) (u : Value), a < w0.heap.size → w0.cell? ⟨a, k, none⟩ = some u → w1.cell? ⟨a, k, none⟩ = some u := fun a k u ha hu => (hb.cell (p := ⟨a, k, none⟩) ha).trans hu
              have hr2 := own_below hout0.own (below_then hb hb2) fun k e => (hout0.own.lt k e).2
              refine ⟨hc g 0 _ hbk0.lt y0, hc g 4 _ hbk0.lt y4, hc R _ _ hRl yb, Lib.hid ho, Lib.hid hb, Lib.hid hr2, Lib.hid ?_, Lib.hid (by omega), Lib.hid fun w3 lv' happ => ?_⟩
              · intro u hu
                simp only [List.mem_cons, List.not_mem_nil, or_false] at hu
                rcases hu with rfl | rfl | rfl | rfl <;> rfl
              · have hgo := TickI.go (lv' := lv') (bv := .slice Av q.1.length cv) (w1 := w1) (w2 := w1.alloc (.cells #[.int .u64 (s.life : Int), .int .u64 (S1 : Int), .bool false, .slice Av q.1.length cv] 36)) (w3 := w3) h hNq hiQ (by rw [hqe, ← HT.out]; exact hdue) H7.out (w0 := w0) (by rw [← HT.out]; exact hw0) hb (by rw [hqe]; exact ho) hb2 (by rw [hqe, ← HS1.out]; exact happ)
                obtain ⟨es', hI⟩ := hgo
                refine ⟨⟨es', _, hI⟩, hI.bk.cell 0, hI.bk.cell 4, ?_⟩
                have hk3 : Kp (fun k => u3.ownBlock = some k) (w1.alloc (.cells #[.int .u64 (s.life : Int), .int .u64 (S1 : Int), .bool false, .slice Av q.1.length cv] 36)) w3 := Kp.of_row happ.grow (fun g e => e)
                refine cell_kp (((below_then hb hb2).cell (p := ⟨R, i * 2, none⟩) hRl).trans yb) hk3 fun e => ?_
                have h1 := (hout0.own.lt R e).1
                have h2 := H7.out R hRF
                omega
            obtain ⟨iw, hiw, hzw, hsw, hbw⟩ := info_parts Try.infoSeg
            have Hiw := Lib.hid hiw
            have Hzw := Lib.hid hzw
            have Hsw := Lib.hid hsw
            have Hbw := Lib.hid hbw
            have Hw0 := Lib.hid hw0
            have hgl : gs.length ≤ 64 := by
              have h1 := congrArg List.length h.oeq
              have h2 := outQ_len s.life s.span (s.tick + 1) (s.queue.take i) s.came
              simp only [List.length_map, List.length_take] at h1 h2
              have h3 := hkl
              omega
            clear h hbk hbk0 hk0 hrow0 hob hw0 hiw hzw hsw hbw hat hce hbe hqe x0 x4
            go_wp2_with fail
            rw [← Hw0.out]
            go_region_held3 (fun w' => w'.cell? ⟨g, 0, none⟩ = some (.int .u64 (s.life : Int)) ∧ w'.cell? ⟨g, 4, none⟩ = some (.int .u64 (s.came : Int)) ∧ w'.cell? ⟨R, i * 2, none⟩ = some (.slice Ab q.1.length cb)) (first | exact ⟨y0, y4, yb⟩ | exact ⟨z0, z4, zb⟩ | exact ⟨t0, t4, tb⟩ | go_keep)
              (first
                | (go_at_call 35; (refine (HC.out _ (by (repeat' (first | assumption | exact Below.refl _ _ | apply Below.drew)))).mono ?_); rintro e w1 ⟨Av, cv, rfl, ho1, hb1⟩; (obtain ⟨z0, z4, zb, ZO, ZB, ZR, ZC, ZS, ZF⟩ := HG.out w1 Av cv (below_then ((Below.refl _ _).drew) hb1) (own_mono ho1 (by simp only [World.drew]; exact Nat.le_refl _))); clear ho1 hb1)
                | ((refine step_append_app _ rfl _ _ 45 (by rfl) w.heap.size 36 iw _ 4 48 Try.underlying45 Hiw.out Hzw.out Hsw.out Hbw.out rfl u3 gs.length _ (by rfl) ZR.out (some ⟨w1.heap.size, 0, none⟩) 1 1 [.int .u64 (s.life : Int), .int .u64 (S1 : Int), .bool false, .slice Av q.1.length cv] (by rfl) (by rfl) (by intro e; cases e) (new_cells _ _ _ rfl) ZC.out (by unfold maxLen; omega) (by omega) ZS.out ?_); intro lv' w3 happ; (obtain ⟨hn3, t0, t4, tb⟩ := ZF.out w3 lv' happ); (have Hn3 := Lib.hid hn3); clear hn3 happ))
            all_goals
              clear y0 y4 yb z0 z4 zb t0 t4 tb
              go_wp2
              go_roundg (gk - 1)
              case measure => omega
              case rel =>
                obtain ⟨es', gs', hn⟩ := Hn3.out
                exact ⟨i + 1, es', gs', by go_num, by omega, Lib.hid hn⟩
        · have mp : ¬ (0 : Int) < (q.2 : Int) := by omega
          have hdue : dueQ s.span T q = true := by rw [hdd, decide_eq_false hp]; rfl
          clear hdd hD
          go_wp2_with fail
          go_quiet (fail)
          have h2 := h.below (bel_drewN (Below.refl wr.heap.size wr) nq)
          clear h hI c5 c3 c2 cs hfr
          generalize wr.drewN nq = wr2 at h2 ⊢
          have h := h2
          clear h2
          have hrow := h.row
          have c3 : wr2.cell? ⟨g, 3, none⟩ = some (.int .i64 (T : Int)) := by have := h.bk.cell 3; rw [HT.out]; exact this
          have hown := hrow.own
          rw [show es.length = N by rw [h.len, hNq]] at hown
          have hfr : wr2.frozen? ⟨R, i * 2 + 1, none⟩ = false := (own_there hown (i * 2 + 1) 1 (by omega) 0 (by omega)).2
          have cs : wr2.cell? ⟨R, i * 2 + 1, none⟩ = some (.int .i64 (q.2 : Int)) := by
            obtain ⟨R', c', e1, _, _, _, e2⟩ := hrow.cell i hil
            injection e1 with e1
            injection e1 with e1
            injection e1 with e1
            subst e1
            rw [e2, hat]
          clear hown hrow
          have hbk := h.bk
          have x0 : wr2.cell? ⟨g, 0, none⟩ = some (.int .u64 (s.life : Int)) := hbk.cell 0
          have x4 : wr2.cell? ⟨g, 4, none⟩ = some (.int .u64 (s.came : Int)) := hbk.cell 4
          obtain ⟨w0, hw0⟩ : ∃ w0, w0 = wr2.setCell ⟨R, i * 2 + 1, none⟩ (.int .i64 (T : Int)) := ⟨_, rfl⟩
          have hk0 : Kp (fun j => j = R) wr2 w0 := by rw [hw0]; exact Kp.set_ (F := fun j => j = R) (p := ⟨R, i * 2 + 1, none⟩) rfl _
          have hbk0 := hbk.kp hk0 (fun e => hRg e.symm)
          have y0 : w0.cell? ⟨g, 0, none⟩ = some (.int .u64 (s.life : Int)) := hbk0.cell 0
          have y4 : w0.cell? ⟨g, 4, none⟩ = some (.int .u64 (s.came : Int)) := hbk0.cell 4
          have hrow0 : PcRow w0 F (.slice (some ⟨R, 0, none⟩) N c) (es.set i ((es[i].1.1, T), es[i].2)) := by rw [hw0]; exact h.row.sent (by rw [h.len]; exact hNq) (by rw [h.len, ← hNq]; exact hiN) T
          have hce : es[i].2 = .slice Ab q.1.length cb := hbe
          have yb : w0.cell? ⟨R, i * 2, none⟩ = some (.slice Ab q.1.length cb) := by
            obtain ⟨R', c', e1, _, _, e2, _⟩ := hrow0.cell i (by simp; omega)
            injection e1 with e1
            injection e1 with e1
            injection e1 with e1
            subst e1
            rw [e2]
            simp [hce]
          have hob : w0.ownsRow 0 5 1 (.slice Ab q.1.length cb) q.1.length (u8s q.1) := by
            have hm : ((es[i].1.1, T), es[i].2) ∈ es.set i ((es[i].1.1, T), es[i].2) := List.mem_set (by omega) _
            have := hrow0.each _ hm
            have e1 : es[i].1.1 = q.1 := by rw [hat]
            simp only [e1, hce] at this
            exact this
          have HC : Hid (∀ W, Below w0.heap.size w0 W → Calls Try.prog 35 #[.slice Ab q.1.length cb] W fun e w' => ∃ Av cv, e = .returned (.slice Av q.1.length cv) ∧ w'.ownsRow W.heap.size 5 1 (.slice Av q.1.length cv) q.1.length (u8s q.1) ∧ Below W.heap.size W w') := by
            refine Lib.hid fun W hb => (cloneB_any Ab q.1.length cb W.heap.size q.1 W (by have := hqb.1; omega) (Nat.le_refl _) (Rd.of_own (own_below hob hb fun k e => (hob.lt k e).2))).mono ?_
            rintro e w' ⟨v, rfl, ho, hb2⟩
            obtain ⟨Av, cv, rfl, _⟩ := own_shape ho
            exact ⟨Av, cv, rfl, ho, hb2⟩
          have HG : Hid (∀ w1 Av cv, Below w0.heap.size w0 w1 → w1.ownsRow w0.heap.size 5 1 (.slice Av q.1.length cv) q.1.length (u8s q.1) → w1.cell? ⟨g, 0, none⟩ = some (.int .u64 (s.life : Int)) ∧ w1.cell? ⟨g, 4, none⟩ = some (.int .u64 (s.came : Int)) ∧ w1.cell? ⟨R, i * 2, none⟩ = some (.slice Ab q.1.length cb) ∧ Hid (w1.ownsRow w0.heap.size 5 1 (.slice Av q.1.length cv) q.1.length (u8s q.1)) ∧ Hid (Below w0.heap.size w0 w1) ∧
              Hid ((w1.alloc (.cells #[.int .u64 (s.life : Int), .int .u64 (S1 : Int), .bool false, .slice Av q.1.length cv] 36)).ownsRow w.heap.size 36 4 u3 gs.length (sgC gs)) ∧ Hid (∀ u ∈ [Value.int .u64 (s.life : Int), .int .u64 (S1 : Int), .bool false, .slice Av q.1.length cv], u.oneCell' = true) ∧ Hid (w.heap.size ≤ (w1.alloc (.cells #[.int .u64 (s.life : Int), .int .u64 (S1 : Int), .bool false, .slice Av q.1.length cv] 36)).heap.size) ∧
              Hid (∀ w3 lv', App (w1.alloc (.cells #[.int .u64 (s.life : Int), .int .u64 (S1 : Int), .bool false, .slice Av q.1.length cv] 36)) w3 w.heap.size 36 4 u3 lv' gs.length 1 (sgC gs) [.int .u64 (s.life : Int), .int .u64 (S1 : Int), .bool false, .slice Av q.1.length cv] → (∃ es' gs', TickI w w3 F g s (.slice (some ⟨R, 0, none⟩) N c) (i + 1) lv' es' gs') ∧ w3.cell? ⟨g, 0, none⟩ = some (.int .u64 (s.life : Int)) ∧ w3.cell? ⟨g, 4, none⟩ = some (.int .u64 (s.came : Int)) ∧ w3.cell? ⟨R, i * 2, none⟩ = some (.slice Ab q.1.length cb))) := by
            refine Lib.hid fun w1 Av cv hb ho => ?_
            have hout0 := h.out.kp hk0 (fun k e => by rw [e]; exact H7.out R hRF)
            have hb2 : Below w1.heap.size w1 (w1.alloc (.cells #[.int .u64 (s.life : Int), .int .u64 (S1 : Int), .bool false, .slice Av q.1.length cv] 36)) := (Below.refl _ _).alloc (Nat.le_refl _) _
            have hz1 := hk0.size
            have hz2 := hb.size
            have hz3 := hb2.size
            have hz4 := h.kp.size
            have hRl := World.block_lt_of_cell? w0 _ yb
            have hc : ∀ (a : Nat) (k : Nat) (u : Value), a < w0.heap.size → w0.cell? ⟨a, k, none⟩ = some u → w1.cell? ⟨a, k, none⟩ = some u := fun a k u ha hu => (hb.cell (p := ⟨a, k, none⟩) ha).trans hu
            have hr2 := own_below hout0.own (below_then hb hb2) fun k e => (hout0.own.lt k e).2
            refine ⟨hc g 0 _ hbk0.lt y0, hc g 4 _ hbk0.lt y4, hc R _ _ hRl yb, Lib.hid ho, Lib.hid hb, Lib.hid hr2, Lib.hid ?_, Lib.hid (by omega), Lib.hid fun w3 lv' happ => ?_⟩
            · intro u hu
              simp only [List.mem_cons, List.not_mem_nil, or_false] at hu
              rcases hu with rfl | rfl | rfl | rfl <;> rfl
            · have hgo := TickI.go (lv' := lv') (bv := .slice Av q.1.length cv) (w1 := w1) (w2 := w1.alloc (.cells #[.int .u64 (s.life : Int), .int .u64 (S1 : Int), .bool false, .slice Av q.1.length cv] 36)) (w3 := w3) h hNq hiQ (by rw [hqe, ← HT.out]; exact hdue) H7.out (w0 := w0) (by rw [← HT.out]; exact hw0) hb (by rw [hqe]; exact ho) hb2 (by rw [hqe, ← HS1.out]; exact happ)
              obtain ⟨es', hI⟩ := hgo
              refine ⟨⟨es', _, hI⟩, hI.bk.cell 0, hI.bk.cell 4, ?_⟩
              have hk3 : Kp (fun k => u3.ownBlock = some k) (w1.alloc (.cells #[.int .u64 (s.life : Int), .int .u64 (S1 : Int), .bool false, .slice Av q.1.length cv] 36)) w3 := Kp.of_row happ.grow (fun g e => e)
              refine cell_kp (((below_then hb hb2).cell (p := ⟨R, i * 2, none⟩) hRl).trans yb) hk3 fun e => ?_
              have h1 := (hout0.own.lt R e).1
              have h2 := H7.out R hRF
              omega
          obtain ⟨iw, hiw, hzw, hsw, hbw⟩ := info_parts Try.infoSeg
          have Hiw := Lib.hid hiw
          have Hzw := Lib.hid hzw
          have Hsw := Lib.hid hsw
          have Hbw := Lib.hid hbw
          have Hw0 := Lib.hid hw0
          have hgl : gs.length ≤ 64 := by
            have h1 := congrArg List.length h.oeq
            have h2 := outQ_len s.life s.span (s.tick + 1) (s.queue.take i) s.came
            simp only [List.length_map, List.length_take] at h1 h2
            have h3 := hkl
            omega
          clear h hbk hbk0 hk0 hrow0 hob hw0 hiw hzw hsw hbw hat hce hbe hqe x0 x4
          go_wp2_with fail
          rw [← Hw0.out]
          go_region_held3 (fun w' => w'.cell? ⟨g, 0, none⟩ = some (.int .u64 (s.life : Int)) ∧ w'.cell? ⟨g, 4, none⟩ = some (.int .u64 (s.came : Int)) ∧ w'.cell? ⟨R, i * 2, none⟩ = some (.slice Ab q.1.length cb)) (first | exact ⟨y0, y4, yb⟩ | exact ⟨z0, z4, zb⟩ | exact ⟨t0, t4, tb⟩ | go_keep)
            (first
              | (go_at_call 35; (refine (HC.out _ (by (repeat' (first | assumption | exact Below.refl _ _ | apply Below.drew)))).mono ?_); rintro e w1 ⟨Av, cv, rfl, ho1, hb1⟩; (obtain ⟨z0, z4, zb, ZO, ZB, ZR, ZC, ZS, ZF⟩ := HG.out w1 Av cv (below_then ((Below.refl _ _).drew) hb1) (own_mono ho1 (by simp only [World.drew]; exact Nat.le_refl _))); clear ho1 hb1)
              | ((refine step_append_app _ rfl _ _ 45 (by rfl) w.heap.size 36 iw _ 4 48 Try.underlying45 Hiw.out Hzw.out Hsw.out Hbw.out rfl u3 gs.length _ (by rfl) ZR.out (some ⟨w1.heap.size, 0, none⟩) 1 1 [.int .u64 (s.life : Int), .int .u64 (S1 : Int), .bool false, .slice Av q.1.length cv] (by rfl) (by rfl) (by intro e; cases e) (new_cells _ _ _ rfl) ZC.out (by unfold maxLen; omega) (by omega) ZS.out ?_); intro lv' w3 happ; (obtain ⟨hn3, t0, t4, tb⟩ := ZF.out w3 lv' happ); (have Hn3 := Lib.hid hn3); clear hn3 happ))
          all_goals
            clear y0 y4 yb z0 z4 zb t0 t4 tb
            go_wp2
            go_roundg (gk - 1)
            case measure => omega
            case rel =>
              obtain ⟨es', gs', hn⟩ := Hn3.out
              exact ⟨i + 1, es', gs', by go_num, by omega, Lib.hid hn⟩
      · have hiE : i = K := by omega
        subst hiE
        have HE : Hid (∃ es gs, TickI w wr F g s (.slice A N c) s.k u3 es gs) := Lib.hid ⟨es, gs, by rw [← HK.out]; exact hI.out⟩
        clear hI HI1
        go_wp2
        go_ret
        obtain ⟨es, gs, h⟩ := HE.out
        have hkp := h.kp
        refine ⟨_, gs, rfl, h.oeq, h.out, ⟨_, es, h.bk, h.row, h.eq, Hok.out, H6.out, fun k e => Nat.lt_of_lt_of_le (H7.out k e) hkp.size⟩, hkp⟩
end Go.Proofs.Ytfdlhefbbhblnaa
