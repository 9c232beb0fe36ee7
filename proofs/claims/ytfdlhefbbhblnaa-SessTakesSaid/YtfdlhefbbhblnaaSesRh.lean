/- The document's sender: Hear. -/
import Derived.Test.YtfdlhefbbhblnaaSesRp
import Derived.Deep.DeepCutAuto
namespace Go.Proofs.Ytfdlhefbbhblnaa
open Go.RowKit Go.Maps

set_option maxRecDepth 100000 in
set_option maxHeartbeats 1000000 in
theorem dright_any (s : Sg) (A : Option Addr) (n c : Nat) (w : World) (hn : s.body.length = n) :
    Calls Try.prog 39 #[sgV s (.slice A n c)] w fun e w' => e = .returned (.bool s.right) ∧ Below w.heap.size w w' := by
  obtain ⟨life, seq, ack, body⟩ := s
  unfold sgV Sg.right
  have hn : body.length = n := hn
  dsimp only
  have HB : Hid (Below w.heap.size w (w.alloc (.cells #[.int .u64 (life : Int), .int .u64 (seq : Int), .bool ack, .slice A n c] 36))) := Lib.hid ((Below.refl _ _).alloc (Nat.le_refl _) _)
  cases ack with
  | true =>
    go_enter Try.func39, Try.ntmps39
    go_wp2
    go_ret
    refine ⟨?_, HB.out⟩
    show Ending.returned (Value.bool ((n : Int) == 0)) = Ending.returned (Value.bool (decide (n = 0)))
    congr 2
    rw [Bool.eq_iff_iff]
    simp only [beq_iff_eq, decide_eq_true_eq]
    omega
  | false =>
    by_cases hs : 0 < seq
    · have hs' : (1 : Int) ≤ (seq : Int) := by omega
      go_enter Try.func39, Try.ntmps39
      go_wp2
      go_ret
      refine ⟨?_, HB.out⟩
      show Ending.returned (Value.bool (decide ((n : Int) ≤ 1000))) = Ending.returned (Value.bool (decide (n ≤ 1000)))
      congr 2
      rw [Bool.eq_iff_iff]
      simp only [decide_eq_true_eq]
      omega
    · have hs' : ¬ (1 : Int) ≤ (seq : Int) := by omega
      go_enter Try.func39, Try.ntmps39
      go_wp2
      go_ret
      refine ⟨?_, HB.out⟩
      simp


set_option maxRecDepth 100000 in
set_option maxHeartbeats 8000000 in
theorem dHear_any {w : World} {F : Nat → Prop} {g : Nat} {s : Sd} {dn : List (List UInt8 × Nat)} (h : RS w F g s dn) (m : Sg) (hm : m.Ok) (A : Option Addr) (n c : Nat) (hl : m.body.length = n) :
    Calls Try.prog 19 #[.pointer (some ⟨g, 0, none⟩), sgV m (.slice A n c)] w fun e w' => ∃ dn', DActed w F g (.int .i64 (s.hear m).1) (s.hear m).2 dn' e w' := by
  obtain ⟨W1, hW1⟩ : ∃ W1, W1 = w.alloc (.cells (sgA m (.slice A n c)) 36) := ⟨_, rfl⟩
  have hb1 : Below w.heap.size w W1 := by rw [hW1]; exact (Below.refl _ _).alloc (Nat.le_refl _) _
  have hk1 : Bk W1 w.heap.size 36 (sgA m (.slice A n c)) := by rw [hW1]; exact Bk.new w 36 _
  have HR := dright_any m A n c W1 hl
  have HF : Hid (∀ r W, Below w.heap.size w W → ∃ dn', DActed w F g r s dn' (.returned r) W) := Lib.hid fun r W hb => ⟨dn, rfl, F, h.below hb, Mv.of (Kp.of_below hb)⟩
  obtain ⟨Aq, cq, hq1, hq2, _, _, _, _, _, hq5⟩ := h.cells
  obtain ⟨T, hT⟩ : ∃ T, T = s.came + s.queue.length := ⟨_, rfl⟩
  have HG : Hid (∀ W, Below W1.heap.size W1 W → W.cell? ⟨w.heap.size, 0, none⟩ = some (.int .u64 (m.life : Int)) ∧ W.cell? ⟨w.heap.size, 1, none⟩ = some (.int .u64 (m.seq : Int)) ∧ W.cell? ⟨w.heap.size, 2, none⟩ = some (.bool m.ack) ∧
      W.cell? ⟨g, 0, none⟩ = some (.int .u64 (s.life : Int)) ∧ W.cell? ⟨g, 3, none⟩ = some (.int .i64 (s.came : Int)) ∧ W.cell? ⟨g, 5, none⟩ = some (.slice Aq T cq) ∧ Below w.heap.size w W) := by
    refine Lib.hid fun W hb => ?_
    have hbw := below_then hb1 hb
    have hk := hk1.below hb hk1.lt
    have hp := h.below hbw
    obtain ⟨_, _, _, _, c0, c1, c2, c3, c4, _⟩ := hp.cells
    have c5 : W.cell? ⟨g, 5, none⟩ = some (.slice Aq T cq) := by
      rw [hT]
      exact (hbw.cell (p := ⟨g, 5, none⟩) h.glt).trans hq5
    exact ⟨hk.cell 0, hk.cell 1, hk.cell 2, c0, c3, c5, hbw⟩
  have hoks := (h.ok.hear m)
  have hokc := h.ok.came
  have hml := hm.life
  have hms := hm.seq
  have hsl := h.ok.life
  have HPS := Lib.hid h
  obtain ⟨k0, k1, k2, k4, k5, k6, _⟩ := (HG.out W1 (Below.refl _ _))
  unfold Sd.hear at hoks ⊢
  unfold sgV at HR ⊢
  unfold sgA at hW1
  obtain ⟨ml, mq, ma, mb⟩ := m
  dsimp only at HR HG hoks hW1 k0 k1 k2 hml hms ⊢
  generalize hrt : ({ life := ml, seq := mq, ack := ma, body := mb } : Sg).right = rt at *
  have hTw : IntKind.u64.wrap (T : Int) = (T : Int) := by rw [IntKind.wrap_u64]; omega
  rw [← hT] at hokc
  have HR := Lib.hid HR
  have HW1 := Lib.hid hW1
  clear h hb1 hk1 hW1 hrt hm hq5 hq1 hq2
  cases rt with
  | false =>
    rw [if_pos rfl]
    clear hoks hokc hml hms hsl HPS hT
    go_enter Try.func19, Try.ntmps19
    go_wp2_with fail
    rw [← HW1.out]
    refine HR.out.mono ?_
    rintro e w2 ⟨rfl, hb2⟩
    obtain ⟨k0, k1, k2, k4, k5, k6, hbw⟩ := HG.out w2 hb2
    have HF2 := Lib.hid (fun W (hb : Below w.heap.size w2 W) => HF.out (.int .i64 2) W (hbw.trans hb))
    clear hbw hb2
    go_wp2_with fail
    go_ret
    exact HF2.out _ (by (repeat' (first | exact Below.refl _ _ | apply bel_drewN)))
  | true =>
    rw [if_neg (by decide)] at hoks ⊢
    cases ma with
    | false =>
      rw [if_pos rfl]
      clear hoks hokc hml hms hsl HPS hT
      go_enter Try.func19, Try.ntmps19
      go_wp2_with fail
      rw [← HW1.out]
      refine HR.out.mono ?_
      rintro e w2 ⟨rfl, hb2⟩
      obtain ⟨k0, k1, k2, k4, k5, k6, hbw⟩ := HG.out w2 hb2
      have HF2 := Lib.hid (fun W (hb : Below w.heap.size w2 W) => HF.out (.int .i64 71) W (hbw.trans hb))
      clear hbw hb2
      go_wp2_with fail
      go_ret
      exact HF2.out _ (by (repeat' (first | exact Below.refl _ _ | apply bel_drewN)))
    | true =>
      rw [if_neg (by decide)] at hoks ⊢
      by_cases hlf : ml = s.life
      · rw [if_neg (by simpa using hlf)] at hoks ⊢
        subst hlf
        by_cases h11 : s.came + s.queue.length < mq
        · rw [if_pos h11]
          have m11 : (T : Int) < (mq : Int) := by omega
          clear hoks HPS h11 hT
          go_enter Try.func19, Try.ntmps19
          go_wp2_with fail
          rw [← HW1.out]
          refine HR.out.mono ?_
          rintro e w2 ⟨rfl, hb2⟩
          obtain ⟨k0, k1, k2, k4, k5, k6, hbw⟩ := HG.out w2 hb2
          have HF2 := Lib.hid (fun W (hb : Below w.heap.size w2 W) => HF.out (.int .i64 11) W (hbw.trans hb))
          clear hbw hb2
          go_wp2_with fail
          go_quiet (fail)
          go_wp2_with fail
          go_quiet (fail)
          go_wp2_with fail
          go_ret
          exact HF2.out _ (by (repeat' (first | exact Below.refl _ _ | apply bel_drewN)))
        · rw [if_neg h11] at hoks ⊢
          have m11 : ¬ (T : Int) < (mq : Int) := by omega
          have hmw : IntKind.i64.wrap (mq : Int) = (mq : Int) := by rw [IntKind.wrap_i64]; omega
          by_cases hcm : s.came < mq
          · rw [if_pos hcm] at hoks ⊢
            have mcm : (s.came : Int) < (mq : Int) := by omega
            have HD : Hid (∀ W, Below w.heap.size w W → W.frozen? ⟨g, 3, none⟩ = false ∧ ∃ dn', DActed w F g (.int .i64 0) { s with came := mq, queue := s.queue.drop (mq - s.came) } dn' (.returned (.int .i64 0)) (W.setCell ⟨g, 3, none⟩ (.int .i64 (mq : Int)))) := Lib.hid fun W hb => by
              obtain ⟨v, es, h1, h3, h4, h8, h5, h6, h7⟩ := HPS.out
              have h1b := h1.below hb h1.lt
              have hk : Kp (fun j => j = g) W (W.setCell ⟨g, 3, none⟩ (.int .i64 (mq : Int))) := Kp.set_ (F := fun j => j = g) (p := ⟨g, 3, none⟩) rfl _
              have h3b := h3.kp (G := fun _ => False) (Kp.of_below hb) (fun _ _ h => h)
              have hkk : Kp F w (W.setCell ⟨g, 3, none⟩ (.int .i64 (mq : Int))) := (Kp.of_below hb).trans (hk.mono fun j e => by rw [e]; exact h6)
              refine ⟨h1b.frozen 3, dn ++ s.queue.take (mq - s.came), rfl, F, ⟨v, es, h1b.set_ 3 _, ⟨own_kp h3b.own hk fun j e => h3b.off h1b j (.inl e), fun e he => own_kp (h3b.each e he) hk fun j e2 => h3b.off h1b j (.inr ⟨e, he, e2⟩), h3b.foot, h3b.bods⟩, ?_, ?_, hoks, h6, fun k e => Nat.lt_of_lt_of_le (h7 k e) hkk.size⟩, Mv.of hkk⟩
              · rw [h4, List.append_assoc]
                dsimp only
                rw [List.take_append_drop]
              · rw [List.length_append, List.length_take, h8]
                dsimp only
                omega
            clear hoks HPS h11 hT
            go_enter Try.func19, Try.ntmps19
            go_wp2_with fail
            rw [← HW1.out]
            refine HR.out.mono ?_
            rintro e w2 ⟨rfl, hb2⟩
            obtain ⟨k0, k1, k2, k4, k5, k6, hbw⟩ := HG.out w2 hb2
            have HD2 := Lib.hid (fun W (hb : Below w.heap.size w2 W) => HD.out W (hbw.trans hb))
            clear hbw hb2
            go_wp2_with fail
            go_quiet (fail)
            go_wp2_with fail
            go_quiet (fail)
            go_wp2_with fail
            go_quiet (fail)
            go_upto_region 11 with fail
            have hf : ∀ q, (w2.drewN q).frozen? ⟨g, 3, none⟩ = false := fun q => (HD2.out _ (bel_drewN (Below.refl _ _) q)).1
            have HE := Lib.hid (fun W hb => (HD2.out W hb).2)
            clear HD2 HD
            go_wp2
            go_ret
            exact HE.out _ (by (repeat' (first | exact Below.refl _ _ | apply bel_drewN)))
          · rw [if_neg hcm]
            have mcm : ¬ (s.came : Int) < (mq : Int) := by omega
            clear hoks HPS h11 hT
            go_enter Try.func19, Try.ntmps19
            go_wp2_with fail
            rw [← HW1.out]
            refine HR.out.mono ?_
            rintro e w2 ⟨rfl, hb2⟩
            obtain ⟨k0, k1, k2, k4, k5, k6, hbw⟩ := HG.out w2 hb2
            have HF2 := Lib.hid (fun W (hb : Below w.heap.size w2 W) => HF.out (.int .i64 0) W (hbw.trans hb))
            clear hbw hb2
            go_wp2_with fail
            go_quiet (fail)
            go_wp2_with fail
            go_quiet (fail)
            go_wp2_with fail
            go_quiet (fail)
            go_wp2_with fail
            go_ret
            exact HF2.out _ (by (repeat' (first | exact Below.refl _ _ | apply bel_drewN)))
      · rw [if_pos hlf]
        have hne : ¬ (ml : Int) = (s.life : Int) := by omega
        clear hoks hokc hml hms hsl HPS hT
        go_enter Try.func19, Try.ntmps19
        go_wp2_with fail
        rw [← HW1.out]
        refine HR.out.mono ?_
        rintro e w2 ⟨rfl, hb2⟩
        obtain ⟨k0, k1, k2, k4, k5, k6, hbw⟩ := HG.out w2 hb2
        have HF2 := Lib.hid (fun W (hb : Below w.heap.size w2 W) => HF.out (.int .i64 70) W (hbw.trans hb))
        clear hbw hb2
        go_wp2_with fail
        go_quiet (fail)
        go_wp2_with fail
        go_ret
        exact HF2.out _ (by (repeat' (first | exact Below.refl _ _ | apply bel_drewN)))
end Go.Proofs.Ytfdlhefbbhblnaa
