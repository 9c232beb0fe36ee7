/- The program's sender: Hear. -/
import Derived.Test.YtfdlhefbbhblnaaSesU
namespace Go.Proofs.Ytfdlhefbbhblnaa
open Go.RowKit Go.Maps

theorem PS.heard {w W w3 : World} {F : Nat → Prop} {g R n c k seq : Nat} {s : Sd} {es : List Pce} (hb : Below w.heap.size w W) (h1 : Bk w g 82 (sdA s (.slice (some ⟨R, 0, none⟩) n c))) (h3 : PcRow w F (.slice (some ⟨R, 0, none⟩) n c) es) (h4 : es.map (·.1) = s.queue)
    (h5 : { s with came := seq, queue := s.queue.drop k : Sd }.Ok) (h6 : F g) (h7 : ∀ j, F j → j < w.heap.size) (hr : PcRow w3 F (.slice (some ⟨R, 0, none⟩) (n - k) c) (es.drop k)) (hk : Kp (fun j => j = R) W w3) :
    PS ((w3.setCell ⟨g, 5, none⟩ (.slice (some ⟨R, 0, none⟩) (n - k) c)).setCell ⟨g, 4, none⟩ (.int .u64 (seq : Int))) F g { s with came := seq, queue := s.queue.drop k } ∧
      Mv F F w ((w3.setCell ⟨g, 5, none⟩ (.slice (some ⟨R, 0, none⟩) (n - k) c)).setCell ⟨g, 4, none⟩ (.int .u64 (seq : Int))) := by
  have hRF : F R := h3.foot R rfl
  have hRg : R ≠ g := h3.off h1 R (.inl rfl)
  have hk1 : Kp F w w3 := (Kp.of_below hb).trans (hk.mono fun j e => by rw [e]; exact hRF)
  have hk2 : Kp (fun j => j = g) w3 ((w3.setCell ⟨g, 5, none⟩ (.slice (some ⟨R, 0, none⟩) (n - k) c)).setCell ⟨g, 4, none⟩ (.int .u64 (seq : Int))) := (Kp.set_ (F := fun j => j = g) (p := ⟨g, 5, none⟩) rfl _).trans (Kp.set_ (F := fun j => j = g) (p := ⟨g, 4, none⟩) rfl _)
  have hb3 := (h1.below hb h1.lt).kp hk (fun e => hRg e.symm)
  have hb5 := (hb3.set_ 5 (.slice (some ⟨R, 0, none⟩) (n - k) c)).set_ 4 (.int .u64 (seq : Int))
  have hk3 := hk1.trans (hk2.mono fun j e => by rw [e]; exact h6)
  refine ⟨⟨_, es.drop k, hb5, ⟨own_kp hr.own hk2 fun j e => ?_, fun e he => own_kp (hr.each e he) hk2 fun j e2 => ?_, hr.foot, hr.bods⟩, by rw [List.map_drop, h4], h5, h6, fun j e => Nat.lt_of_lt_of_le (h7 j e) hk3.size⟩, Mv.of hk3⟩
  · injection e with e
    rw [← e]; exact hRg
  · exact not_bk7 hb3 (hr.each e he) (by decide) j e2

theorem quiet_add {P : Program} {f : FuncId} {args : Array Value} {w : World} {a b : Nat} {v : Value} (h : Calls P f args (w.drewN (a + b)) fun e w' => e = .returned v ∧ ∃ m, w' = (w.drewN (a + b)).drewN m) : Calls P f args (w.drewN (a + b)) fun e w'' => e = .returned v ∧ ∃ n, w'' = w.drewN (a + n) :=
  h.mono fun _ _ ⟨he, m, hm⟩ => ⟨he, b + m, by rw [hm, World.drewN_drewN, Nat.add_assoc]⟩
set_option maxRecDepth 100000 in
set_option maxHeartbeats 4000000 in
theorem sHear_nil (v0 v1 v2 v3 : Value) (w : World) : Calls Try.prog 18 #[.pointer none, .agg #[v0, v1, v2, v3]] w fun e w' => e = .returned (.int .i64 1) ∧ Below w.heap.size w w' := by
  go_enter Try.func18, Try.ntmps18
  go_wp2
  go_ret
  exact ⟨rfl, (Below.refl _ _).alloc (Nat.le_refl _) _⟩

set_option maxRecDepth 100000 in
set_option maxHeartbeats 8000000 in
theorem sHear_any {w : World} {F : Nat → Prop} {g : Nat} {s : Sd} (h : PS w F g s) (m : Sg) (hm : m.Ok) (A : Option Addr) (n c : Nat) (hl : m.body.length = n) :
    Calls Try.prog 18 #[.pointer (some ⟨g, 0, none⟩), sgV m (.slice A n c)] w (SActed w F g (.int .i64 (s.hear m).1) (s.hear m).2) := by
  obtain ⟨W1, hW1⟩ : ∃ W1, W1 = w.alloc (.cells (sgA m (.slice A n c)) 36) := ⟨_, rfl⟩
  have hb1 : Below w.heap.size w W1 := by rw [hW1]; exact (Below.refl _ _).alloc (Nat.le_refl _) _
  have hk1 : Bk W1 w.heap.size 36 (sgA m (.slice A n c)) := by rw [hW1]; exact Bk.new w 36 _
  have HR := right_any m A n c W1 hl
  have HF : Hid (∀ r W, Below w.heap.size w W → SActed w F g r s (.returned r) W) := Lib.hid fun r W hb => ⟨rfl, F, h.below hb, Mv.of (Kp.of_below hb)⟩
  obtain ⟨Aq, cq, hq1, hq2, _⟩ := h.cells
  have HG : Hid (∀ W, Below W1.heap.size W1 W → W.cell? ⟨w.heap.size, 0, none⟩ = some (.int .u64 (m.life : Int)) ∧ W.cell? ⟨w.heap.size, 1, none⟩ = some (.int .u64 (m.seq : Int)) ∧ W.cell? ⟨w.heap.size, 2, none⟩ = some (.bool m.ack) ∧ W.cell? ⟨w.heap.size, 3, none⟩ = some (.slice A n c) ∧
      W.cell? ⟨g, 0, none⟩ = some (.int .u64 (s.life : Int)) ∧ W.cell? ⟨g, 4, none⟩ = some (.int .u64 (s.came : Int)) ∧ Below w.heap.size w W ∧
      Hid (∀ q, Calls Try.prog 37 #[.pointer (some ⟨g, 0, none⟩)] (W.drewN q) fun e w' => e = .returned (.int .u64 ((s.came + s.queue.length : Nat) : Int)) ∧ ∃ m, w' = (W.drewN q).drewN m)) := by
    refine Lib.hid fun W hb => ?_
    have hbw := below_then hb1 hb
    have hk := hk1.below hb hk1.lt
    have hp := h.below hbw
    obtain ⟨_, _, _, _, c0, c1, c2, c3, c4, c5⟩ := hp.cells
    exact ⟨hk.cell 0, hk.cell 1, hk.cell 2, hk.cell 3, c0, c4, hbw, Lib.hid fun q => sLast_any (h.below (bel_drewN hbw q))⟩
  have hoks := (h.ok.hear m)
  have hokc := h.ok.came
  have hml := hm.life
  have hms := hm.seq
  have hsl := h.ok.life
  have HPS := Lib.hid h
  have hk0 := (HG.out W1 (Below.refl _ _))
  obtain ⟨k0, k1, k2, k3, k4, k5, _, _⟩ := hk0
  unfold Sd.hear at hoks ⊢
  unfold sgV at HR ⊢
  unfold sgA at hW1
  obtain ⟨ml, mq, ma, mb⟩ := m
  dsimp only at HR HG hoks hW1 k0 k1 k2 hml hms ⊢
  generalize hrt : ({ life := ml, seq := mq, ack := ma, body := mb } : Sg).right = rt at *
  have HR := Lib.hid HR
  have HW1 := Lib.hid hW1
  clear h hb1 hk1 hW1 hrt hm
  cases rt with
  | false =>
    rw [if_pos rfl]
    clear hoks hokc hml hms hsl HPS
    go_enter Try.func18, Try.ntmps18
    go_wp2_with fail
    rw [← HW1.out]
    refine HR.out.mono ?_
    rintro e w2 ⟨rfl, hb2⟩
    have HF2 := Lib.hid (HF.out (.int .i64 2) w2 (HG.out w2 hb2).2.2.2.2.2.2.1)
    go_wp2
    go_ret
    exact HF2.out
  | true =>
    rw [if_neg (by decide)] at hoks ⊢
    cases ma with
    | false =>
      rw [if_pos rfl]
      clear hoks hokc hml hms hsl HPS
      go_enter Try.func18, Try.ntmps18
      go_wp2_with fail
      rw [← HW1.out]
      refine HR.out.mono ?_
      rintro e w2 ⟨rfl, hb2⟩
      obtain ⟨k0, k1, k2, k3, k4, k5, hbw, HL⟩ := HG.out w2 hb2
      have HF2 := Lib.hid (HF.out (.int .i64 71) w2 hbw)
      clear hbw hb2
      go_wp2
      go_ret
      exact HF2.out
    | true =>
      rw [if_neg (by decide)] at hoks ⊢
      by_cases hlf : ml = s.life
      · rw [if_neg (by simpa using hlf)] at hoks ⊢
        subst hlf
        by_cases h11 : s.came + s.queue.length < mq
        · rw [if_pos h11]
          have m11 : ((s.came + s.queue.length : Nat) : Int) < (mq : Int) := by omega
          clear hoks HPS
          generalize ((s.came + s.queue.length : Nat) : Int) = T at *
          go_enter Try.func18, Try.ntmps18
          go_wp2_with fail
          rw [← HW1.out]
          refine HR.out.mono ?_
          rintro e w2 ⟨rfl, hb2⟩
          obtain ⟨k0, k1, k2, k3, k4, k5, hbw, HL⟩ := HG.out w2 hb2
          have HF2 := Lib.hid (fun W (hb : Below w.heap.size w2 W) => HF.out (.int .i64 11) W (hbw.trans hb))
          clear hbw hb2
          go_wp2_with fail
          go_quiet (fail)
          go_wp2_with fail
          go_quiet ((go_at_call 37; exact quiet_add (HL.out _)))
          go_wp2
          go_ret
          exact HF2.out _ (by (repeat' (first | exact Below.refl _ _ | apply bel_drewN)))
        · rw [if_neg h11] at hoks ⊢
          have m11 : ¬ ((s.came + s.queue.length : Nat) : Int) < (mq : Int) := by omega
          by_cases hcm : s.came < mq
          · rw [if_pos hcm] at hoks ⊢
            have mcm : (s.came : Int) < (mq : Int) := by omega
            obtain ⟨v, es, h1, h3, h4, h5, h6, h7⟩ := HPS.out
            have hel : es.length = s.queue.length := by rw [← h4]; simp
            obtain ⟨R, cc, rfl, hN1, hN2, hx1, hx2⟩ := h3.cell 0 (by omega)
            clear hx1 hx2
            obtain ⟨N, hN⟩ : ∃ N, N = es.length := ⟨_, rfl⟩
            obtain ⟨k, hk⟩ : ∃ k, mq - s.came = k := ⟨_, rfl⟩
            rw [← hN] at h1 h3 hN1
            have hkN : k ≤ N := by omega
            have hk1 : 1 ≤ k := by omega
            have e1 : IntKind.u64.wrap ((mq : Int) - (s.came : Int)) = (k : Int) := by rw [IntKind.wrap_u64]; omega
            have e2 : IntKind.i64.wrap (k : Int) = (k : Int) := by rw [IntKind.wrap_i64]; omega
            have hR : R < w.heap.size := h7 R (h3.foot R rfl)
            have hRg : R ≠ g := h3.off h1 R (.inl rfl)
            rw [hk] at hoks ⊢
            have hgl := h1.lt
            have HD : Hid (∀ W, Below W1.heap.size W1 W → Calls Try.prog 38 #[.slice (some ⟨R, 0, none⟩) N cc, .int .i64 0, .int .i64 (k : Int)] W fun e w3 =>
                e = .returned (.slice (some ⟨R, 0, none⟩) (N - k) cc) ∧ w3.cell? ⟨g, 5, none⟩ = some (.slice (some ⟨R, 0, none⟩) N cc) ∧ w3.cell? ⟨g, 4, none⟩ = some (.int .u64 (s.came : Int)) ∧ w3.cell? ⟨w.heap.size, 1, none⟩ = some (.int .u64 (mq : Int)) ∧ w3.frozen? ⟨g, 5, none⟩ = false ∧ w3.frozen? ⟨g, 4, none⟩ = false ∧
                Hid (SActed w F g (.int .i64 0) { s with came := mq, queue := s.queue.drop k } (.returned (.int .i64 0)) ((w3.setCell ⟨g, 5, none⟩ (.slice (some ⟨R, 0, none⟩) (N - k) cc)).setCell ⟨g, 4, none⟩ (.int .u64 (mq : Int))))) := by
              refine Lib.hid fun W hb => ?_
              have hbw := (HG.out W hb).2.2.2.2.2.2.1
              refine (sDelete_any (h3.kp (G := fun _ => False) (Kp.of_below hbw) (fun _ _ h => h)) hN hk1 hkN hN1).mono ?_
              rintro e w3 ⟨rfl, hr3, hkp⟩
              have hb3 := (h1.below hbw hgl).kp hkp (fun e => hRg e.symm)
              have hcs : W.cell? ⟨w.heap.size, 1, none⟩ = some (.int .u64 (mq : Int)) := (HG.out W hb).2.1
              have hp := PS.heard (seq := mq) hbw h1 h3 h4 hoks h6 h7 hr3 hkp
              exact ⟨rfl, hb3.cell 5, hb3.cell 4, cell_kp hcs hkp (by show ¬ w.heap.size = R; omega), hb3.frozen 5, hb3.frozen 4, Lib.hid ⟨rfl, F, hp.1, hp.2⟩⟩
            have HG5 : Hid (∀ W, Below W1.heap.size W1 W → W.cell? ⟨g, 5, none⟩ = some (.slice (some ⟨R, 0, none⟩) N cc)) := Lib.hid fun W hb => (h1.below (HG.out W hb).2.2.2.2.2.2.1 hgl).cell 5
            clear hoks HPS h1 h3 h4 h5 h6 h7 hel hokc hN hk hN2 hkN hk1
            generalize ((s.came + s.queue.length : Nat) : Int) = T at *
            go_enter Try.func18, Try.ntmps18
            go_wp2_with fail
            rw [← HW1.out]
            refine HR.out.mono ?_
            rintro e w2 ⟨rfl, hb2⟩
            obtain ⟨k0, k1, k2, k3, k4, k5, hbw, HL⟩ := HG.out w2 hb2
            have k6 := HG5.out w2 hb2
            have HD2 := Lib.hid (fun W (hb : Below w2.heap.size w2 W) => HD.out W (below_then hb2 hb))
            clear hbw hb2
            go_wp2_with fail
            go_quiet (fail)
            go_wp2_with fail
            go_quiet ((go_at_call 37; exact quiet_add (HL.out _)))
            go_wp2_with fail
            go_quiet (fail)
            go_wp2_with fail
            go_region_law ((go_simp; go_at_call 38; refine (HD2.out _ (by (repeat' (first | exact Below.refl _ _ | apply bel_drewN | apply Below.drew)))).mono ?_; rintro e w3 ⟨rfl, x5, x4, xs, f5, f4, HF2⟩))
            all_goals
              go_wp2
              go_ret
              exact HF2.out
          · rw [if_neg hcm]
            have mcm : ¬ (s.came : Int) < (mq : Int) := by omega
            clear hoks HPS
            generalize ((s.came + s.queue.length : Nat) : Int) = T at *
            go_enter Try.func18, Try.ntmps18
            go_wp2_with fail
            rw [← HW1.out]
            refine HR.out.mono ?_
            rintro e w2 ⟨rfl, hb2⟩
            obtain ⟨k0, k1, k2, k3, k4, k5, hbw, HL⟩ := HG.out w2 hb2
            have HF2 := Lib.hid (fun W (hb : Below w.heap.size w2 W) => HF.out (.int .i64 0) W (hbw.trans hb))
            clear hbw hb2
            go_wp2_with fail
            go_quiet (fail)
            go_wp2_with fail
            go_quiet ((go_at_call 37; exact quiet_add (HL.out _)))
            go_wp2_with fail
            go_quiet (fail)
            go_wp2
            go_ret
            exact HF2.out _ (by (repeat' (first | exact Below.refl _ _ | apply bel_drewN)))
      · rw [if_pos hlf]
        have hne : ¬ (ml : Int) = (s.life : Int) := by omega
        clear hoks hokc hml hms hsl HPS
        go_enter Try.func18, Try.ntmps18
        go_wp2_with fail
        rw [← HW1.out]
        refine HR.out.mono ?_
        rintro e w2 ⟨rfl, hb2⟩
        obtain ⟨k0, k1, k2, k3, k4, k5, hbw, HL⟩ := HG.out w2 hb2
        have HF2 := Lib.hid (fun q => HF.out (.int .i64 70) (w2.drewN q) (bel_drewN hbw q))
        clear hbw hb2
        go_wp2_with fail
        go_quiet (fail)
        go_wp2
        go_ret
        exact HF2.out _
end Go.Proofs.Ytfdlhefbbhblnaa
