/- The document's sender: Push. -/
import Derived.Test.YtfdlhefbbhblnaaSesRm
import Derived.Test.YtfdlhefbbhblnaaLent
namespace Go.Proofs.Ytfdlhefbbhblnaa
open Go.RowKit Go.Maps

attribute [local go_sem ↓] bDcs_eq
attribute [local go_sem] run_bDcs

set_option maxRecDepth 100000 in
set_option maxHeartbeats 1000000 in
theorem dPush_bad {w : World} {F : Nat → Prop} {g : Nat} {s : Sd} {dn : List (List UInt8 × Nat)} (h : RS w F g s dn) (A : Option Addr) (n c : Nat) (l : List UInt8) (hl : l.length = n) (hbad : 1000 < n ∨ 128 ≤ s.queue.length) :
    Calls Try.prog 12 #[.pointer (some ⟨g, 0, none⟩), .slice A n c] w fun e w' => e = .returned (.int .i64 (s.push l).1) ∧ Below w.heap.size w w' := by
  obtain ⟨Aq, cq, hq1, hq2, c0, c1, c2, c3, c4, c5⟩ := h.cells
  have hcm := h.ok.came
  unfold Sd.push
  rw [hl]
  obtain ⟨T, hT⟩ : ∃ T, T = s.came + s.queue.length := ⟨_, rfl⟩
  rw [← hT] at c5 hcm
  generalize hq : s.queue.length = q at *
  generalize s.came = cm at *
  have HB : Hid (∀ m, Below w.heap.size w (w.drewN m)) := Lib.hid fun m => bel_drewN (Below.refl _ _) m
  by_cases h1 : 1000 < n
  · have m1 : (1000 : Int) < (n : Int) := by omega
    rw [if_pos h1]
    clear h hbad hq hl
    go_enter Try.func12, Try.ntmps12
    go_wp2
    go_ret
    exact ⟨rfl, Below.refl _ _⟩
  · have m1 : ¬ (1000 : Int) < (n : Int) := by omega
    have h2 : 128 ≤ q := by omega
    have m2 : (128 : Int) ≤ (T : Int) - (cm : Int) := by omega
    have m3 : decide ((128 : Int) ≤ (T : Int) - (cm : Int)) = true := decide_eq_true m2
    rw [if_neg h1, if_pos h2]
    clear h hbad hq hl hT
    go_enter Try.func12, Try.ntmps12
    go_wp2_with fail
    go_quiet (fail)
    go_wp2
    go_ret
    exact ⟨rfl, HB.out _⟩
set_option maxRecDepth 100000 in
set_option maxHeartbeats 4000000 in
theorem dPush_go {w : World} {F : Nat → Prop} {g : Nat} {s : Sd} {dn : List (List UInt8 × Nat)} (h : RS w F g s dn) (A : Option Addr) (n c : Nat) (l : List UInt8) (hr : Rd w w.heap.size A n l) (hn : n ≤ 1000) (hq : s.queue.length < 128) (hcm : s.came + s.queue.length + 1 < 1000000) :
    Calls Try.prog 12 #[.pointer (some ⟨g, 0, none⟩), .slice A n c] w (DActed w F g (.int .i64 0) { s with queue := s.queue ++ [(l, 0)] } dn) := by
  have hl := hr.1
  have hok : { s with queue := s.queue ++ [(l, 0)] : Sd }.Ok := by
    have := h.ok.push (by omega) l
    unfold Sd.push at this
    rw [if_neg (by omega), if_neg (by omega)] at this
    exact this
  have HC : Hid (∀ W, Below w.heap.size w W → Calls Try.prog 34 #[.slice A n c] W fun e w' => ∃ Av cv, e = .returned (.slice Av n cv) ∧ w'.ownsRow W.heap.size 5 1 (.slice Av n cv) n (u8s l) ∧ Below W.heap.size W w') := by
    refine Lib.hid fun W hb => (copy_any A n c W.heap.size l W (by omega) (hr.up hb)).mono ?_
    rintro e w' ⟨v, rfl, ho, hb2⟩
    obtain ⟨Av, cv, rfl, _⟩ := own_shape ho
    exact ⟨Av, cv, rfl, ho, hb2⟩
  obtain ⟨v, es, h1, h3, h4, h8, h5, h6, h7⟩ := h
  have hel : es.length = s.came + s.queue.length := by
    have := congrArg List.length h4
    rw [List.length_map, List.length_append, h8] at this
    exact this
  obtain ⟨Aq, cq, hv, hc1, hc2⟩ := h3.shape
  have c5 : w.cell? ⟨g, 5, none⟩ = some v := h1.cell 5
  have c3 : w.cell? ⟨g, 3, none⟩ = some (.int .i64 (s.came : Int)) := h1.cell 3
  have HG : Hid (∀ w1 Av cv, Below w.heap.size w w1 → w1.ownsRow w.heap.size 5 1 (.slice Av n cv) n (u8s l) → w1.cell? ⟨g, 5, none⟩ = some v ∧ (w1.alloc (.cells #[.slice Av n cv, .int .i64 0] 86)).cell? ⟨g, 5, none⟩ = some v ∧
      Hid (Bk (w1.alloc (.cells #[.slice Av n cv, .int .i64 0] 86)) g 32 (rsA s v)) ∧ Hid (DcRow (w1.alloc (.cells #[.slice Av n cv, .int .i64 0] 86)) F v es) ∧ Hid ((w1.alloc (.cells #[.slice Av n cv, .int .i64 0] 86)).ownsRow 0 5 1 (.slice Av n cv) n (u8s l)) ∧
      Hid (Kp F w (w1.alloc (.cells #[.slice Av n cv, .int .i64 0] 86))) ∧ Hid (∀ u ∈ [Value.slice Av n cv, .int .i64 0], u.oneCell' = true) ∧ Hid (∀ k, (Value.slice Av n cv).ownBlock = some k → w.heap.size ≤ k)) := by
    refine Lib.hid fun w1 Av cv hb ho => ?_
    have hb2 : Below w.heap.size w (w1.alloc (.cells #[.slice Av n cv, .int .i64 0] 86)) := hb.alloc hb.size _
    have hb3 : Below w1.heap.size w1 (w1.alloc (.cells #[.slice Av n cv, .int .i64 0] 86)) := (Below.refl _ _).alloc (Nat.le_refl _) _
    refine ⟨(h1.below hb h1.lt).cell 5, (h1.below hb2 h1.lt).cell 5, Lib.hid (h1.below hb2 h1.lt), Lib.hid (h3.kp (G := fun _ => False) (Kp.of_below hb2) (fun _ _ h => h)), Lib.hid (own_mono (own_below ho hb3 fun k e => (ho.lt k e).2) (Nat.zero_le _)), Lib.hid (Kp.of_below hb2), Lib.hid ?_, Lib.hid fun k e => (ho.lt k e).1⟩
    intro u hu
    simp only [List.mem_cons, List.not_mem_nil, or_false] at hu
    rcases hu with rfl | rfl <;> rfl
  obtain ⟨iw, hiw, hzw, hsw, hbw⟩ := info_parts Try.infoDPiece
  have H4 := Lib.hid (And.intro h4 h8)
  have H6 := Lib.hid h6
  have H7 := Lib.hid h7
  have Hok := Lib.hid hok
  have Hiw := Lib.hid hiw
  have Hzw := Lib.hid hzw
  have Hsw := Lib.hid hsw
  have Hbw := Lib.hid hbw
  have Hl := Lib.hid hl
  obtain ⟨m, hm⟩ : ∃ m, m = es.length := ⟨_, rfl⟩
  obtain ⟨cm, hcmm⟩ : ∃ cm, cm = s.came := ⟨_, rfl⟩
  have hmb : m < 1000000 := by omega
  have hmi : ¬ (128 : Int) ≤ (m : Int) - (cm : Int) := by omega
  have hmd : decide ((128 : Int) ≤ (m : Int) - (cm : Int)) = false := decide_eq_false hmi
  have hcl : cm ≤ m := by omega
  have hni : ¬ 1000 < (n : Int) := by omega
  rw [← hm] at hv hc1
  rw [← hcmm] at c3
  have Hm := Lib.hid hm
  have Hv := Lib.hid hv
  rw [hv] at c5
  clear h1 h3 h4 h5 h6 h7 h8 hiw hzw hsw hbw hr hl hok hq hel hcm hm hv hcmm
  go_enter Try.func12, Try.ntmps12
  go_wp2_with fail
  go_quiet (fail)
  go_wp2_with fail
  go_region_law (first
    | (go_simp; go_at_call 34; (refine (HC.out _ (by (repeat' (first | assumption | exact Below.refl _ _ | apply Below.drew | exact bel_drewN (Below.refl _ _) _)))).mono ?_); rintro e w1 ⟨Av, cv, rfl, ho1, hb1⟩; (obtain ⟨x5, y5, K1, K3, KO, KK, KC, KB⟩ := HG.out w1 Av cv (below_then (by (repeat' (first | assumption | exact Below.refl _ _ | apply Below.drew | exact bel_drewN (Below.refl _ _) _))) hb1) (own_mono ho1 (by simp))); rw [Hv.out] at x5 y5; clear ho1 hb1)
    | ((refine step_append_app _ rfl _ _ 30 (by rfl) 0 86 iw _ 2 32 Try.underlying30 Hiw.out Hzw.out Hsw.out Hbw.out rfl v m _ (by rw [Hv.out]; rfl) (by rw [Hm.out]; exact K3.out.own) (some ⟨w1.heap.size, 0, none⟩) 1 1 [.slice Av n cv, .int .i64 0] (by rfl) (by rfl) (by intro e; cases e) (new_cells _ _ _ rfl) KC.out (by unfold maxLen; omega) (by omega) (by simp) ?_); intro v' w3 happ; (obtain ⟨Av', cv', rfl, _⟩ := own_shape happ.own); (have hk3 : Kp (fun k => v.ownBlock = some k) _ w3 := Kp.of_row happ.grow (fun g e => e)); (have kb := K1.out.kp hk3 (fun e => K3.out.off K1.out g (.inl e) rfl)); (have k2 := (show w3.cell? ⟨g, 5, none⟩ = some v from kb.cell 5)); (have kf := kb.frozen 5)))
  all_goals
    rw [Hm.out] at happ
    have HF := RS.push (q := (l, 0)) KK.out K1.out K3.out H4.out.1 H4.out.2 Hok.out H6.out H7.out happ (by rw [Hl.out]; exact KO.out) (fun k e => .inr (KB.out k e))
    rw [← Hm.out] at HF
    have HF := Lib.hid HF
    clear happ hk3 kb k2 kf x5 y5 c5
    go_wp2
    go_ret
    exact ⟨rfl, HF.out⟩
theorem dPush_any {w : World} {F : Nat → Prop} {g : Nat} {s : Sd} {dn : List (List UInt8 × Nat)} (h : RS w F g s dn) (A : Option Addr) (n c : Nat) (l : List UInt8) (hr : Rd w w.heap.size A n l) (hcm : s.came + s.queue.length + 1 < 1000000) :
    Calls Try.prog 12 #[.pointer (some ⟨g, 0, none⟩), .slice A n c] w (DActed w F g (.int .i64 (s.push l).1) (s.push l).2 dn) := by
  by_cases hb : 1000 < n ∨ 128 ≤ s.queue.length
  · have e : (s.push l).2 = s := by
      unfold Sd.push
      split
      · rfl
      split
      · rfl
      · have := hr.1; omega
    rw [e]
    refine (dPush_bad h A n c l hr.1 hb).mono ?_
    rintro e w' ⟨rfl, hb2⟩
    exact ⟨rfl, F, h.below hb2, Mv.of (Kp.of_below hb2)⟩
  · have e : s.push l = (0, { s with queue := s.queue ++ [(l, 0)] }) := by
      have := hr.1
      unfold Sd.push
      rw [if_neg (by omega), if_neg (by omega)]
    rw [e]
    exact dPush_go h A n c l hr (by omega) (by omega) hcm
end Go.Proofs.Ytfdlhefbbhblnaa
