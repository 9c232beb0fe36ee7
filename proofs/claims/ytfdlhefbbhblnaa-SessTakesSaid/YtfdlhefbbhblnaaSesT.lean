/- The program's sender: Push of a piece. -/
import Derived.Test.YtfdlhefbbhblnaaSesS
namespace Go.Proofs.Ytfdlhefbbhblnaa
open Go.RowKit Go.Maps

attribute [local go_sem ↓] bPcs_eq
attribute [local go_sem] run_bPcs

set_option maxRecDepth 100000 in
set_option maxHeartbeats 4000000 in
theorem sPush_go {w : World} {F : Nat → Prop} {g : Nat} {s : Sd} (h : PS w F g s) (A : Option Addr) (n c : Nat) (l : List UInt8) (hr : Rd w w.heap.size A n l) (hn : n ≤ 1000) (hq : s.queue.length < 128) (hcm : s.came + s.queue.length + 1 < 4611686018427387904) :
    Calls Try.prog 11 #[.pointer (some ⟨g, 0, none⟩), .slice A n c] w (SActed w F g (.int .i64 0) { s with queue := s.queue ++ [(l, 0)] }) := by
  have hl := hr.1
  have hok : { s with queue := s.queue ++ [(l, 0)] : Sd }.Ok := by
    have := h.ok.push hcm l
    unfold Sd.push at this
    rw [if_neg (by omega), if_neg (by omega)] at this
    exact this
  have HC : Hid (∀ W, Below w.heap.size w W → Calls Try.prog 35 #[.slice A n c] W fun e w' => ∃ Av cv, e = .returned (.slice Av n cv) ∧ w'.ownsRow W.heap.size 5 1 (.slice Av n cv) n (u8s l) ∧ Below W.heap.size W w') := by
    refine Lib.hid fun W hb => (cloneB_any A n c W.heap.size l W (by omega) (Nat.le_refl _) (hr.up hb)).mono ?_
    rintro e w' ⟨v, rfl, ho, hb2⟩
    obtain ⟨Av, cv, rfl, _⟩ := own_shape ho
    exact ⟨Av, cv, rfl, ho, hb2⟩
  obtain ⟨v, es, h1, h3, h4, h5, h6, h7⟩ := h
  have hel : es.length = s.queue.length := by rw [← h4]; simp
  obtain ⟨Aq, cq, hv, hc1, hc2⟩ := h3.shape
  have c5 : w.cell? ⟨g, 5, none⟩ = some v := h1.cell 5
  have HG : Hid (∀ w1 Av cv, Below w.heap.size w w1 → w1.ownsRow w.heap.size 5 1 (.slice Av n cv) n (u8s l) → w1.cell? ⟨g, 5, none⟩ = some v ∧ (w1.alloc (.cells #[.slice Av n cv, .int .i64 0] 84)).cell? ⟨g, 5, none⟩ = some v ∧
      Hid (Bk (w1.alloc (.cells #[.slice Av n cv, .int .i64 0] 84)) g 82 (sdA s v)) ∧ Hid (PcRow (w1.alloc (.cells #[.slice Av n cv, .int .i64 0] 84)) F v es) ∧ Hid ((w1.alloc (.cells #[.slice Av n cv, .int .i64 0] 84)).ownsRow 0 5 1 (.slice Av n cv) n (u8s l)) ∧
      Hid (Kp F w (w1.alloc (.cells #[.slice Av n cv, .int .i64 0] 84))) ∧ Hid (∀ u ∈ [Value.slice Av n cv, .int .i64 0], u.oneCell' = true) ∧ Hid (∀ k, (Value.slice Av n cv).ownBlock = some k → w.heap.size ≤ k)) := by
    refine Lib.hid fun w1 Av cv hb ho => ?_
    have hb2 : Below w.heap.size w (w1.alloc (.cells #[.slice Av n cv, .int .i64 0] 84)) := hb.alloc hb.size _
    have hb3 : Below w1.heap.size w1 (w1.alloc (.cells #[.slice Av n cv, .int .i64 0] 84)) := (Below.refl _ _).alloc (Nat.le_refl _) _
    refine ⟨(h1.below hb h1.lt).cell 5, (h1.below hb2 h1.lt).cell 5, Lib.hid (h1.below hb2 h1.lt), Lib.hid (h3.kp (G := fun _ => False) (Kp.of_below hb2) (fun _ _ h => h)), Lib.hid (own_mono (own_below ho hb3 fun k e => (ho.lt k e).2) (Nat.zero_le _)), Lib.hid (Kp.of_below hb2), Lib.hid ?_, Lib.hid fun k e => (ho.lt k e).1⟩
    intro u hu
    simp only [List.mem_cons, List.not_mem_nil, or_false] at hu
    rcases hu with rfl | rfl <;> rfl
  obtain ⟨iw, hiw, hzw, hsw, hbw⟩ := info_parts Try.infoPiece
  have H4 := Lib.hid h4
  have H6 := Lib.hid h6
  have H7 := Lib.hid h7
  have Hok := Lib.hid hok
  have Hiw := Lib.hid hiw
  have Hzw := Lib.hid hzw
  have Hsw := Lib.hid hsw
  have Hbw := Lib.hid hbw
  have Hl := Lib.hid hl
  obtain ⟨m, hm⟩ : ∃ m, m = es.length := ⟨_, rfl⟩
  have hm128 : m < 128 := by omega
  have hmi : ¬ 128 ≤ (m : Int) := by omega
  have hni : ¬ 1000 < (n : Int) := by omega
  rw [← hm] at hv hc1
  have Hm := Lib.hid hm
  have Hv := Lib.hid hv
  rw [hv] at c5
  clear h1 h3 h4 h5 h6 h7 hiw hzw hsw hbw hr hl hok hq hel hcm hm hv
  go_enter Try.func11, Try.ntmps11
  go_wp2_with fail
  go_region_law (first
    | (go_simp; go_at_call 35; (refine (HC.out _ (by (repeat' (first | assumption | exact Below.refl _ _ | apply Below.drew)))).mono ?_); rintro e w1 ⟨Av, cv, rfl, ho1, hb1⟩; (obtain ⟨x5, y5, K1, K3, KO, KK, KC, KB⟩ := HG.out w1 Av cv (below_then ((Below.refl _ _).drew) hb1) (own_mono ho1 (by simp only [World.drew]; exact Nat.le_refl _))); rw [Hv.out] at x5 y5; clear ho1 hb1)
    | ((refine step_append_app _ rfl _ _ 80 (by rfl) 0 84 iw _ 2 32 Try.underlying80 Hiw.out Hzw.out Hsw.out Hbw.out rfl v m _ (by rw [Hv.out]; rfl) (by rw [Hm.out]; exact K3.out.own) (some ⟨w1.heap.size, 0, none⟩) 1 1 [.slice Av n cv, .int .i64 0] (by rfl) (by rfl) (by intro e; cases e) (new_cells _ _ _ rfl) KC.out (by unfold maxLen; omega) (by omega) (by simp) ?_); intro v' w3 happ; (obtain ⟨Av', cv', rfl, _⟩ := own_shape happ.own); (have hk3 : Kp (fun k => v.ownBlock = some k) _ w3 := Kp.of_row happ.grow (fun g e => e)); (have kb := K1.out.kp hk3 (fun e => K3.out.off K1.out g (.inl e) rfl)); (have k2 := (show w3.cell? ⟨g, 5, none⟩ = some v from kb.cell 5)); (have kf := kb.frozen 5)))
  all_goals
    rw [Hm.out] at happ
    have HF := PS.push (q := (l, 0)) KK.out K1.out K3.out H4.out Hok.out H6.out H7.out happ (by rw [Hl.out]; exact KO.out) (fun k e => .inr (KB.out k e))
    rw [← Hm.out] at HF
    have HF := Lib.hid HF
    clear happ hk3 kb k2 kf x5 y5 c5
    go_wp2
    go_ret
    exact ⟨rfl, HF.out⟩
theorem sPush_any {w : World} {F : Nat → Prop} {g : Nat} {s : Sd} (h : PS w F g s) (A : Option Addr) (n c : Nat) (l : List UInt8) (hr : Rd w w.heap.size A n l) (hcm : s.came + s.queue.length + 1 < 4611686018427387904) :
    Calls Try.prog 11 #[.pointer (some ⟨g, 0, none⟩), .slice A n c] w (SActed w F g (.int .i64 (s.push l).1) (s.push l).2) := by
  by_cases hb : 1000 < n ∨ 128 ≤ s.queue.length
  · have e : (s.push l).2 = s := by
      unfold Sd.push
      split
      · rfl
      split
      · rfl
      · have := hr.1; omega
    rw [e]
    refine (sPush_bad h A n c l hr.1 hb).mono ?_
    rintro e w' ⟨rfl, rfl⟩
    exact ⟨rfl, F, h, Mv.refl _ _⟩
  · have e : s.push l = (0, { s with queue := s.queue ++ [(l, 0)] }) := by
      have := hr.1
      unfold Sd.push
      rw [if_neg (by omega), if_neg (by omega)]
    rw [e]
    exact sPush_go h A n c l hr (by omega) (by omega) hcm
end Go.Proofs.Ytfdlhefbbhblnaa
