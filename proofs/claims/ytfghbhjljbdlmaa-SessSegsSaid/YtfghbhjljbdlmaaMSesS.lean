/- Of the proofs of layer 4, merged: SesS, SesT, SesU, SesV. -/
import Derived.Test.YtfghbhjljbdlmaaM1SesM
import Derived.Test.YtfghbhjljbdlmaaM1Append2
import Derived.Test.YtfghbhjljbdlmaaM1Mid
import Derived.Test.YtfghbhjljbdlmaaM1Clone
import Derived.Test.YtfghbhjljbdlmaaM1Cut

/- The program's sender: New, Push. -/
namespace Go.Proofs.Ytfghbhjljbdlmaa
open Go.RowKit Go.Maps

theorem Try.infoPiece : (Try.prog.info? 147).map (fun i => (i.zero, i.size, i.bytes)) = some (some (.agg #[.slice none 0 0, .int .i64 0]), 2, 32) := by kernel_rfl

set_option maxRecDepth 100000 in
set_option maxHeartbeats 1000000 in
theorem sNew_bad (life window span : Int) (w : World) (h : ¬ (1 ≤ window ∧ window ≤ 64 ∧ 1 ≤ span ∧ span ≤ 1000)) :
    Calls Try.prog 44 #[.int .u64 life, .int .i64 window, .int .i64 span] w fun e w' => e = .returned (.tuple #[.pointer none, .int .i64 2]) ∧ w = w' := by
  have HW := isWindow_any window w
  by_cases hw : 1 ≤ window ∧ window ≤ 64
  · rw [decide_eq_true hw.1, decide_eq_true hw.2] at HW
    have HW := Lib.hid HW
    by_cases h1 : span < 1
    · clear h hw
      go_enter Try.func44, Try.ntmps44
      go_wp2_with fail
      refine HW.out.mono ?_
      rintro e w' ⟨rfl, rfl⟩
      go_wp2
      go_ret2
      exact ⟨rfl, rfl⟩
    · have h2 : 1000 < span := by omega
      clear h hw
      go_enter Try.func44, Try.ntmps44
      go_wp2_with fail
      refine HW.out.mono ?_
      rintro e w' ⟨rfl, rfl⟩
      go_wp2
      go_ret2
      exact ⟨rfl, rfl⟩
  · rw [show (decide (1 ≤ window) && decide (window ≤ 64)) = false by rw [Bool.and_eq_false_iff, decide_eq_false_iff_not, decide_eq_false_iff_not]; omega] at HW
    have HW := Lib.hid HW
    clear h hw
    go_enter Try.func44, Try.ntmps44
    go_wp2_with fail
    refine HW.out.mono ?_
    rintro e w' ⟨rfl, rfl⟩
    go_wp2
    go_ret2
    exact ⟨rfl, rfl⟩
set_option maxRecDepth 100000 in
set_option maxHeartbeats 1000000 in
theorem sNew_any (life window span : Nat) (w : World) (h0 : life < 18446744073709551616) (h1 : 1 ≤ window ∧ window ≤ 64) (h2 : 1 ≤ span ∧ span ≤ 1000) :
    Calls Try.prog 44 #[.int .u64 (life : Int), .int .i64 (window : Int), .int .i64 (span : Int)] w fun e w' => ∃ g F, e = .returned (.tuple #[.pointer (some ⟨g, 0, none⟩), .int .i64 0]) ∧ PS w' F g (Sd.new life window span) ∧ (∀ k, F k → w.heap.size ≤ k) ∧ Below w.heap.size w w' := by
  have HW := isWindow_any window w
  rw [decide_eq_true (by omega), decide_eq_true (by omega)] at HW
  have HW := Lib.hid HW
  have m1 : ¬ (span : Int) < 1 := by omega
  have m2 : ¬ 1000 < (span : Int) := by omega
  have HP : Hid (PS (w.alloc (.cells (sdA (Sd.new life window span) (.slice none 0 0)) 145)) (fun k => k = w.heap.size) w.heap.size (Sd.new life window span)) :=
    Lib.hid ⟨_, [], Bk.new w 145 _, PcRow.nil _ _, rfl, Sd.Ok.new h0 h1 h2, rfl, fun k e => by simp [e]⟩
  unfold sdA Sd.new at HP
  dsimp only at HP
  have HB : Hid (Below w.heap.size w (w.alloc (.cells #[.int .u64 (life : Int), .int .i64 (window : Int), .int .i64 (span : Int), .int .i64 ((0 : Nat) : Int), .int .u64 ((0 : Nat) : Int), .slice none 0 0] 145))) := Lib.hid ((Below.refl _ _).alloc (Nat.le_refl _) _)
  clear h1 h2
  go_enter Try.func44, Try.ntmps44
  go_wp2_with fail
  refine HW.out.mono ?_
  rintro e w' ⟨rfl, rfl⟩
  go_wp2
  go_ret2
  exact ⟨_, _, rfl, HP.out, fun k e => by omega, HB.out⟩

/-- One piece more. -/
theorem PS.push {w0 w w3 : World} {F : Nat → Prop} {g : Nat} {s : Sd} {v v' b : Value} {es : List Pce} {q : List UInt8 × Nat} (hk0 : Kp F w0 w) (h1 : Bk w g 145 (sdA s v)) (h3 : PcRow w F v es) (h4 : es.map (·.1) = s.queue) (h5 : { s with queue := s.queue ++ [q] : Sd }.Ok) (h6 : F g) (h7 : ∀ k, F k → k < w0.heap.size)
    (happ : App w w3 0 147 2 v v' es.length 1 (pcC es) (pcE (q, b))) (hb : w.ownsRow 0 5 1 b q.1.length (u8s q.1)) (hbF : ∀ k, b.ownBlock = some k → F k ∨ w0.heap.size ≤ k) :
    ∃ F', PS (w3.setCell ⟨g, 5, none⟩ v') F' g { s with queue := s.queue ++ [q] } ∧ Mv F F' w0 (w3.setCell ⟨g, 5, none⟩ v') := by
  have hk3 : Kp (fun k => v.ownBlock = some k) w w3 := Kp.of_row happ.grow (fun g e => e)
  have hk4 : Kp (fun k => k = g) w3 (w3.setCell ⟨g, 5, none⟩ v') := Kp.set_ (F := fun k => k = g) (p := ⟨g, 5, none⟩) rfl _
  have hb3 := h1.kp hk3 (fun e => h3.off h1 g (.inl e) rfl)
  have hbl := happ.block
  have hz := hk0.size
  have hne : ∀ (u : Value) (l : List UInt8), w.ownsRow 0 5 1 u l.length (u8s l) → ∀ k, u.ownBlock = some k → ¬ v.ownBlock = some k := fun u l hu k e e2 => by
    rcases own_types_ne hu h3.own (by decide) with h | h
    · rw [h] at e; cases e
    · exact h (e.trans e2.symm)
  have hown := happ.own
  have hFv : ∀ k, v'.ownBlock = some k → F k ∨ w0.heap.size ≤ k := fun k e => by
    rcases hbl with h | h
    · rw [h] at e; exact .inl (h3.foot k e)
    · rw [h] at e; injection e with e; exact .inr (by omega)
  have hlt3 : ∀ k, v'.ownBlock = some k → k < w3.heap.size := fun k e => (hown.lt k e).2
  have hltb : ∀ k, b.ownBlock = some k → k < w.heap.size := fun k e => (hb.lt k e).2
  refine ⟨fun k => F k ∨ v'.ownBlock = some k ∨ b.ownBlock = some k, ⟨v', es ++ [(q, b)], hb3.set_ 5 v', ⟨own_kp ?_ hk4 (fun k e => not_bk7 hb3 hown (by decide) k e), fun e he => own_kp ?_ hk4 (fun k e2 => ?_), fun k e => .inr (.inl e), fun e he k e2 => ?_⟩, by simp [h4], h5, .inl h6, ?_⟩, ⟨?_, fun k e => ?_⟩⟩
  · rw [pcC_app, List.length_append]
    exact hown
  · rcases List.mem_append.1 he with he | he
    · exact own_kp (h3.each e he) hk3 (hne _ _ (h3.each e he))
    · rw [List.mem_singleton.1 he]; exact own_kp hb hk3 (hne _ _ hb)
  · rcases List.mem_append.1 he with he | he
    · exact h3.off h1 k (.inr ⟨e, he, e2⟩)
    · rw [List.mem_singleton.1 he] at e2; exact not_bk7 h1 hb (by decide) k e2
  · rcases List.mem_append.1 he with he | he
    · exact .inl (h3.bods e he k e2)
    · rw [List.mem_singleton.1 he] at e2; exact .inr (.inr e2)
  · intro k e
    have hs3 := hk3.size
    have hs4 := hk4.size
    rcases e with e | e | e
    · have := h7 k e; omega
    · have := hlt3 k e; omega
    · have := hltb k e; omega
  · exact (hk0.trans (hk3.mono fun k e => h3.foot k e)).trans (hk4.mono fun k e => by rw [e]; exact h6)
  · rcases e with e | e | e
    · exact .inl e
    · exact hFv k e
    · exact hbF k e

def bPcs (parts : Array (Nat × Value)) : Sem Value := Instr.buildSlice 143 1 parts
theorem bPcs_eq (parts : Array (Nat × Value)) : Instr.buildSlice 143 1 parts = bPcs parts := rfl
theorem run_bPcs (a b : Value) (W : World) : (bPcs #[(0, .agg #[a, b])]).run Try.prog W = .ok (.slice (some ⟨W.heap.size, 0, none⟩) 1 1) (W.alloc (.cells #[a, b] 147)) := by
  obtain ⟨iw, hiw, hzw, hsw, hbw⟩ := info_parts Try.infoPiece
  exact run_buildSlice_one (P := Try.prog) Try.underlying143 hiw hzw hsw (by rfl) (by omega) (by omega) (.agg #[a, b]) rfl W
attribute [local go_sem ↓] bPcs_eq
attribute [local go_sem] run_bPcs

set_option maxRecDepth 100000 in
set_option maxHeartbeats 400000 in
theorem sPush_nil (v : Value) (w : World) : Calls Try.prog 45 #[.pointer none, v] w fun e w' => e = .returned (.int .i64 1) ∧ w = w' := by
  go_enter Try.func45, Try.ntmps45
  go_wp2
  go_ret
  exact ⟨rfl, rfl⟩
set_option maxRecDepth 100000 in
set_option maxHeartbeats 1000000 in
theorem sPush_bad {w : World} {F : Nat → Prop} {g : Nat} {s : Sd} (h : PS w F g s) (A : Option Addr) (n c : Nat) (l : List UInt8) (hl : l.length = n) (hbad : 1000 < n ∨ 128 ≤ s.queue.length) :
    Calls Try.prog 45 #[.pointer (some ⟨g, 0, none⟩), .slice A n c] w fun e w' => e = .returned (.int .i64 (s.push l).1) ∧ w = w' := by
  obtain ⟨Aq, cq, _, _, c0, c1, c2, c3, c4, c5⟩ := h.cells
  unfold Sd.push
  rw [hl]
  generalize hq : s.queue.length = q at *
  by_cases h1 : 1000 < n
  · have m1 : (1000 : Int) < (n : Int) := by omega
    rw [if_pos h1]
    clear h hbad hq hl
    go_enter Try.func45, Try.ntmps45
    go_wp2
    go_ret
    exact ⟨rfl, rfl⟩
  · have m1 : ¬ (1000 : Int) < (n : Int) := by omega
    have h2 : 128 ≤ q := by omega
    have m2 : (128 : Int) ≤ (q : Int) := by omega
    rw [if_neg h1, if_pos h2]
    clear h hbad hq hl
    go_enter Try.func45, Try.ntmps45
    go_wp2
    go_ret
    exact ⟨rfl, rfl⟩
end Go.Proofs.Ytfghbhjljbdlmaa

/- The program's sender: Push of a piece. -/
namespace Go.Proofs.Ytfghbhjljbdlmaa
open Go.RowKit Go.Maps

attribute [local go_sem ↓] bPcs_eq
attribute [local go_sem] run_bPcs

set_option maxRecDepth 100000 in
set_option maxHeartbeats 4000000 in
theorem sPush_go {w : World} {F : Nat → Prop} {g : Nat} {s : Sd} (h : PS w F g s) (A : Option Addr) (n c : Nat) (l : List UInt8) (hr : Rd w w.heap.size A n l) (hn : n ≤ 1000) (hq : s.queue.length < 128) (hcm : s.came + s.queue.length + 1 < 4611686018427387904) :
    Calls Try.prog 45 #[.pointer (some ⟨g, 0, none⟩), .slice A n c] w (SActed w F g (.int .i64 0) { s with queue := s.queue ++ [(l, 0)] }) := by
  have hl := hr.1
  have hok : { s with queue := s.queue ++ [(l, 0)] : Sd }.Ok := by
    have := h.ok.push hcm l
    unfold Sd.push at this
    rw [if_neg (by omega), if_neg (by omega)] at this
    exact this
  have HC : Hid (∀ W, Below w.heap.size w W → Calls Try.prog 71 #[.slice A n c] W fun e w' => ∃ Av cv, e = .returned (.slice Av n cv) ∧ w'.ownsRow W.heap.size 5 1 (.slice Av n cv) n (u8s l) ∧ Below W.heap.size W w') := by
    refine Lib.hid fun W hb => (cloneB_any A n c W.heap.size l W (by omega) (Nat.le_refl _) (hr.up hb)).mono ?_
    rintro e w' ⟨v, rfl, ho, hb2⟩
    obtain ⟨Av, cv, rfl, _⟩ := own_shape ho
    exact ⟨Av, cv, rfl, ho, hb2⟩
  obtain ⟨v, es, h1, h3, h4, h5, h6, h7⟩ := h
  have hel : es.length = s.queue.length := by rw [← h4]; simp
  obtain ⟨Aq, cq, hv, hc1, hc2⟩ := h3.shape
  have c5 : w.cell? ⟨g, 5, none⟩ = some v := h1.cell 5
  have HG : Hid (∀ w1 Av cv, Below w.heap.size w w1 → w1.ownsRow w.heap.size 5 1 (.slice Av n cv) n (u8s l) → w1.cell? ⟨g, 5, none⟩ = some v ∧ (w1.alloc (.cells #[.slice Av n cv, .int .i64 0] 147)).cell? ⟨g, 5, none⟩ = some v ∧
      Hid (Bk (w1.alloc (.cells #[.slice Av n cv, .int .i64 0] 147)) g 145 (sdA s v)) ∧ Hid (PcRow (w1.alloc (.cells #[.slice Av n cv, .int .i64 0] 147)) F v es) ∧ Hid ((w1.alloc (.cells #[.slice Av n cv, .int .i64 0] 147)).ownsRow 0 5 1 (.slice Av n cv) n (u8s l)) ∧
      Hid (Kp F w (w1.alloc (.cells #[.slice Av n cv, .int .i64 0] 147))) ∧ Hid (∀ u ∈ [Value.slice Av n cv, .int .i64 0], u.oneCell' = true) ∧ Hid (∀ k, (Value.slice Av n cv).ownBlock = some k → w.heap.size ≤ k)) := by
    refine Lib.hid fun w1 Av cv hb ho => ?_
    have hb2 : Below w.heap.size w (w1.alloc (.cells #[.slice Av n cv, .int .i64 0] 147)) := hb.alloc hb.size _
    have hb3 : Below w1.heap.size w1 (w1.alloc (.cells #[.slice Av n cv, .int .i64 0] 147)) := (Below.refl _ _).alloc (Nat.le_refl _) _
    refine ⟨(h1.below hb h1.lt).cell 5, (h1.below hb2 h1.lt).cell 5, Lib.hid (h1.below hb2 h1.lt), Lib.hid (h3.kp (G := fun _ => False) (Kp.of_below hb2) (fun _ _ h => h)), Lib.hid (own_mono (own_below ho hb3 fun k e => (ho.lt k e).2) (Nat.zero_le _)), Lib.hid (Kp.of_below hb2), Lib.hid ?_, Lib.hid fun k e => (ho.lt k e).1⟩
    intro u hu
    simp only [List.mem_cons, List.not_mem_nil, or_false] at hu
    rcases hu with rfl | rfl <;> rfl
  obtain ⟨iw, hiw, hzw, hsw, hbw⟩ := info_parts Try.infoPiece
  have H4 := Lib.hid h4
  have H6 := Lib.hid h6
  have H7 := Lib.hid h7
  have Hok := Lib.hid hok
  have Hiw := Lib.hid hiw
  have Hzw := Lib.hid hzw
  have Hsw := Lib.hid hsw
  have Hbw := Lib.hid hbw
  have Hl := Lib.hid hl
  obtain ⟨m, hm⟩ : ∃ m, m = es.length := ⟨_, rfl⟩
  have hm128 : m < 128 := by omega
  have hmi : ¬ 128 ≤ (m : Int) := by omega
  have hni : ¬ 1000 < (n : Int) := by omega
  rw [← hm] at hv hc1
  have Hm := Lib.hid hm
  have Hv := Lib.hid hv
  rw [hv] at c5
  clear h1 h3 h4 h5 h6 h7 hiw hzw hsw hbw hr hl hok hq hel hcm hm hv
  go_enter Try.func45, Try.ntmps45
  go_wp2_with fail
  go_region_law (first
    | (go_simp; go_at_call 71; (refine (HC.out _ (by (repeat' (first | assumption | exact Below.refl _ _ | apply Below.drew)))).mono ?_); rintro e w1 ⟨Av, cv, rfl, ho1, hb1⟩; (obtain ⟨x5, y5, K1, K3, KO, KK, KC, KB⟩ := HG.out w1 Av cv (below_then ((Below.refl _ _).drew) hb1) (own_mono ho1 (by simp only [World.drew]; exact Nat.le_refl _))); rw [Hv.out] at x5 y5; clear ho1 hb1)
    | ((refine step_append_app _ rfl _ _ 143 (by rfl) 0 147 iw _ 2 32 Try.underlying143 Hiw.out Hzw.out Hsw.out Hbw.out rfl v m _ (by rw [Hv.out]; rfl) (by rw [Hm.out]; exact K3.out.own) (some ⟨w1.heap.size, 0, none⟩) 1 1 [.slice Av n cv, .int .i64 0] (by rfl) (by rfl) (by intro e; cases e) (new_cells _ _ _ rfl) KC.out (by unfold maxLen; omega) (by omega) (by simp) ?_); intro v' w3 happ; (obtain ⟨Av', cv', rfl, _⟩ := own_shape happ.own); (have hk3 : Kp (fun k => v.ownBlock = some k) _ w3 := Kp.of_row happ.grow (fun g e => e)); (have kb := K1.out.kp hk3 (fun e => K3.out.off K1.out g (.inl e) rfl)); (have k2 := (show w3.cell? ⟨g, 5, none⟩ = some v from kb.cell 5)); (have kf := kb.frozen 5)))
  all_goals
    rw [Hm.out] at happ
    have HF := PS.push (q := (l, 0)) KK.out K1.out K3.out H4.out Hok.out H6.out H7.out happ (by rw [Hl.out]; exact KO.out) (fun k e => .inr (KB.out k e))
    rw [← Hm.out] at HF
    have HF := Lib.hid HF
    clear happ hk3 kb k2 kf x5 y5 c5
    go_wp2
    go_ret
    exact ⟨rfl, HF.out⟩
theorem sPush_any {w : World} {F : Nat → Prop} {g : Nat} {s : Sd} (h : PS w F g s) (A : Option Addr) (n c : Nat) (l : List UInt8) (hr : Rd w w.heap.size A n l) (hcm : s.came + s.queue.length + 1 < 4611686018427387904) :
    Calls Try.prog 45 #[.pointer (some ⟨g, 0, none⟩), .slice A n c] w (SActed w F g (.int .i64 (s.push l).1) (s.push l).2) := by
  by_cases hb : 1000 < n ∨ 128 ≤ s.queue.length
  · have e : (s.push l).2 = s := by
      unfold Sd.push
      split
      · rfl
      split
      · rfl
      · have := hr.1; omega
    rw [e]
    refine (sPush_bad h A n c l hr.1 hb).mono ?_
    rintro e w' ⟨rfl, rfl⟩
    exact ⟨rfl, F, h, Mv.refl _ _⟩
  · have e : s.push l = (0, { s with queue := s.queue ++ [(l, 0)] }) := by
      have := hr.1
      unfold Sd.push
      rw [if_neg (by omega), if_neg (by omega)]
    rw [e]
    exact sPush_go h A n c l hr (by omega) (by omega) hcm
end Go.Proofs.Ytfghbhjljbdlmaa

/- slices.Delete of a row's first pieces. -/
namespace Go.Proofs.Ytfghbhjljbdlmaa
open Go.RowKit Go.Maps

theorem pcC_drop (es : List Pce) (k : Nat) : (pcC es).drop (k * 2) = pcC (es.drop k) := flat_drop (s := 2) es (fun _ _ => rfl) k
theorem pcC_one {es : List Pce} : ∀ u ∈ pcC es, (∀ e ∈ es, e.2.oneCell' = true) → u.oneCell' = true := by
  intro u hu h
  unfold pcC at hu
  obtain ⟨e, he, hu⟩ := List.mem_flatMap.1 hu
  simp only [pcE, List.mem_cons, List.not_mem_nil, or_false] at hu
  rcases hu with rfl | rfl
  · exact h e he
  · rfl
theorem PcRow.front {w w3 w4 : World} {F : Nat → Prop} {R n c k : Nat} {es : List Pce} (h : PcRow w F (.slice (some ⟨R, 0, none⟩) n c) es) (hn : n = es.length) (hk : k ≤ n) (hnc : n ≤ c) (ha : AppIn w w3 0 147 2 R 0 (n - k) c [] (pcC (es.drop k))) (vs : List Value) (hvs : vs.length = k * 2) (hw4 : w4 = w3.setCells R ((n - k) * 2) vs) :
    PcRow w4 F (.slice (some ⟨R, 0, none⟩) (n - k) c) (es.drop k) ∧ Kp (fun j => j = R) w w4 := by
  subst hw4
  have hk1 : Kp (fun j => j = R) w w3 := Kp.of_grown ha.grow rfl
  have hk2 : Kp (fun j => j = R) w (w3.setCells R ((n - k) * 2) vs) := hk1.trans (Kp.sets (F := fun j => j = R) rfl _ _ _)
  have hl : (es.drop k).length = n - k := by rw [List.length_drop]; omega
  have hown := ha.own
  rw [Nat.zero_add, List.nil_append] at hown
  have hR : F R := h.foot R rfl
  refine ⟨⟨?_, fun e he => ?_, fun j e => by injection e with e; subst e; exact hR, fun e he => h.bods e (List.mem_of_mem_drop he)⟩, hk2⟩
  · rw [hl]
    exact own_beyond hown _ _ (Nat.le_refl _) (by rw [hvs, ← Nat.add_mul]; exact Nat.mul_le_mul_right _ (by omega))
  · have := h.each e (List.mem_of_mem_drop he)
    refine own_kp this hk2 (fun j e1 e2 => ?_)
    subst e2
    rcases own_types_ne this h.own (by decide) with h' | h'
    · rw [h'] at e1; cases e1
    · exact h' e1

set_option maxRecDepth 100000 in
set_option maxHeartbeats 4000000 in
theorem sDelete_any {w : World} {F : Nat → Prop} {R n c k : Nat} {es : List Pce} (h : PcRow w F (.slice (some ⟨R, 0, none⟩) n c) es) (hn : n = es.length) (hk1 : 1 ≤ k) (hk2 : k ≤ n) (hnc : n ≤ c) :
    Calls Try.prog 92 #[.slice (some ⟨R, 0, none⟩) n c, .int .i64 0, .int .i64 (k : Int)] w fun e w' =>
      e = .returned (.slice (some ⟨R, 0, none⟩) (n - k) c) ∧ PcRow w' F (.slice (some ⟨R, 0, none⟩) (n - k) c) (es.drop k) ∧ Kp (fun j => j = R) w w' := by
  obtain ⟨iw, hiw, hzw, hsw, hbw⟩ := info_parts Try.infoPiece
  have hone : ∀ e ∈ es, e.2.oneCell' = true := fun e he => by
    obtain ⟨A, c, e2, _⟩ := own_shape (h.each e he)
    rw [e2]; rfl
  have h3o := h.own
  rw [← hn] at h3o
  have HZ : Hid (w.drew.ownsRow 0 147 2 (.slice (some ⟨R, 0, none⟩) 0 c) 0 []) := Lib.hid (own_zero h3o)
  have HN : Hid (∀ j u, (pcC (es.drop k))[j]? = some u → w.drew.cell? ((⟨R, k * 2, none⟩ : Addr).add j) = some u) := by
    refine Lib.hid fun j u hu => ?_
    rw [← pcC_drop, List.getElem?_drop] at hu
    have := h3o.cells (g := R) rfl (k * 2 + j) u hu
    rw [Addr.add_lit] at this ⊢
    rw [Nat.zero_add] at this
    exact this
  have HNl : Hid ((pcC (es.drop k)).length = (n - k) * 2) := Lib.hid (by rw [pcC_len, List.length_drop, ← hn])
  have HN1 : Hid (∀ u ∈ pcC (es.drop k), u.oneCell' = true) := Lib.hid fun u hu => pcC_one u hu (fun e he => hone e (List.mem_of_mem_drop he))
  obtain ⟨ad, had⟩ : ∃ ad, (if c = k then some (⟨R, 0, none⟩ : Addr) else some ⟨R, k * 2, none⟩) = some ad := by split <;> exact ⟨_, rfl⟩
  have HN2 : Hid (∀ j u, (pcC (es.drop k))[j]? = some u → w.drew.cell? (ad.add j) = some u) := by
    refine Lib.hid fun j u hu => ?_
    by_cases hck : c = k
    · have hd0 : es.drop k = [] := List.drop_eq_nil_of_le (by omega)
      rw [hd0] at hu
      simp [pcC] at hu
    · rw [if_neg hck] at had
      injection had with had
      rw [← had]
      exact HN.out j u hu
  have H3 := Lib.hid h
  have Hn := Lib.hid hn
  have Hiw := Lib.hid hiw
  have Hsw := Lib.hid hsw
  have Hzw := Lib.hid hzw
  have m1 : ¬ c = 0 := by omega
  have m2 : ¬ n = 0 := by omega
  have m3 : ¬ k = 0 := by omega
  have m4 : (k : Int) ≤ (n : Int) := by omega
  have m5 : ¬ (0 : Int) = (k : Int) := by omega
  have m6 : k ≤ c := by omega
  have m7 : (n : Int) ≤ (c : Int) := by omega
  clear h hiw hzw hsw hbw hone h3o hn HN
  go_enter Try.func92, Try.ntmps92
  go_wp2_with fail
  go_region_law ((refine step_append_in _ rfl _ _ 143 (by rfl) 0 147 iw 2 Try.underlying143 Hiw.out Hsw.out R 0 c _ (by rfl) HZ.out ad (n - k) (c - k) _ (by rfl) HNl.out HN2.out HN1.out (by omega) ?_); intro w3 ha)
  all_goals
    obtain ⟨r, hr⟩ : ∃ r, n - k = r := ⟨_, rfl⟩
    have Hr := Lib.hid hr
    have hrn : r + k = n := by omega
    have hth : w3.there R (r * 2) ((n - r) * 2) := own_there_cap ha.own _ _ (by omega)
    have Hth := Lib.hid hth
    have Ha := Lib.hid ha
    have q1 : r ≤ n := by omega
    have q2 : (r : Int) ≤ (n : Int) := by omega
    have q3 : ¬ c = r := by omega
    have q4 : r ≤ c := by omega
    clear ha hth had HZ HN2 HNl HN1 m1 m2 m3 m4 m5 m6
    simp only [hr]
    clear hr
    have hz1 : ∀ u ∈ (Value.agg #[.slice none 0 0, .int .i64 0]).cells, u.oneCell' = true := by
      intro u hu
      simp [Value.cells] at hu
      rcases hu with rfl | rfl <;> rfl
    have hvs : (Builtin.zeroCells (Value.agg #[.slice none 0 0, .int .i64 0]).cells (n - r)).toList.length = k * 2 := by
      have e : n - r = k := by omega
      rw [e]; simp [Builtin.zeroCells, Value.cells]
    have Hvs := Lib.hid hvs
    have Hz1 := Lib.hid hz1
    clear hvs hz1
    obtain ⟨vs, hvv⟩ : ∃ vs, vs = (Builtin.zeroCells (Value.agg #[.slice none 0 0, .int .i64 0]).cells (n - r)).toList := ⟨_, rfl⟩
    obtain ⟨w4, hw4⟩ : ∃ w4, w4 = w3.setCells R (r * 2) vs := ⟨_, rfl⟩
    have hrow := (H3.out.kp (G := fun _ => False) (Kp.of_below ((Below.refl w.heap.size w).drew)) (fun _ _ h => h)).front (w4 := w4) Hn.out hk2 hnc Ha.out vs (by rw [hvv]; exact Hvs.out) (by rw [Hr.out]; exact hw4)
    have HR := Lib.hid hrow
    have Hvv := Lib.hid hvv
    have Hw4 := Lib.hid hw4
    clear hvv hw4 hrow
    go_wp2_with ((refine wpList_clear_in rfl _ 143 rfl 147 iw _ Try.underlying143 Hiw.out Hzw.out Hz1.out R (r * 2) (n - r) (c - r) (by omega) (by rfl) Hth.out ?_); rw [← Hvv.out, ← Hw4.out])
    go_ret
    have hR := HR.out
    rw [Hr.out] at hR ⊢
    exact ⟨rfl, hR.1, (Kp.of_below ((Below.refl _ _).drew)).trans hR.2⟩
end Go.Proofs.Ytfghbhjljbdlmaa

/- The program's sender: Hear. -/
namespace Go.Proofs.Ytfghbhjljbdlmaa
open Go.RowKit Go.Maps

theorem PS.heard {w W w3 : World} {F : Nat → Prop} {g R n c k seq : Nat} {s : Sd} {es : List Pce} (hb : Below w.heap.size w W) (h1 : Bk w g 145 (sdA s (.slice (some ⟨R, 0, none⟩) n c))) (h3 : PcRow w F (.slice (some ⟨R, 0, none⟩) n c) es) (h4 : es.map (·.1) = s.queue)
    (h5 : { s with came := seq, queue := s.queue.drop k : Sd }.Ok) (h6 : F g) (h7 : ∀ j, F j → j < w.heap.size) (hr : PcRow w3 F (.slice (some ⟨R, 0, none⟩) (n - k) c) (es.drop k)) (hk : Kp (fun j => j = R) W w3) :
    PS ((w3.setCell ⟨g, 5, none⟩ (.slice (some ⟨R, 0, none⟩) (n - k) c)).setCell ⟨g, 4, none⟩ (.int .u64 (seq : Int))) F g { s with came := seq, queue := s.queue.drop k } ∧
      Mv F F w ((w3.setCell ⟨g, 5, none⟩ (.slice (some ⟨R, 0, none⟩) (n - k) c)).setCell ⟨g, 4, none⟩ (.int .u64 (seq : Int))) := by
  have hRF : F R := h3.foot R rfl
  have hRg : R ≠ g := h3.off h1 R (.inl rfl)
  have hk1 : Kp F w w3 := (Kp.of_below hb).trans (hk.mono fun j e => by rw [e]; exact hRF)
  have hk2 : Kp (fun j => j = g) w3 ((w3.setCell ⟨g, 5, none⟩ (.slice (some ⟨R, 0, none⟩) (n - k) c)).setCell ⟨g, 4, none⟩ (.int .u64 (seq : Int))) := (Kp.set_ (F := fun j => j = g) (p := ⟨g, 5, none⟩) rfl _).trans (Kp.set_ (F := fun j => j = g) (p := ⟨g, 4, none⟩) rfl _)
  have hb3 := (h1.below hb h1.lt).kp hk (fun e => hRg e.symm)
  have hb5 := (hb3.set_ 5 (.slice (some ⟨R, 0, none⟩) (n - k) c)).set_ 4 (.int .u64 (seq : Int))
  have hk3 := hk1.trans (hk2.mono fun j e => by rw [e]; exact h6)
  refine ⟨⟨_, es.drop k, hb5, ⟨own_kp hr.own hk2 fun j e => ?_, fun e he => own_kp (hr.each e he) hk2 fun j e2 => ?_, hr.foot, hr.bods⟩, by rw [List.map_drop, h4], h5, h6, fun j e => Nat.lt_of_lt_of_le (h7 j e) hk3.size⟩, Mv.of hk3⟩
  · injection e with e
    rw [← e]; exact hRg
  · exact not_bk7 hb3 (hr.each e he) (by decide) j e2

theorem quiet_add {P : Program} {f : FuncId} {args : Array Value} {w : World} {a b : Nat} {v : Value} (h : Calls P f args (w.drewN (a + b)) fun e w' => e = .returned v ∧ ∃ m, w' = (w.drewN (a + b)).drewN m) : Calls P f args (w.drewN (a + b)) fun e w'' => e = .returned v ∧ ∃ n, w'' = w.drewN (a + n) :=
  h.mono fun _ _ ⟨he, m, hm⟩ => ⟨he, b + m, by rw [hm, World.drewN_drewN, Nat.add_assoc]⟩
set_option maxRecDepth 100000 in
set_option maxHeartbeats 4000000 in
theorem sHear_nil (v0 v1 v2 v3 : Value) (w : World) : Calls Try.prog 50 #[.pointer none, .agg #[v0, v1, v2, v3]] w fun e w' => e = .returned (.int .i64 1) ∧ Below w.heap.size w w' := by
  go_enter Try.func50, Try.ntmps50
  go_wp2
  go_ret
  exact ⟨rfl, (Below.refl _ _).alloc (Nat.le_refl _) _⟩

set_option maxRecDepth 100000 in
set_option maxHeartbeats 8000000 in
theorem sHear_any {w : World} {F : Nat → Prop} {g : Nat} {s : Sd} (h : PS w F g s) (m : Sg) (hm : m.Ok) (A : Option Addr) (n c : Nat) (hl : m.body.length = n) :
    Calls Try.prog 50 #[.pointer (some ⟨g, 0, none⟩), sgV m (.slice A n c)] w (SActed w F g (.int .i64 (s.hear m).1) (s.hear m).2) := by
  obtain ⟨W1, hW1⟩ : ∃ W1, W1 = w.alloc (.cells (sgA m (.slice A n c)) 60) := ⟨_, rfl⟩
  have hb1 : Below w.heap.size w W1 := by rw [hW1]; exact (Below.refl _ _).alloc (Nat.le_refl _) _
  have hk1 : Bk W1 w.heap.size 60 (sgA m (.slice A n c)) := by rw [hW1]; exact Bk.new w 60 _
  have HR := right_any m A n c W1 hl
  have HF : Hid (∀ r W, Below w.heap.size w W → SActed w F g r s (.returned r) W) := Lib.hid fun r W hb => ⟨rfl, F, h.below hb, Mv.of (Kp.of_below hb)⟩
  obtain ⟨Aq, cq, hq1, hq2, _⟩ := h.cells
  have HG : Hid (∀ W, Below W1.heap.size W1 W → W.cell? ⟨w.heap.size, 0, none⟩ = some (.int .u64 (m.life : Int)) ∧ W.cell? ⟨w.heap.size, 1, none⟩ = some (.int .u64 (m.seq : Int)) ∧ W.cell? ⟨w.heap.size, 2, none⟩ = some (.bool m.ack) ∧ W.cell? ⟨w.heap.size, 3, none⟩ = some (.slice A n c) ∧
      W.cell? ⟨g, 0, none⟩ = some (.int .u64 (s.life : Int)) ∧ W.cell? ⟨g, 4, none⟩ = some (.int .u64 (s.came : Int)) ∧ Below w.heap.size w W ∧
      Hid (∀ q, Calls Try.prog 91 #[.pointer (some ⟨g, 0, none⟩)] (W.drewN q) fun e w' => e = .returned (.int .u64 ((s.came + s.queue.length : Nat) : Int)) ∧ ∃ m, w' = (W.drewN q).drewN m)) := by
    refine Lib.hid fun W hb => ?_
    have hbw := below_then hb1 hb
    have hk := hk1.below hb hk1.lt
    have hp := h.below hbw
    obtain ⟨_, _, _, _, c0, c1, c2, c3, c4, c5⟩ := hp.cells
    exact ⟨hk.cell 0, hk.cell 1, hk.cell 2, hk.cell 3, c0, c4, hbw, Lib.hid fun q => sLast_any (h.below (bel_drewN hbw q))⟩
  have hoks := (h.ok.hear m)
  have hokc := h.ok.came
  have hml := hm.life
  have hms := hm.seq
  have hsl := h.ok.life
  have HPS := Lib.hid h
  have hk0 := (HG.out W1 (Below.refl _ _))
  obtain ⟨k0, k1, k2, k3, k4, k5, _, _⟩ := hk0
  unfold Sd.hear at hoks ⊢
  unfold sgV at HR ⊢
  unfold sgA at hW1
  obtain ⟨ml, mq, ma, mb⟩ := m
  dsimp only at HR HG hoks hW1 k0 k1 k2 hml hms ⊢
  generalize hrt : ({ life := ml, seq := mq, ack := ma, body := mb } : Sg).right = rt at *
  have HR := Lib.hid HR
  have HW1 := Lib.hid hW1
  clear h hb1 hk1 hW1 hrt hm
  cases rt with
  | false =>
    rw [if_pos rfl]
    clear hoks hokc hml hms hsl HPS
    go_enter Try.func50, Try.ntmps50
    go_wp2_with fail
    rw [← HW1.out]
    refine HR.out.mono ?_
    rintro e w2 ⟨rfl, hb2⟩
    have HF2 := Lib.hid (HF.out (.int .i64 2) w2 (HG.out w2 hb2).2.2.2.2.2.2.1)
    go_wp2
    go_ret
    exact HF2.out
  | true =>
    rw [if_neg (by decide)] at hoks ⊢
    cases ma with
    | false =>
      rw [if_pos rfl]
      clear hoks hokc hml hms hsl HPS
      go_enter Try.func50, Try.ntmps50
      go_wp2_with fail
      rw [← HW1.out]
      refine HR.out.mono ?_
      rintro e w2 ⟨rfl, hb2⟩
      obtain ⟨k0, k1, k2, k3, k4, k5, hbw, HL⟩ := HG.out w2 hb2
      have HF2 := Lib.hid (HF.out (.int .i64 71) w2 hbw)
      clear hbw hb2
      go_wp2
      go_ret
      exact HF2.out
    | true =>
      rw [if_neg (by decide)] at hoks ⊢
      by_cases hlf : ml = s.life
      · rw [if_neg (by simpa using hlf)] at hoks ⊢
        subst hlf
        by_cases h11 : s.came + s.queue.length < mq
        · rw [if_pos h11]
          have m11 : ((s.came + s.queue.length : Nat) : Int) < (mq : Int) := by omega
          clear hoks HPS
          generalize ((s.came + s.queue.length : Nat) : Int) = T at *
          go_enter Try.func50, Try.ntmps50
          go_wp2_with fail
          rw [← HW1.out]
          refine HR.out.mono ?_
          rintro e w2 ⟨rfl, hb2⟩
          obtain ⟨k0, k1, k2, k3, k4, k5, hbw, HL⟩ := HG.out w2 hb2
          have HF2 := Lib.hid (fun W (hb : Below w.heap.size w2 W) => HF.out (.int .i64 11) W (hbw.trans hb))
          clear hbw hb2
          go_wp2_with fail
          go_quiet (fail)
          go_wp2_with fail
          go_quiet ((go_at_call 91; exact quiet_add (HL.out _)))
          go_wp2
          go_ret
          exact HF2.out _ (by (repeat' (first | exact Below.refl _ _ | apply bel_drewN)))
        · rw [if_neg h11] at hoks ⊢
          have m11 : ¬ ((s.came + s.queue.length : Nat) : Int) < (mq : Int) := by omega
          by_cases hcm : s.came < mq
          · rw [if_pos hcm] at hoks ⊢
            have mcm : (s.came : Int) < (mq : Int) := by omega
            obtain ⟨v, es, h1, h3, h4, h5, h6, h7⟩ := HPS.out
            have hel : es.length = s.queue.length := by rw [← h4]; simp
            obtain ⟨R, cc, rfl, hN1, hN2, hx1, hx2⟩ := h3.cell 0 (by omega)
            clear hx1 hx2
            obtain ⟨N, hN⟩ : ∃ N, N = es.length := ⟨_, rfl⟩
            obtain ⟨k, hk⟩ : ∃ k, mq - s.came = k := ⟨_, rfl⟩
            rw [← hN] at h1 h3 hN1
            have hkN : k ≤ N := by omega
            have hk1 : 1 ≤ k := by omega
            have e1 : IntKind.u64.wrap ((mq : Int) - (s.came : Int)) = (k : Int) := by rw [IntKind.wrap_u64]; omega
            have e2 : IntKind.i64.wrap (k : Int) = (k : Int) := by rw [IntKind.wrap_i64]; omega
            have hR : R < w.heap.size := h7 R (h3.foot R rfl)
            have hRg : R ≠ g := h3.off h1 R (.inl rfl)
            rw [hk] at hoks ⊢
            have hgl := h1.lt
            have HD : Hid (∀ W, Below W1.heap.size W1 W → Calls Try.prog 92 #[.slice (some ⟨R, 0, none⟩) N cc, .int .i64 0, .int .i64 (k : Int)] W fun e w3 =>
                e = .returned (.slice (some ⟨R, 0, none⟩) (N - k) cc) ∧ w3.cell? ⟨g, 5, none⟩ = some (.slice (some ⟨R, 0, none⟩) N cc) ∧ w3.cell? ⟨g, 4, none⟩ = some (.int .u64 (s.came : Int)) ∧ w3.cell? ⟨w.heap.size, 1, none⟩ = some (.int .u64 (mq : Int)) ∧ w3.frozen? ⟨g, 5, none⟩ = false ∧ w3.frozen? ⟨g, 4, none⟩ = false ∧
                Hid (SActed w F g (.int .i64 0) { s with came := mq, queue := s.queue.drop k } (.returned (.int .i64 0)) ((w3.setCell ⟨g, 5, none⟩ (.slice (some ⟨R, 0, none⟩) (N - k) cc)).setCell ⟨g, 4, none⟩ (.int .u64 (mq : Int))))) := by
              refine Lib.hid fun W hb => ?_
              have hbw := (HG.out W hb).2.2.2.2.2.2.1
              refine (sDelete_any (h3.kp (G := fun _ => False) (Kp.of_below hbw) (fun _ _ h => h)) hN hk1 hkN hN1).mono ?_
              rintro e w3 ⟨rfl, hr3, hkp⟩
              have hb3 := (h1.below hbw hgl).kp hkp (fun e => hRg e.symm)
              have hcs : W.cell? ⟨w.heap.size, 1, none⟩ = some (.int .u64 (mq : Int)) := (HG.out W hb).2.1
              have hp := PS.heard (seq := mq) hbw h1 h3 h4 hoks h6 h7 hr3 hkp
              exact ⟨rfl, hb3.cell 5, hb3.cell 4, cell_kp hcs hkp (by show ¬ w.heap.size = R; omega), hb3.frozen 5, hb3.frozen 4, Lib.hid ⟨rfl, F, hp.1, hp.2⟩⟩
            have HG5 : Hid (∀ W, Below W1.heap.size W1 W → W.cell? ⟨g, 5, none⟩ = some (.slice (some ⟨R, 0, none⟩) N cc)) := Lib.hid fun W hb => (h1.below (HG.out W hb).2.2.2.2.2.2.1 hgl).cell 5
            clear hoks HPS h1 h3 h4 h5 h6 h7 hel hokc hN hk hN2 hkN hk1
            generalize ((s.came + s.queue.length : Nat) : Int) = T at *
            go_enter Try.func50, Try.ntmps50
            go_wp2_with fail
            rw [← HW1.out]
            refine HR.out.mono ?_
            rintro e w2 ⟨rfl, hb2⟩
            obtain ⟨k0, k1, k2, k3, k4, k5, hbw, HL⟩ := HG.out w2 hb2
            have k6 := HG5.out w2 hb2
            have HD2 := Lib.hid (fun W (hb : Below w2.heap.size w2 W) => HD.out W (below_then hb2 hb))
            clear hbw hb2
            go_wp2_with fail
            go_quiet (fail)
            go_wp2_with fail
            go_quiet ((go_at_call 91; exact quiet_add (HL.out _)))
            go_wp2_with fail
            go_quiet (fail)
            go_wp2_with fail
            go_region_law ((go_simp; go_at_call 92; refine (HD2.out _ (by (repeat' (first | exact Below.refl _ _ | apply bel_drewN | apply Below.drew)))).mono ?_; rintro e w3 ⟨rfl, x5, x4, xs, f5, f4, HF2⟩))
            all_goals
              go_wp2
              go_ret
              exact HF2.out
          · rw [if_neg hcm]
            have mcm : ¬ (s.came : Int) < (mq : Int) := by omega
            clear hoks HPS
            generalize ((s.came + s.queue.length : Nat) : Int) = T at *
            go_enter Try.func50, Try.ntmps50
            go_wp2_with fail
            rw [← HW1.out]
            refine HR.out.mono ?_
            rintro e w2 ⟨rfl, hb2⟩
            obtain ⟨k0, k1, k2, k3, k4, k5, hbw, HL⟩ := HG.out w2 hb2
            have HF2 := Lib.hid (fun W (hb : Below w.heap.size w2 W) => HF.out (.int .i64 0) W (hbw.trans hb))
            clear hbw hb2
            go_wp2_with fail
            go_quiet (fail)
            go_wp2_with fail
            go_quiet ((go_at_call 91; exact quiet_add (HL.out _)))
            go_wp2_with fail
            go_quiet (fail)
            go_wp2
            go_ret
            exact HF2.out _ (by (repeat' (first | exact Below.refl _ _ | apply bel_drewN)))
      · rw [if_pos hlf]
        have hne : ¬ (ml : Int) = (s.life : Int) := by omega
        clear hoks hokc hml hms hsl HPS
        go_enter Try.func50, Try.ntmps50
        go_wp2_with fail
        rw [← HW1.out]
        refine HR.out.mono ?_
        rintro e w2 ⟨rfl, hb2⟩
        obtain ⟨k0, k1, k2, k3, k4, k5, hbw, HL⟩ := HG.out w2 hb2
        have HF2 := Lib.hid (fun q => HF.out (.int .i64 70) (w2.drewN q) (bel_drewN hbw q))
        clear hbw hb2
        go_wp2_with fail
        go_quiet (fail)
        go_wp2
        go_ret
        exact HF2.out _
end Go.Proofs.Ytfghbhjljbdlmaa
