/- The program's sender: New, Push. -/
import Derived.Test.YtfdlhefbbhblnaaSesM
import Derived.Test.YtfdlhefbbhblnaaAppend2
import Derived.Test.YtfdlhefbbhblnaaMid
import Derived.Test.YtfdlhefbbhblnaaClone
namespace Go.Proofs.Ytfdlhefbbhblnaa
open Go.RowKit Go.Maps

theorem Try.infoPiece : (Try.prog.info? 84).map (fun i => (i.zero, i.size, i.bytes)) = some (some (.agg #[.slice none 0 0, .int .i64 0]), 2, 32) := by kernel_rfl

set_option maxRecDepth 100000 in
set_option maxHeartbeats 1000000 in
theorem sNew_bad (life window span : Int) (w : World) (h : ¬ (1 ≤ window ∧ window ≤ 64 ∧ 1 ≤ span ∧ span ≤ 1000)) :
    Calls Try.prog 7 #[.int .u64 life, .int .i64 window, .int .i64 span] w fun e w' => e = .returned (.tuple #[.pointer none, .int .i64 2]) ∧ w = w' := by
  have HW := isWindow_any window w
  by_cases hw : 1 ≤ window ∧ window ≤ 64
  · rw [decide_eq_true hw.1, decide_eq_true hw.2] at HW
    have HW := Lib.hid HW
    by_cases h1 : span < 1
    · clear h hw
      go_enter Try.func7, Try.ntmps7
      go_wp2_with fail
      refine HW.out.mono ?_
      rintro e w' ⟨rfl, rfl⟩
      go_wp2
      go_ret2
      exact ⟨rfl, rfl⟩
    · have h2 : 1000 < span := by omega
      clear h hw
      go_enter Try.func7, Try.ntmps7
      go_wp2_with fail
      refine HW.out.mono ?_
      rintro e w' ⟨rfl, rfl⟩
      go_wp2
      go_ret2
      exact ⟨rfl, rfl⟩
  · rw [show (decide (1 ≤ window) && decide (window ≤ 64)) = false by rw [Bool.and_eq_false_iff, decide_eq_false_iff_not, decide_eq_false_iff_not]; omega] at HW
    have HW := Lib.hid HW
    clear h hw
    go_enter Try.func7, Try.ntmps7
    go_wp2_with fail
    refine HW.out.mono ?_
    rintro e w' ⟨rfl, rfl⟩
    go_wp2
    go_ret2
    exact ⟨rfl, rfl⟩
set_option maxRecDepth 100000 in
set_option maxHeartbeats 1000000 in
theorem sNew_any (life window span : Nat) (w : World) (h0 : life < 18446744073709551616) (h1 : 1 ≤ window ∧ window ≤ 64) (h2 : 1 ≤ span ∧ span ≤ 1000) :
    Calls Try.prog 7 #[.int .u64 (life : Int), .int .i64 (window : Int), .int .i64 (span : Int)] w fun e w' => ∃ g F, e = .returned (.tuple #[.pointer (some ⟨g, 0, none⟩), .int .i64 0]) ∧ PS w' F g (Sd.new life window span) ∧ (∀ k, F k → w.heap.size ≤ k) ∧ Below w.heap.size w w' := by
  have HW := isWindow_any window w
  rw [decide_eq_true (by omega), decide_eq_true (by omega)] at HW
  have HW := Lib.hid HW
  have m1 : ¬ (span : Int) < 1 := by omega
  have m2 : ¬ 1000 < (span : Int) := by omega
  have HP : Hid (PS (w.alloc (.cells (sdA (Sd.new life window span) (.slice none 0 0)) 82)) (fun k => k = w.heap.size) w.heap.size (Sd.new life window span)) :=
    Lib.hid ⟨_, [], Bk.new w 82 _, PcRow.nil _ _, rfl, Sd.Ok.new h0 h1 h2, rfl, fun k e => by simp [e]⟩
  unfold sdA Sd.new at HP
  dsimp only at HP
  have HB : Hid (Below w.heap.size w (w.alloc (.cells #[.int .u64 (life : Int), .int .i64 (window : Int), .int .i64 (span : Int), .int .i64 ((0 : Nat) : Int), .int .u64 ((0 : Nat) : Int), .slice none 0 0] 82))) := Lib.hid ((Below.refl _ _).alloc (Nat.le_refl _) _)
  clear h1 h2
  go_enter Try.func7, Try.ntmps7
  go_wp2_with fail
  refine HW.out.mono ?_
  rintro e w' ⟨rfl, rfl⟩
  go_wp2
  go_ret2
  exact ⟨_, _, rfl, HP.out, fun k e => by omega, HB.out⟩

/-- One piece more. -/
theorem PS.push {w0 w w3 : World} {F : Nat → Prop} {g : Nat} {s : Sd} {v v' b : Value} {es : List Pce} {q : List UInt8 × Nat} (hk0 : Kp F w0 w) (h1 : Bk w g 82 (sdA s v)) (h3 : PcRow w F v es) (h4 : es.map (·.1) = s.queue) (h5 : { s with queue := s.queue ++ [q] : Sd }.Ok) (h6 : F g) (h7 : ∀ k, F k → k < w0.heap.size)
    (happ : App w w3 0 84 2 v v' es.length 1 (pcC es) (pcE (q, b))) (hb : w.ownsRow 0 5 1 b q.1.length (u8s q.1)) (hbF : ∀ k, b.ownBlock = some k → F k ∨ w0.heap.size ≤ k) :
    ∃ F', PS (w3.setCell ⟨g, 5, none⟩ v') F' g { s with queue := s.queue ++ [q] } ∧ Mv F F' w0 (w3.setCell ⟨g, 5, none⟩ v') := by
  have hk3 : Kp (fun k => v.ownBlock = some k) w w3 := Kp.of_row happ.grow (fun g e => e)
  have hk4 : Kp (fun k => k = g) w3 (w3.setCell ⟨g, 5, none⟩ v') := Kp.set_ (F := fun k => k = g) (p := ⟨g, 5, none⟩) rfl _
  have hb3 := h1.kp hk3 (fun e => h3.off h1 g (.inl e) rfl)
  have hbl := happ.block
  have hz := hk0.size
  have hne : ∀ (u : Value) (l : List UInt8), w.ownsRow 0 5 1 u l.length (u8s l) → ∀ k, u.ownBlock = some k → ¬ v.ownBlock = some k := fun u l hu k e e2 => by
    rcases own_types_ne hu h3.own (by decide) with h | h
    · rw [h] at e; cases e
    · exact h (e.trans e2.symm)
  have hown := happ.own
  have hFv : ∀ k, v'.ownBlock = some k → F k ∨ w0.heap.size ≤ k := fun k e => by
    rcases hbl with h | h
    · rw [h] at e; exact .inl (h3.foot k e)
    · rw [h] at e; injection e with e; exact .inr (by omega)
  have hlt3 : ∀ k, v'.ownBlock = some k → k < w3.heap.size := fun k e => (hown.lt k e).2
  have hltb : ∀ k, b.ownBlock = some k → k < w.heap.size := fun k e => (hb.lt k e).2
  refine ⟨fun k => F k ∨ v'.ownBlock = some k ∨ b.ownBlock = some k, ⟨v', es ++ [(q, b)], hb3.set_ 5 v', ⟨own_kp ?_ hk4 (fun k e => not_bk7 hb3 hown (by decide) k e), fun e he => own_kp ?_ hk4 (fun k e2 => ?_), fun k e => .inr (.inl e), fun e he k e2 => ?_⟩, by simp [h4], h5, .inl h6, ?_⟩, ⟨?_, fun k e => ?_⟩⟩
  · rw [pcC_app, List.length_append]
    exact hown
  · rcases List.mem_append.1 he with he | he
    · exact own_kp (h3.each e he) hk3 (hne _ _ (h3.each e he))
    · rw [List.mem_singleton.1 he]; exact own_kp hb hk3 (hne _ _ hb)
  · rcases List.mem_append.1 he with he | he
    · exact h3.off h1 k (.inr ⟨e, he, e2⟩)
    · rw [List.mem_singleton.1 he] at e2; exact not_bk7 h1 hb (by decide) k e2
  · rcases List.mem_append.1 he with he | he
    · exact .inl (h3.bods e he k e2)
    · rw [List.mem_singleton.1 he] at e2; exact .inr (.inr e2)
  · intro k e
    have hs3 := hk3.size
    have hs4 := hk4.size
    rcases e with e | e | e
    · have := h7 k e; omega
    · have := hlt3 k e; omega
    · have := hltb k e; omega
  · exact (hk0.trans (hk3.mono fun k e => h3.foot k e)).trans (hk4.mono fun k e => by rw [e]; exact h6)
  · rcases e with e | e | e
    · exact .inl e
    · exact hFv k e
    · exact hbF k e

def bPcs (parts : Array (Nat × Value)) : Sem Value := Instr.buildSlice 80 1 parts
theorem bPcs_eq (parts : Array (Nat × Value)) : Instr.buildSlice 80 1 parts = bPcs parts := rfl
theorem run_bPcs (a b : Value) (W : World) : (bPcs #[(0, .agg #[a, b])]).run Try.prog W = .ok (.slice (some ⟨W.heap.size, 0, none⟩) 1 1) (W.alloc (.cells #[a, b] 84)) := by
  obtain ⟨iw, hiw, hzw, hsw, hbw⟩ := info_parts Try.infoPiece
  exact run_buildSlice_one (P := Try.prog) Try.underlying80 hiw hzw hsw (by rfl) (by omega) (by omega) (.agg #[a, b]) rfl W
attribute [local go_sem ↓] bPcs_eq
attribute [local go_sem] run_bPcs

set_option maxRecDepth 100000 in
set_option maxHeartbeats 400000 in
theorem sPush_nil (v : Value) (w : World) : Calls Try.prog 11 #[.pointer none, v] w fun e w' => e = .returned (.int .i64 1) ∧ w = w' := by
  go_enter Try.func11, Try.ntmps11
  go_wp2
  go_ret
  exact ⟨rfl, rfl⟩
set_option maxRecDepth 100000 in
set_option maxHeartbeats 1000000 in
theorem sPush_bad {w : World} {F : Nat → Prop} {g : Nat} {s : Sd} (h : PS w F g s) (A : Option Addr) (n c : Nat) (l : List UInt8) (hl : l.length = n) (hbad : 1000 < n ∨ 128 ≤ s.queue.length) :
    Calls Try.prog 11 #[.pointer (some ⟨g, 0, none⟩), .slice A n c] w fun e w' => e = .returned (.int .i64 (s.push l).1) ∧ w = w' := by
  obtain ⟨Aq, cq, _, _, c0, c1, c2, c3, c4, c5⟩ := h.cells
  unfold Sd.push
  rw [hl]
  generalize hq : s.queue.length = q at *
  by_cases h1 : 1000 < n
  · have m1 : (1000 : Int) < (n : Int) := by omega
    rw [if_pos h1]
    clear h hbad hq hl
    go_enter Try.func11, Try.ntmps11
    go_wp2
    go_ret
    exact ⟨rfl, rfl⟩
  · have m1 : ¬ (1000 : Int) < (n : Int) := by omega
    have h2 : 128 ≤ q := by omega
    have m2 : (128 : Int) ≤ (q : Int) := by omega
    rw [if_neg h1, if_pos h2]
    clear h hbad hq hl
    go_enter Try.func11, Try.ntmps11
    go_wp2
    go_ret
    exact ⟨rfl, rfl⟩
end Go.Proofs.Ytfdlhefbbhblnaa
