/- The document's receiver: Hear of what is refused. -/
import Derived.Test.YtfdlhefbbhblnaaSesDh
namespace Go.Proofs.Ytfdlhefbbhblnaa
open Go.RowKit Go.Maps

set_option maxRecDepth 100000 in
set_option maxHeartbeats 4000000 in
theorem dRHear_err {w : World} {F : Nat → Prop} {g K : Nat} {r : Rc} (h : DR w F g r K) (m : Sg) (A : Option Addr) (n c : Nat) (hl : m.body.length = n) (hrf : r.refuse m ≠ 0) :
    Calls Try.prog 24 #[.pointer (some ⟨g, 0, none⟩), sgV m (.slice A n c)] w fun e w' => e = .returned (.tuple #[.slice none 0 0, sgV Sg.zero (.slice none 0 0), .int .i64 (r.refuse m)]) ∧ Below w.heap.size w w' := by
  obtain ⟨W1, hW1⟩ : ∃ W1, W1 = w.alloc (.cells (sgA m (.slice A n c)) 36) := ⟨_, rfl⟩
  obtain ⟨W2, hW2⟩ : ∃ W2, W2 = W1.alloc (.cells #[.int .u64 0, .int .u64 0, .bool false, .slice none 0 0] 36) := ⟨_, rfl⟩
  have hb1 : Below w.heap.size w W1 := by rw [hW1]; exact (Below.refl _ _).alloc (Nat.le_refl _) _
  have hs1 : W1.heap.size = w.heap.size + 1 := by rw [hW1]; simp
  have hb2 : Below W1.heap.size W1 W2 := by rw [hW2]; exact (Below.refl _ _).alloc (Nat.le_refl _) _
  have hk1 : Bk W1 w.heap.size 36 (sgA m (.slice A n c)) := by rw [hW1]; exact Bk.new w 36 _
  have hk2 : Bk W2 (w.heap.size + 1) 36 rsZ := by
    rw [hW2, ← hs1]; exact Bk.new W1 36 _
  have hk12 := hk1.below hb2 hk1.lt
  have hb12 := below_then hb1 hb2
  have HR := dright_any m A n c W2 hl
  have HG : Hid (∀ W, Below W2.heap.size W2 W → W.cell? ⟨w.heap.size, 0, none⟩ = some (.int .u64 (m.life : Int)) ∧ W.cell? ⟨w.heap.size, 2, none⟩ = some (.bool m.ack) ∧ W.cell? ⟨g, 1, none⟩ = some (.int .u64 (r.life : Int))) := by
    refine Lib.hid fun W hb => ?_
    have hk := hk12.below hb hk12.lt
    exact ⟨hk.cell 0, hk.cell 2, (h.below (below_then hb12 hb)).cells.1⟩
  have hk0 : W2.cell? ⟨w.heap.size, 0, none⟩ = some (.int .u64 (m.life : Int)) := hk12.cell 0
  have hk1' : W2.cell? ⟨w.heap.size, 1, none⟩ = some (.int .u64 (m.seq : Int)) := hk12.cell 1
  have hk2' : W2.cell? ⟨w.heap.size, 2, none⟩ = some (.bool m.ack) := hk12.cell 2
  have hk3' : W2.cell? ⟨w.heap.size, 3, none⟩ = some (.slice A n c) := hk12.cell 3
  unfold Rc.refuse at hrf ⊢
  unfold sgV at HR ⊢
  unfold sgA at hW1
  subst hW1
  have HW2 := Lib.hid hW2
  have HR := Lib.hid HR
  have Hb12 := Lib.hid hb12
  have Hk2 := Lib.hid hk2
  obtain ⟨ml, mq, ma, mb⟩ := m
  dsimp only at HR HG hrf hk0 hk1' hk2' hk3' HW2 ⊢
  generalize hrt : ({ life := ml, seq := mq, ack := ma, body := mb } : Sg).right = rt at *
  clear hb1 hb2 hk1 hk2 hk12 hb12 hW2 hs1 hrt h
  cases rt with
  | false =>
    clear hrf
    rw [if_pos rfl]
    go_enter Try.func24, Try.ntmps24
    go_wp2_with fail
    rw [← HW2.out]
    refine HR.out.mono ?_
    rintro e w3 ⟨rfl, hb3⟩
    clear hk0 hk1' hk2' hk3' HR HG
    have hk3 := Hk2.out.below hb3 Hk2.out.lt
    have x0 : w3.cell? ⟨w.heap.size + 1, 0, none⟩ = some (.int .u64 0) := hk3.cell 0
    have x1 : w3.cell? ⟨w.heap.size + 1, 1, none⟩ = some (.int .u64 0) := hk3.cell 1
    have x2 : w3.cell? ⟨w.heap.size + 1, 2, none⟩ = some (.bool false) := hk3.cell 2
    have x3 : w3.cell? ⟨w.heap.size + 1, 3, none⟩ = some (.slice none 0 0) := hk3.cell 3
    have f0 := hk3.frozen 0
    have f1 := hk3.frozen 1
    have f2 := hk3.frozen 2
    have f3 := hk3.frozen 3
    have Hk3 := Lib.hid hk3
    have Hbw := Lib.hid (below_then Hb12.out hb3)
    clear hk3 hb3
    go_wp2
    have hkp := set4 w3 (w.heap.size + 1) (.int .u64 0) (.int .u64 0) (.bool false) (.slice none 0 0)
    have hk4 := Hk3.out.set4 (.int .u64 0) (.int .u64 0) (.bool false) (.slice none 0 0)
    generalize (((w3.setCell ⟨w.heap.size + 1, 0, none⟩ (.int .u64 0)).setCell ⟨w.heap.size + 1, 1, none⟩ (.int .u64 0)).setCell ⟨w.heap.size + 1, 2, none⟩ (.bool false)).setCell ⟨w.heap.size + 1, 3, none⟩ (.slice none 0 0) = w4 at *
    have j0 : w4.cell? ⟨w.heap.size + 1, 0, none⟩ = some (.int .u64 0) := hk4.cell 0
    have j1 : w4.cell? ⟨w.heap.size + 1, 1, none⟩ = some (.int .u64 0) := hk4.cell 1
    have j2 : w4.cell? ⟨w.heap.size + 1, 2, none⟩ = some (.bool false) := hk4.cell 2
    have j3 : w4.cell? ⟨w.heap.size + 1, 3, none⟩ = some (.slice none 0 0) := hk4.cell 3
    refine bodyPost_ret (by simp [results, Try.results24, go_sem, j0, j1, j2, j3]; try rfl) rfl ?_
    exact ⟨rfl, Hbw.out.trans (hkp.below (fun k e => by omega) Hbw.out.size)⟩
  | true =>
    rw [if_neg (by decide)] at hrf ⊢
    cases ma with
    | true =>
      clear hrf
      rw [if_pos rfl]
      go_enter Try.func24, Try.ntmps24
      go_wp2_with fail
      rw [← HW2.out]
      refine HR.out.mono ?_
      rintro e w3 ⟨rfl, hb3⟩
      obtain ⟨y0, y2, y4⟩ := HG.out w3 hb3
      clear hk0 hk1' hk2' hk3' HR HG
      have hk3 := Hk2.out.below hb3 Hk2.out.lt
      have x0 : w3.cell? ⟨w.heap.size + 1, 0, none⟩ = some (.int .u64 0) := hk3.cell 0
      have x1 : w3.cell? ⟨w.heap.size + 1, 1, none⟩ = some (.int .u64 0) := hk3.cell 1
      have x2 : w3.cell? ⟨w.heap.size + 1, 2, none⟩ = some (.bool false) := hk3.cell 2
      have x3 : w3.cell? ⟨w.heap.size + 1, 3, none⟩ = some (.slice none 0 0) := hk3.cell 3
      have f0 := hk3.frozen 0
      have f1 := hk3.frozen 1
      have f2 := hk3.frozen 2
      have f3 := hk3.frozen 3
      have Hk3 := Lib.hid hk3
      have Hbw := Lib.hid (below_then Hb12.out hb3)
      clear hk3 hb3
      go_wp2
      have hkp := set4 w3 (w.heap.size + 1) (.int .u64 0) (.int .u64 0) (.bool false) (.slice none 0 0)
      have hk4 := Hk3.out.set4 (.int .u64 0) (.int .u64 0) (.bool false) (.slice none 0 0)
      generalize (((w3.setCell ⟨w.heap.size + 1, 0, none⟩ (.int .u64 0)).setCell ⟨w.heap.size + 1, 1, none⟩ (.int .u64 0)).setCell ⟨w.heap.size + 1, 2, none⟩ (.bool false)).setCell ⟨w.heap.size + 1, 3, none⟩ (.slice none 0 0) = w4 at *
      have j0 : w4.cell? ⟨w.heap.size + 1, 0, none⟩ = some (.int .u64 0) := hk4.cell 0
      have j1 : w4.cell? ⟨w.heap.size + 1, 1, none⟩ = some (.int .u64 0) := hk4.cell 1
      have j2 : w4.cell? ⟨w.heap.size + 1, 2, none⟩ = some (.bool false) := hk4.cell 2
      have j3 : w4.cell? ⟨w.heap.size + 1, 3, none⟩ = some (.slice none 0 0) := hk4.cell 3
      refine bodyPost_ret (by simp [results, Try.results24, go_sem, j0, j1, j2, j3]; try rfl) rfl ?_
      exact ⟨rfl, Hbw.out.trans (hkp.below (fun k e => by omega) Hbw.out.size)⟩
    | false =>
      rw [if_neg (by decide)] at hrf ⊢
      by_cases hlf : ml < r.life
      · rw [if_pos hlf]
        clear hrf
        have hli : (ml : Int) < (r.life : Int) := by omega
        generalize r.life = rl at *
        go_enter Try.func24, Try.ntmps24
        go_wp2_with fail
        rw [← HW2.out]
        refine HR.out.mono ?_
        rintro e w2 ⟨rfl, hb2⟩
        obtain ⟨y0, y2, y4⟩ := HG.out w2 hb2
        clear hk0 hk1' hk2' hk3' HR HG
        go_upto_region 6 with (fail)
        go_quiet (fail)
        obtain ⟨w3, hw3⟩ : ∃ w3, w3 = w2.drewN nq := ⟨_, rfl⟩
        rw [← hw3]
        have hb3 : Below W2.heap.size W2 w3 := by rw [hw3]; exact bel_drewN hb2 nq
        clear hw3 hb2 y0 y2 y4
        have hk3 := Hk2.out.below hb3 Hk2.out.lt
        have x0 : w3.cell? ⟨w.heap.size + 1, 0, none⟩ = some (.int .u64 0) := hk3.cell 0
        have x1 : w3.cell? ⟨w.heap.size + 1, 1, none⟩ = some (.int .u64 0) := hk3.cell 1
        have x2 : w3.cell? ⟨w.heap.size + 1, 2, none⟩ = some (.bool false) := hk3.cell 2
        have x3 : w3.cell? ⟨w.heap.size + 1, 3, none⟩ = some (.slice none 0 0) := hk3.cell 3
        have f0 := hk3.frozen 0
        have f1 := hk3.frozen 1
        have f2 := hk3.frozen 2
        have f3 := hk3.frozen 3
        have Hk3 := Lib.hid hk3
        have Hbw := Lib.hid (below_then Hb12.out hb3)
        clear hk3 hb3
        go_wp2
        have hkp := set4 w3 (w.heap.size + 1) (.int .u64 0) (.int .u64 0) (.bool false) (.slice none 0 0)
        have hk4 := Hk3.out.set4 (.int .u64 0) (.int .u64 0) (.bool false) (.slice none 0 0)
        generalize (((w3.setCell ⟨w.heap.size + 1, 0, none⟩ (.int .u64 0)).setCell ⟨w.heap.size + 1, 1, none⟩ (.int .u64 0)).setCell ⟨w.heap.size + 1, 2, none⟩ (.bool false)).setCell ⟨w.heap.size + 1, 3, none⟩ (.slice none 0 0) = w4 at *
        have j0 : w4.cell? ⟨w.heap.size + 1, 0, none⟩ = some (.int .u64 0) := hk4.cell 0
        have j1 : w4.cell? ⟨w.heap.size + 1, 1, none⟩ = some (.int .u64 0) := hk4.cell 1
        have j2 : w4.cell? ⟨w.heap.size + 1, 2, none⟩ = some (.bool false) := hk4.cell 2
        have j3 : w4.cell? ⟨w.heap.size + 1, 3, none⟩ = some (.slice none 0 0) := hk4.cell 3
        refine bodyPost_ret (by simp [results, Try.results24, go_sem, j0, j1, j2, j3]; try rfl) rfl ?_
        exact ⟨rfl, Hbw.out.trans (hkp.below (fun k e => by omega) Hbw.out.size)⟩
      · rw [if_neg hlf] at hrf
        exact absurd rfl hrf
end Go.Proofs.Ytfdlhefbbhblnaa
