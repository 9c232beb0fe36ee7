/- Of the proofs of layer 4, merged: SynRo. -/
import Derived.Test.YtjapmolmgfaocaaM1SynPy

/- Layer 11's laws: a room of some system, or of three nodes. -/
namespace Go.Proofs.Ytjapmolmgfaocaa
open Go.RowKit Go.Maps

/-- A room of some system. -/
def RoomS (W : World) (e : Ending) (w' : World) : Prop := ∃ g N col q, q.right = 0 ∧ e = .returned (.tuple #[.pointer (some ⟨g, 0, none⟩), .int .i64 (q.n : Int)]) ∧ OwR W w' col g N q.n (Ro.new q)
section
variable {q : Qm} {A : Option Addr} {n c : Nat} {w : World}
theorem n_kq11 : kq11.n = 3 := by decide
set_option maxRecDepth 100000 in
set_option maxHeartbeats 4000000 in
theorem room_any (hq : Qi w q A n c) : Calls Try.prog 9 #[qV q (.slice A n c)] w (RoomS w) := by
  obtain ⟨w1, HW1, HB1, HK1⟩ := boxed q.kind q.nodes q.one q.two A n c w
  have HQ : Hid (∀ W, Below w1.heap.size w1 W → QB q.kind q.nodes q.one q.two A n c W w.heap.size) := Lib.hid fun W hb => HK1.out.below hb HK1.out.lt
  have HT := Lib.hid (fun w' => three11_any w')
  have HNt : Hid (∀ W, Calls Try.prog 23 #[.agg #[.int .i64 1, .int .i64 3, .int .i64 2, .int .i64 2, .slice none 0 0]] W (NewS kq11 W)) := Lib.hid fun W => new_ok (qi_kq11 W) kq11_right (by decide)
  have HRes : Hid (∀ W q' w' g N col, Below w.heap.size w W → q'.right = 0 → RoM w' col g N q'.n (Ro.new q') → (∀ k, col k ≠ 0 → W.heap.size ≤ k) → Below W.heap.size W w' → ∀ x : Int, x = (q'.n : Int) → RoomS w (.returned (.tuple #[.pointer (some ⟨g, 0, none⟩), .int .i64 x])) w') := Lib.hid fun W q' w' g N col hb hr h1 h2 h3 x hx => by
    subst hx
    exact ⟨g, N, col, q', hr, rfl, h1, fun k hk => Nat.le_trans hb.size (h2 k hk), below_then hb h3⟩
  have hcap := hq.cap
  by_cases h40 : 40 < n
  · have hI : (40 : Int) < (n : Int) := by omega
    have hk1 := HK1.out
    have q4 : w1.cell? ⟨w.heap.size, 4, none⟩ = some (.slice A n c) := hk1.cell 4
    unfold qV
    clear hq hk1
    obtain ⟨kd, nd, on, tw, l⟩ := q
    dsimp only at *
    go_enter Try.func9, Try.ntmps9
    go_upto_region 1 with (fail)
    rw [← HW1.out]
    go_wp2_with fail
    refine (HT.out _).mono ?_
    rintro e w2 ⟨rfl, hb2⟩
    have hk2 := HQ.out w2 hb2
    have c0 : w2.cell? ⟨w.heap.size, 0, none⟩ = some (.int .i64 kd) := hk2.cell 0
    have c1 : w2.cell? ⟨w.heap.size, 1, none⟩ = some (.int .i64 nd) := hk2.cell 1
    have c2 : w2.cell? ⟨w.heap.size, 2, none⟩ = some (.int .i64 on) := hk2.cell 2
    have c3 : w2.cell? ⟨w.heap.size, 3, none⟩ = some (.int .i64 tw) := hk2.cell 3
    have c4 : w2.cell? ⟨w.heap.size, 4, none⟩ = some (.slice A n c) := hk2.cell 4
    have f0 := hk2.frozen 0
    have f1 := hk2.frozen 1
    have f2 := hk2.frozen 2
    have f3 := hk2.frozen 3
    have f4 := hk2.frozen 4
    obtain ⟨w3, hw3⟩ : ∃ w3, w3 = ((((w2.setCell ⟨w.heap.size, 0, none⟩ (.int .i64 1)).setCell ⟨w.heap.size, 1, none⟩ (.int .i64 3)).setCell ⟨w.heap.size, 2, none⟩ (.int .i64 2)).setCell ⟨w.heap.size, 3, none⟩ (.int .i64 2)).setCell ⟨w.heap.size, 4, none⟩ (.slice none 0 0) := ⟨_, rfl⟩
    have hk3 : Bk w3 w.heap.size 24 #[.int .i64 1, .int .i64 3, .int .i64 2, .int .i64 2, .slice none 0 0] := by rw [hw3]; exact ((((Bk.set_ hk2 0 (.int .i64 1)).set_ 1 (.int .i64 3)).set_ 2 (.int .i64 2)).set_ 3 (.int .i64 2)).set_ 4 (.slice none 0 0)
    have hkp : Kp (fun j => j = w.heap.size) w2 w3 := by rw [hw3]; exact Kp.sets (F := fun k => k = w.heap.size) rfl [.int .i64 1, .int .i64 3, .int .i64 2, .int .i64 2, .slice none 0 0] 0 w2
    have hb02 := below_then HB1.out hb2
    have hb3 : Below w.heap.size w w3 := hb02.trans (hkp.below (fun k e => by omega) hb02.size)
    have HB3 := Lib.hid hb3
    have HK3 := Lib.hid hk3
    have HW3 := Lib.hid hw3
    have d0 : w3.cell? ⟨w.heap.size, 0, none⟩ = some (.int .i64 1) := hk3.cell 0
    have d1 : w3.cell? ⟨w.heap.size, 1, none⟩ = some (.int .i64 3) := hk3.cell 1
    have d2 : w3.cell? ⟨w.heap.size, 2, none⟩ = some (.int .i64 2) := hk3.cell 2
    have d3 : w3.cell? ⟨w.heap.size, 3, none⟩ = some (.int .i64 2) := hk3.cell 3
    have d4 : w3.cell? ⟨w.heap.size, 4, none⟩ = some (.slice none 0 0) := hk3.cell 4
    have HZ : Hid (w.heap.size < w3.heap.size) := Lib.hid hk3.lt
    clear hk2 hw3 hk3 hkp hb02 hb3 hb2 q4 HQ HK1
    go_upto_region 3 with (fail)
    rw [← HW3.out]
    clear c0 c1 c2 c3 c4 f0 f1 f2 f3 f4
    go_wp2_with fail
    refine (HNt.out _).mono ?_
    rintro e w4 ⟨g, N, col, rfl, p1, p2, p3⟩
    have hk4 := HK3.out.below p3 HK3.out.lt
    have c1 : w4.cell? ⟨w.heap.size, 1, none⟩ = some (.int .i64 3) := hk4.cell 1
    have HF : Hid (∀ q0, RoomS w (.returned (.tuple #[.pointer (some ⟨g, 0, none⟩), .int .i64 3])) (w4.drewN q0)) := Lib.hid fun q0 => HRes.out w3 kq11 (w4.drewN q0) g N col HB3.out kq11_right (p1.below (bel_drewN (Below.refl _ _) q0)) p2 (below_then p3 (bel_drewN (Below.refl _ _) q0)) 3 (by rw [n_kq11]; rfl)
    clear p1 p2 p3 hk4 d0 d1 d2 d3 d4
    go_wp2_with fail
    go_quiet (fail)
    go_wp2
    go_ret2
    exact HF.out _
  · have hI : ¬ (40 : Int) < (n : Int) := by omega
    have hk1 := HK1.out
    have q0 : w1.cell? ⟨w.heap.size, 0, none⟩ = some (.int .i64 q.kind) := hk1.cell 0
    have q1 : w1.cell? ⟨w.heap.size, 1, none⟩ = some (.int .i64 q.nodes) := hk1.cell 1
    have q2 : w1.cell? ⟨w.heap.size, 2, none⟩ = some (.int .i64 q.one) := hk1.cell 2
    have q3 : w1.cell? ⟨w.heap.size, 3, none⟩ = some (.int .i64 q.two) := hk1.cell 3
    have q4 : w1.cell? ⟨w.heap.size, 4, none⟩ = some (.slice A n c) := hk1.cell 4
    clear hk1
    by_cases hr : q.right = 0
    · have HN : Hid (Calls Try.prog 23 #[.agg #[.int .i64 q.kind, .int .i64 q.nodes, .int .i64 q.one, .int .i64 q.two, .slice A n c]] w1 (NewS q w1)) := Lib.hid (new_ok (hq.up HB1.out) hr (by omega))
      have hnn := (q.n_le hr).2.2
      have Hr := Lib.hid hr
      have Hnn := Lib.hid hnn
      unfold qV
      clear hq hr hnn
      go_enter Try.func9, Try.ntmps9
      go_upto_region 1 with (fail)
      rw [← HW1.out]
      go_wp2_with fail
      refine HN.out.mono ?_
      rintro e w4 ⟨g, N, col, rfl, p1, p2, p3⟩
      have hk4 := HQ.out w4 p3
      have c1 : w4.cell? ⟨w.heap.size, 1, none⟩ = some (.int .i64 q.nodes) := hk4.cell 1
      have HF : Hid (∀ q0, RoomS w (.returned (.tuple #[.pointer (some ⟨g, 0, none⟩), .int .i64 q.nodes])) (w4.drewN q0)) := Lib.hid fun q0 => HRes.out w1 q (w4.drewN q0) g N col HB1.out Hr.out (p1.below (bel_drewN (Below.refl _ _) q0)) p2 (below_then p3 (bel_drewN (Below.refl _ _) q0)) q.nodes Hnn.out
      clear p1 p2 p3 hk4 q0 q1 q2 q3 q4
      go_wp2_with fail
      go_quiet (fail)
      go_wp2
      go_ret2
      exact HF.out _
    · have HN : Hid (Calls Try.prog 23 #[.agg #[.int .i64 q.kind, .int .i64 q.nodes, .int .i64 q.one, .int .i64 q.two, .slice A n c]] w1 fun e w' => e = .returned (.tuple #[.pointer none, .int .i64 q.right]) ∧ Below w1.heap.size w1 w') := Lib.hid (new_bad (hq.up HB1.out) hr)
      have hrb : (q.right == 0) = false := by simpa using hr
      unfold qV
      generalize q.right = rr at *
      clear hq
      go_enter Try.func9, Try.ntmps9
      go_upto_region 1 with (fail)
      rw [← HW1.out]
      go_wp2_with fail
      refine HN.out.mono ?_
      rintro e w2 ⟨rfl, hb2⟩
      have HB2 := Lib.hid (below_then HB1.out hb2)
      clear q0 q1 q2 q3 q4 hb2 HQ HK1
      go_wp2_with fail
      refine (HT.out _).mono ?_
      rintro e w3 ⟨rfl, hb3⟩
      have HB3 := Lib.hid (below_then HB2.out hb3)
      clear hb3
      go_wp2_with fail
      refine (HNt.out _).mono ?_
      rintro e w4 ⟨g, N, col, rfl, p1, p2, p3⟩
      have HF : Hid (RoomS w (.returned (.tuple #[.pointer (some ⟨g, 0, none⟩), .int .i64 3])) w4) := Lib.hid (HRes.out w3 kq11 w4 g N col HB3.out kq11_right p1 p2 p3 3 (by rw [n_kq11]; rfl))
      clear p1 p2 p3
      go_wp2
      go_ret2
      exact HF.out
end
end Go.Proofs.Ytjapmolmgfaocaa
