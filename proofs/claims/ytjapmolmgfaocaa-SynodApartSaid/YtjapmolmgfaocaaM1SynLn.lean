/- Of the proofs of layer 4, merged: SynLn. -/
import Derived.Test.YtjapmolmgfaocaaM1SynLm

/- The program's Look, walked: a letter with no vote. -/
namespace Go.Proofs.Ytjapmolmgfaocaa
open Go.RowKit Go.Maps

section
variable {w : World} {col : Nat → Nat} {g N n : Nat} {r : Ro}
set_option maxRecDepth 100000 in
set_option maxHeartbeats 4000000 in
theorem look_none (h : RoM w col g N n r) (a : Int) (hi : r.is a = true) (hlen : (r.at_ a).votes = []) : Calls Try.prog 25 #[.pointer (some ⟨g, 0, none⟩), .int .i64 a] w (LookR w (r.look a).1 (r.look a).2) := by
  have hi' := Ro.is_iff.1 hi
  obtain ⟨k, rfl⟩ := Int.eq_ofNat_of_zero_le hi'.1
  rw [Int.toNat_natCast] at hi'
  have ht : r.look (k : Int) = (r.at_ (k : Int), true) := by unfold Ro.look; rw [if_pos hi]
  rw [ht]
  obtain ⟨W0, hW0⟩ : ∃ W0, W0 = w.alloc (.cells #[.int .i64 0, .int .i64 0, .int .i64 0, .int .u64 0, .int .i64 0, .slice none 0 0] 63) := ⟨_, rfl⟩
  have hb0 : Below w.heap.size w W0 := by rw [hW0]; exact bel1P _
  have hs0 : W0.heap.size = w.heap.size + 1 := by rw [hW0]; simp
  have hk0 : Bk W0 w.heap.size 63 #[.int .i64 0, .int .i64 0, .int .i64 0, .int .u64 0, .int .i64 0, .slice none 0 0] := by rw [hW0]; exact Bk.new w _ _
  have HT := Lib.hid (thereM (h.below hb0) (k : Int))
  rw [hi] at HT
  obtain ⟨A, sn', sc, R0, rc, np, es, hc⟩ := h.below hb0
  have hke : k < es.length := by rw [hc.elen]; exact hi'.2
  have hki : (k : Int) < (es.length : Int) := by omega
  have hat := hc.at_ k hke
  obtain ⟨bb, rfl, hrl, hrm, q0, q1, q2, q3, q4, q5⟩ := hc.letter k hke
  have c6 : W0.cell? ⟨g, 6, none⟩ = some (.slice (some ⟨bb, 0, none⟩) es.length rc) := hc.bk.cell 6
  obtain ⟨hv, hvm⟩ := hc.each _ (List.getElem_mem hke)
  have hmo := h.ok.row _ (Ro.at_mem hi)
  rw [hat] at hlen hmo ⊢
  obtain ⟨⟨m, ⟨sA, sN, sC⟩, vs⟩, hek⟩ : ∃ x, es[k] = x := ⟨_, rfl⟩
  rw [hek] at q0 q1 q2 q3 q4 q5 hv hvm hlen hmo ⊢
  dsimp only at q0 q1 q2 q3 q4 q5 hv hvm hlen hmo ⊢
  obtain ⟨W1, hW1⟩ : ∃ W1, W1 = W0.alloc (.cells #[.int .i64 (m.kind : Int), .int .i64 (m.frm : Int), .int .i64 (m.dst : Int), .int .u64 (m.bal.n : Int), .int .i64 m.bal.node, .slice sA sN sC] 63) := ⟨_, rfl⟩
  have hb1 : Below W0.heap.size W0 W1 := by rw [hW1]; exact bel1P _
  have hs1 : W1.heap.size = w.heap.size + 2 := by rw [hW1]; simp [hs0]
  have hk1 : Bk W1 (w.heap.size + 1) 63 #[.int .i64 (m.kind : Int), .int .i64 (m.frm : Int), .int .i64 (m.dst : Int), .int .u64 (m.bal.n : Int), .int .i64 m.bal.node, .slice sA sN sC] := by
    rw [hW1, ← hs0]; exact Bk.new W0 _ _
  have hk01 := hk0.below hb1 hk0.lt
  have hv1 : VsR W1 (fun k => col k = 4) sA sN sC vs := VsR.below hv hb1
  have hsN : vs.length = sN := hv1.len
  obtain rfl : vs = [] := by rw [hvm] at hlen; exact List.map_eq_nil_iff.1 hlen
  obtain rfl : sN = 0 := by rw [← hsN]; rfl
  have HVm := Lib.hid hlen
  have HCl := Lib.hid (cloneVs_any hv1 (by omega))
  clear hvm hlen hsN
  have HW0 := Lib.hid hW0
  have HW1 := Lib.hid hW1
  have HK0 := Lib.hid hk01
  have HK1 := Lib.hid hk1
  have HB := Lib.hid (below_then hb0 hb1)
  have HS1 := Lib.hid hs1
  have m5 : W1.cell? ⟨w.heap.size + 1, 5, none⟩ = some (.slice sA 0 sC) := hk1.cell 5
  clear hW0 hW1 hk0 hk01 hk1 hb0 hb1 hs1 h hi hi' ht hc hat hek hv hv1 hmo
  go_enter Try.func25, Try.ntmps25
  go_upto_region 1 with (fail)
  rw [← HW0.out]
  go_wp2_with fail
  refine HT.out.mono ?_
  rintro e w2 ⟨rfl, rfl⟩
  go_upto_region 4 with (fail)
  rw [← HW1.out]
  clear q0 q1 q2 q3 q4 q5 c6 HT HW0
  go_wp2_with fail
  refine HCl.out.mono ?_
  rintro e W2 ⟨A2, c2, rfl, ho2, hb2⟩
  have g5 : W2.cell? ⟨w.heap.size + 1, 5, none⟩ = some (.slice sA 0 sC) := (HK1.out.below hb2 HK1.out.lt).cell 5
  have g6 := (HK1.out.below hb2 HK1.out.lt).frozen 5
  obtain ⟨W3, hW3⟩ : ∃ W3, W3 = W2.setCell ⟨w.heap.size + 1, 5, none⟩ (.slice A2 0 c2) := ⟨_, rfl⟩
  have hkp : Kp (fun j => j = w.heap.size + 1) W2 W3 := by rw [hW3]; exact Kp.set_ (F := fun j => j = w.heap.size + 1) (p := ⟨w.heap.size + 1, 5, none⟩) rfl _
  have hd1 : Bk W3 (w.heap.size + 1) 63 #[.int .i64 (m.kind : Int), .int .i64 (m.frm : Int), .int .i64 (m.dst : Int), .int .u64 (m.bal.n : Int), .int .i64 m.bal.node, .slice A2 0 c2] := by rw [hW3]; exact (HK1.out.below hb2 HK1.out.lt).set_ 5 _
  have HD0 := Lib.hid ((HK0.out.below hb2 HK0.out.lt).kp hkp (by omega))
  have HD1 := Lib.hid hd1
  have hz1 := HS1.out
  have hbl : Below w.heap.size w W3 := (below_then HB.out hb2).trans (hkp.below (fun k e => by omega) (by have := hb2.size; omega))
  have HBl := Lib.hid hbl
  have HW3 := Lib.hid hW3
  have m6 : W3.cell? ⟨w.heap.size + 1, 5, none⟩ = some (.slice A2 0 c2) := hd1.cell 5
  clear ho2 hb2 hkp hd1 hbl hW3 HK0 HK1 HB HS1 hz1 HCl HW1
  go_upto_region 5 with (fail)
  rw [← HW3.out]
  clear g5 g6 m5 HW3
  go_wp2_with fail
  go_loopg [28] 0 (fun gk i wy => i = .int .i64 0 ∧ W3 = wy)
  case atStart => exact ⟨rfl, rfl⟩
  case round =>
  obtain ⟨rfl, hwr⟩ := hrel
  subst hwr
  clear m6
  have e0 : W3.cell? ⟨w.heap.size + 1, 0, none⟩ = some (.int .i64 (m.kind : Int)) := HD1.out.cell 0
  have e1 : W3.cell? ⟨w.heap.size + 1, 1, none⟩ = some (.int .i64 (m.frm : Int)) := HD1.out.cell 1
  have e2 : W3.cell? ⟨w.heap.size + 1, 2, none⟩ = some (.int .i64 (m.dst : Int)) := HD1.out.cell 2
  have e3 : W3.cell? ⟨w.heap.size + 1, 3, none⟩ = some (.int .u64 (m.bal.n : Int)) := HD1.out.cell 3
  have e4 : W3.cell? ⟨w.heap.size + 1, 4, none⟩ = some (.int .i64 m.bal.node) := HD1.out.cell 4
  have e5 : W3.cell? ⟨w.heap.size + 1, 5, none⟩ = some (.slice A2 0 c2) := HD1.out.cell 5
  have z0 : W3.cell? ⟨w.heap.size, 0, none⟩ = some (.int .i64 0) := HD0.out.cell 0
  have z1 : W3.cell? ⟨w.heap.size, 1, none⟩ = some (.int .i64 0) := HD0.out.cell 1
  have z2 : W3.cell? ⟨w.heap.size, 2, none⟩ = some (.int .i64 0) := HD0.out.cell 2
  have z3 : W3.cell? ⟨w.heap.size, 3, none⟩ = some (.int .u64 0) := HD0.out.cell 3
  have z4 : W3.cell? ⟨w.heap.size, 4, none⟩ = some (.int .i64 0) := HD0.out.cell 4
  have z5 : W3.cell? ⟨w.heap.size, 5, none⟩ = some (.slice none 0 0) := HD0.out.cell 5
  have f0 := HD0.out.frozen 0
  have f1 := HD0.out.frozen 1
  have f2 := HD0.out.frozen 2
  have f3 := HD0.out.frozen 3
  have f4 := HD0.out.frozen 4
  have f5 := HD0.out.frozen 5
  go_wp2
  obtain ⟨w9, hw9⟩ : ∃ w9, w9 = (((((W3.setCell ⟨w.heap.size, 0, none⟩ (.int .i64 (m.kind : Int))).setCell ⟨w.heap.size, 1, none⟩ (.int .i64 (m.frm : Int))).setCell ⟨w.heap.size, 2, none⟩ (.int .i64 (m.dst : Int))).setCell ⟨w.heap.size, 3, none⟩ (.int .u64 (m.bal.n : Int))).setCell ⟨w.heap.size, 4, none⟩ (.int .i64 m.bal.node)).setCell ⟨w.heap.size, 5, none⟩ (.slice A2 0 c2) := ⟨_, rfl⟩
  rw [← hw9]
  have p2 := st6S W3 w.heap.size (.int .i64 (m.kind : Int)) (.int .i64 (m.frm : Int)) (.int .i64 (m.dst : Int)) (.int .u64 (m.bal.n : Int)) (.int .i64 m.bal.node) (.slice A2 0 c2)
  have p1 := HD0.out.s6S (.int .i64 (m.kind : Int)) (.int .i64 (m.frm : Int)) (.int .i64 (m.dst : Int)) (.int .u64 (m.bal.n : Int)) (.int .i64 m.bal.node) (.slice A2 0 c2)
  rw [← hw9] at p1 p2
  have j0 : w9.cell? ⟨w.heap.size, 0, none⟩ = some (.int .i64 (m.kind : Int)) := p1.cell 0
  have j1 : w9.cell? ⟨w.heap.size, 1, none⟩ = some (.int .i64 (m.frm : Int)) := p1.cell 1
  have j2 : w9.cell? ⟨w.heap.size, 2, none⟩ = some (.int .i64 (m.dst : Int)) := p1.cell 2
  have j3 : w9.cell? ⟨w.heap.size, 3, none⟩ = some (.int .u64 (m.bal.n : Int)) := p1.cell 3
  have j4 : w9.cell? ⟨w.heap.size, 4, none⟩ = some (.int .i64 m.bal.node) := p1.cell 4
  have j5 : w9.cell? ⟨w.heap.size, 5, none⟩ = some (.slice A2 0 c2) := p1.cell 5
  clear hw9
  refine bodyPost_ret (by simp [results, Try.results25, go_sem, j0, j1, j2, j3, j4, j5]; try rfl) rfl ?_
  exact ⟨A2, c2, by rw [HVm.out]; rfl, HBl.out.trans (p2.below (fun k e => by omega) HBl.out.size), fun v e => by rw [HVm.out] at e; cases e⟩
end
end Go.Proofs.Ytjapmolmgfaocaa
