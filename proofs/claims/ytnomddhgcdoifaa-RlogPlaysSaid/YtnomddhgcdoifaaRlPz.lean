/- RlogPlays: an act of both logs. -/
import Derived.Test.YtnomddhgcdoifaaRlPy
namespace Go.Proofs.Ytnomddhgcdoifaa
open Go.RowKit

def PlE (W : World) (g g2 m : Nat) (e : Ending) (w' : World) : Prop := e = .returned (.bool true) ∧ Hid (SL W g g2 (m + 1) w')
set_option maxRecDepth 100000 in
set_option maxHeartbeats 4000000 in
theorem play12_any {W w : World} {g g2 m : Nat} (h : SL W g g2 m w) (x : Gl) (hx : x.Ok W W.heap.size) (hn : x.n ≤ 1000) :
    Calls Try.prog 7 #[.pointer (some ⟨g, 0, none⟩), .pointer (some ⟨g2, 0, none⟩), .agg #[.int .i64 x.kind, .int .u64 (x.slot : Int), .slice x.A x.n x.c]] w (PlE W g g2 m) := by
  obtain ⟨kind, slot, val, A0, n0, c0⟩ := x
  obtain ⟨_, hs, _, hr⟩ := hx
  dsimp only at hs hr hn ⊢
  obtain ⟨w1, hw1⟩ : ∃ w1, w1 = w.alloc (.cells #[.int .i64 kind, .int .u64 (slot : Int), .slice A0 n0 c0] 35) := ⟨_, rfl⟩
  obtain ⟨B, hB⟩ : ∃ B, B = w.heap.size := ⟨_, rfl⟩
  have hk1 : Bk w1 B 35 #[.int .i64 kind, .int .u64 (slot : Int), .slice A0 n0 c0] := by rw [hw1, hB]; exact Bk.new w _ _
  have q0 := hk1.cell 0
  have q1 := hk1.cell 1
  have q2 := hk1.cell 2
  have q0 : w1.cell? ⟨B, 0, none⟩ = some (.int .i64 kind) := q0
  have q1 : w1.cell? ⟨B, 1, none⟩ = some (.int .u64 (slot : Int)) := q1
  have q2 : w1.cell? ⟨B, 2, none⟩ = some (.slice A0 n0 c0) := q2
  have HF : Hid (SL W g g2 (m + 1) w1) := Lib.hid ((h.below (by rw [hw1]; exact bel1L _ _)).mono (by omega))
  have HLent : Hid (Calls Try.prog 21 #[.slice A0 n0 c0] w1 (LL0 W g g2 (m + 1) B 35 #[.int .i64 kind, .int .u64 (slot : Int), .slice A0 n0 c0] slot A0 n0 c0)) := Lib.hid (by rw [hw1, hB]; exact h.lent slot A0 n0 c0 val _ _ hs hr hn)
  have HApply : Hid (Calls Try.prog 19 #[.pointer (some ⟨g, 0, none⟩)] w1 (LA0 W g g2 m)) := Lib.hid (by rw [hw1]; exact h.apply _ _)
  have HTrim : Hid (Calls Try.prog 20 #[.pointer (some ⟨g, 0, none⟩), .int .u64 (slot : Int)] w1 (LT1 W g g2 m B slot 35 #[.int .i64 kind, .int .u64 (slot : Int), .slice A0 n0 c0])) := Lib.hid (by rw [hw1, hB]; exact h.trim slot _ _)
  have HInst : Hid (Calls Try.prog 27 #[.pointer (some ⟨g, 0, none⟩), .int .u64 (slot : Int)] w1 (LI1 W g g2 m B slot 35 #[.int .i64 kind, .int .u64 (slot : Int), .slice A0 n0 c0])) := Lib.hid (by rw [hw1, hB]; exact h.install slot hs _ _)
  clear h hr hk1
  have HW1 := Lib.hid hw1
  have HBB := Lib.hid hB
  clear hs hn
  go_enter Try.func7, Try.ntmps7
  go_upto_region 1 with (fail)
  rw [← hw1, ← hB]
  clear hw1 hB
  rcases Classical.em (kind = 0 ∨ kind = 1 ∨ kind = 2 ∨ kind = 3) with hk | hk
  · clear HApply HTrim HInst HF
    rcases hk with rfl | rfl | rfl | rfl
    all_goals
      go_wp2_with fail
      refine HLent.out.mono ?_
      rintro e w2 ⟨gv, cap, rfl, HK, HC⟩
      have p1 : w2.cell? ⟨B, 1, none⟩ = some (.int .u64 (slot : Int)) := HK.out.cell 1
      have p2 : w2.cell? ⟨B, 2, none⟩ = some (.slice A0 n0 c0) := HK.out.cell 2
      clear HLent HK q0 q1 q2
      go_wp2_with fail
      refine HC.out.mono ?_
      clear HC
      rintro e w3 ⟨r, rfl, HK, HC⟩
      have p3 : w3.cell? ⟨B, 1, none⟩ = some (.int .u64 (slot : Int)) := HK.out.cell 1
      have p4 : w3.cell? ⟨B, 2, none⟩ = some (.slice A0 n0 c0) := HK.out.cell 2
      clear HK p1 p2
      go_wp2_with fail
      refine HC.out.mono ?_
      clear HC
      rintro e w4 ⟨rfl, HK, HWh, HSp⟩
      have p5 : w4.cell? ⟨B, 2, none⟩ = some (.slice A0 n0 c0) := HK.out.cell 2
      clear HK p3 p4
      go_wp2_with fail
      refine HWh.out.mono ?_
      clear HWh
      rintro e w5 ⟨rfl, rfl⟩
      go_wp2_with fail
      refine HSp.out.mono ?_
      clear HSp
      rintro e w6 ⟨rfl, HE⟩
      have e1 : (r == r) = true := by simp
      go_wp2
      go_ret
      exact ⟨rfl, HE⟩
  rcases Classical.em (kind = 4 ∨ kind = 5 ∨ kind = 6) with hk2 | hk2
  · clear HLent HTrim HInst HF hk
    rcases hk2 with rfl | rfl | rfl
    all_goals
      go_wp2_with fail
      refine HApply.out.mono ?_
      rintro e w2 ⟨x, b, A, n, c, rfl, HA⟩
      have hbb : (b == b) = true := by simp
      clear HApply q1 q2
      obtain ⟨w3, hw3⟩ : ∃ w3, w3 = w2.alloc (.cells #[.int .u64 (x.slot : Int), .slice A n c] 45) := ⟨_, rfl⟩
      obtain ⟨B2, hB2⟩ : ∃ B2, B2 = w2.heap.size := ⟨_, rfl⟩
      have hk3 : Bk w3 B2 45 #[.int .u64 (x.slot : Int), .slice A n c] := by rw [hw3, hB2]; exact Bk.new w2 _ _
      have HC := Lib.hid (HA.out w3 (by rw [hw3]; exact bel1L _ _))
      have HR0 : Hid (w3.cell? ⟨B2, 0, none⟩ = some (.int .u64 (x.slot : Int)) ∧ w3.cell? ⟨B2, 1, none⟩ = some (.slice A n c) ∧ w2.heap.size ≤ B2) := Lib.hid ⟨hk3.cell 0, hk3.cell 1, by omega⟩
      clear hk3
      have HW3 := Lib.hid hw3
      have HB2 := Lib.hid hB2
      clear hw3 hB2
      go_wp2_with fail
      rw [← HW3.out, ← HB2.out]
      refine HC.out.mono ?_
      rintro e w4 ⟨A2, n2, c2, rfl, HK, HN⟩
      have r0 : w4.cell? ⟨B2, 0, none⟩ = some (.int .u64 (x.slot : Int)) := HK.out _ _ HR0.out.2.2 HR0.out.1
      have r1 : w4.cell? ⟨B2, 1, none⟩ = some (.slice A n c) := HK.out _ _ HR0.out.2.2 HR0.out.2.1
      clear HC HK HR0 HA HW3 HB2
      go_upto_region 17 with (fail)
      obtain ⟨w5, hw5⟩ : ∃ w5, w5 = w4.alloc (.cells #[.int .u64 (x.slot : Int), .slice A2 n2 c2] 45) := ⟨_, rfl⟩
      obtain ⟨B3, hB3⟩ : ∃ B3, B3 = w4.heap.size := ⟨_, rfl⟩
      have hb5 : Below w4.heap.size w4 w5 := by rw [hw5]; exact bel1L _ _
      have hk5 : Bk w5 B3 45 #[.int .u64 (x.slot : Int), .slice A2 n2 c2] := by rw [hw5, hB3]; exact Bk.new w4 _ _
      have up : ∀ {p : Addr} {v : Value} {w : World} (o : Obj), w.cell? p = some v → (w.alloc o).cell? p = some v := fun {p v w} o h => ((bel1L w o).cell (p := p) (World.block_lt_of_cell? w _ h)).trans h
      have t0 : w5.cell? ⟨B2, 0, none⟩ = some (.int .u64 (x.slot : Int)) := by rw [hw5]; exact up _ r0
      have t1 : w5.cell? ⟨B2, 1, none⟩ = some (.slice A n c) := by rw [hw5]; exact up _ r1
      have s0 : ∀ o, (w5.alloc o).cell? ⟨B3, 0, none⟩ = some (.int .u64 (x.slot : Int)) := fun o => up o (hk5.cell 0)
      have s1 : ∀ o, (w5.alloc o).cell? ⟨B3, 1, none⟩ = some (.slice A2 n2 c2) := fun o => up o (hk5.cell 1)
      have HV : Hid (∀ V, Below w5.heap.size w5 V → Below w4.heap.size w4 V) := Lib.hid fun V hV => below_then hb5 hV
      have HT1 := Lib.hid t1
      clear hk5 up r0 r1 hb5
      rw [← hw5, ← hB3]
      clear hw5 hB3
      go_wp2_with fail
      obtain ⟨V, hV⟩ : ∃ V, V = (w5.alloc (.cells #[.int .u64 (x.slot : Int), .slice A n c] 45)).alloc (.cells #[.int .u64 (x.slot : Int), .slice A2 n2 c2] 45) := ⟨_, rfl⟩
      have hb6 : Below w5.heap.size w5 (w5.alloc (.cells #[.int .u64 (x.slot : Int), .slice A n c] 45)) := bel1L _ _
      have hb7 : Below (w5.alloc (.cells #[.int .u64 (x.slot : Int), .slice A n c] 45)).heap.size (w5.alloc (.cells #[.int .u64 (x.slot : Int), .slice A n c] 45)) V := by rw [hV]; exact bel1L _ _
      have hbV : Below w5.heap.size w5 V := below_then hb6 hb7
      have hsz : (w5.alloc (.cells #[.int .u64 (x.slot : Int), .slice A n c] 45)).heap.size = w5.heap.size + 1 := by show (w5.heap.push _).size = _; exact Array.size_push _
      have ha : Bk V w5.heap.size 45 #[.int .u64 (x.slot : Int), .slice A n c] := (Bk.new w5 _ _).below hb7 (by omega)
      have hb : Bk V (w5.heap.size + 1) 45 #[.int .u64 (x.slot : Int), .slice A2 n2 c2] := by rw [← hsz, hV]; exact Bk.new _ _ _
      have t2 : V.cell? ⟨B2, 1, none⟩ = some (.slice A n c) := (hbV.cell (World.block_lt_of_cell? _ _ HT1.out)).trans HT1.out
      have HS := Lib.hid ((HN.out V (HV.out V hbV)).1 _ _ (ha.cell 0) (ha.cell 1) (hb.cell 0) (hb.cell 1))
      have HSp := Lib.hid fun q => (HN.out (V.drewN q) (HV.out _ (bel_drewN hbV q))).2
      rw [← hV]
      clear HN HV HT1 hV hb6 hb7 hbV hsz ha hb s0 s1 t0 t1
      refine HS.out.mono ?_
      rintro e w6 ⟨rfl, q, rfl⟩
      clear HS
      go_wp2_with fail
      refine (HSp.out q).mono ?_
      rintro e w7 ⟨rfl, HE⟩
      have HE2 : Hid (SL W g g2 (m + 1) w7) := Lib.hid (HE.out.mono (by omega))
      clear HSp HE
      go_wp2
      go_ret
      exact ⟨rfl, HE2⟩
  rcases Classical.em (kind = 7) with rfl | hk3
  · clear HLent HApply HInst HF hk hk2
    go_wp2_with fail
    refine HTrim.out.mono ?_
    rintro e w2 ⟨r, rfl, HK, HC⟩
    have p1 : w2.cell? ⟨B, 1, none⟩ = some (.int .u64 (slot : Int)) := HK.out.cell 1
    clear HTrim HK q0 q1 q2
    go_wp2_with fail
    refine HC.out.mono ?_
    clear HC
    rintro e w3 ⟨rfl, HE⟩
    have HE2 : Hid (SL W g g2 (m + 1) w3) := Lib.hid (HE.out.mono (by omega))
    have e1 : (r == r) = true := by simp
    go_wp2
    go_ret
    exact ⟨rfl, HE2⟩
  rcases Classical.em (kind = 8) with rfl | hk4
  · clear HLent HApply HTrim HF hk hk2 hk3
    go_wp2_with fail
    refine HInst.out.mono ?_
    rintro e w2 ⟨r, rfl, HK, HC⟩
    have p1 : w2.cell? ⟨B, 1, none⟩ = some (.int .u64 (slot : Int)) := HK.out.cell 1
    clear HInst HK q0 q1 q2
    go_wp2_with fail
    refine HC.out.mono ?_
    clear HC
    rintro e w3 ⟨rfl, HE⟩
    have HE2 : Hid (SL W g g2 (m + 1) w3) := Lib.hid (HE.out.mono (by omega))
    have e1 : (r == r) = true := by simp
    go_wp2
    go_ret
    exact ⟨rfl, HE2⟩
  have k0 : (kind == 0) = false := by simp; omega
  have k1 : (kind == 1) = false := by simp; omega
  have k2 : (kind == 2) = false := by simp; omega
  have k3 : (kind == 3) = false := by simp; omega
  have k4 : (kind == 4) = false := by simp; omega
  have k5 : (kind == 5) = false := by simp; omega
  have k6 : (kind == 6) = false := by simp; omega
  have k7 : (kind == 7) = false := by simp; omega
  have k8 : (kind == 8) = false := by simp; omega
  clear HLent HApply HTrim HInst hk hk2 hk3 hk4
  go_wp2
  go_ret
  exact ⟨rfl, HF⟩
end Go.Proofs.Ytnomddhgcdoifaa
