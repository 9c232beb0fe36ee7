/- SynodNil: a room that is not there answers so. -/
import Derived.Test.YtjapmolmgfaocaaMSynL
import Derived.Test.YtjapmolmgfaocaaM1Law
import Derived.Test.YtjapmolmgfaocaaM1Fam
namespace Go.Proofs.Ytjapmolmgfaocaa
open Go.ChangeShapes Go.WideShapes Go.ChangeAt Go.RowKit Go.Maps

section
variable (w : World) (a : Int)
set_option maxRecDepth 100000 in
set_option maxHeartbeats 1000000 in
theorem take_nil : Calls Try.prog 22 #[.pointer none, .int .i64 a] w fun e w' => e = .returned (.bool false) ∧ w = w' := by
  have HT := Lib.hid (there_nil w a)
  go_enter Try.func22, Try.ntmps22
  go_wp2_with fail
  refine HT.out.mono ?_
  rintro e w2 ⟨rfl, rfl⟩
  go_wp2
  go_ret
  exact ⟨rfl, rfl⟩
set_option maxRecDepth 100000 in
set_option maxHeartbeats 1000000 in
theorem drop_nil : Calls Try.prog 20 #[.pointer none, .int .i64 a] w fun e w' => e = .returned (.bool false) ∧ w = w' := by
  have HT := Lib.hid (there_nil w a)
  go_enter Try.func20, Try.ntmps20
  go_wp2_with fail
  refine HT.out.mono ?_
  rintro e w2 ⟨rfl, rfl⟩
  go_wp2
  go_ret
  exact ⟨rfl, rfl⟩
set_option maxRecDepth 100000 in
set_option maxHeartbeats 1000000 in
theorem twice_nil : Calls Try.prog 28 #[.pointer none, .int .i64 a] w fun e w' => e = .returned (.bool false) ∧ Below w.heap.size w w' := by
  have HQ : Hid (∀ q, Calls Try.prog 33 #[.pointer none, .int .i64 a] (w.drewN q) fun e w' => e = .returned (.bool false) ∧ w' = w.drewN q) := Lib.hid fun q => (there_nil (w.drewN q) a).mono fun _ _ h => ⟨h.1, h.2.symm⟩
  go_enter Try.func28, Try.ntmps28
  go_wp2_with fail
  go_quiet ((go_at_call 33; exact Calls.quiet_of_same (HQ.out _)))
  go_wp2
  go_ret
  exact ⟨rfl, bel_drewN (Below.refl _ _) _⟩
set_option maxRecDepth 100000 in
set_option maxHeartbeats 1000000 in
theorem crash_nil : Calls Try.prog 29 #[.pointer none, .int .i64 a] w fun e w' => e = .returned (.int .i64 1) ∧ w = w' := by
  have HT := Lib.hid (find_nil w a)
  go_enter Try.func29, Try.ntmps29
  go_wp2_with fail
  refine HT.out.mono ?_
  rintro e w2 ⟨rfl, rfl⟩
  go_wp2
  go_ret
  exact ⟨rfl, rfl⟩
set_option maxRecDepth 100000 in
set_option maxHeartbeats 1000000 in
theorem learned_nil : Calls Try.prog 13 #[.pointer none, .int .i64 a] w fun e w' => e = .returned (.tuple #[.slice none 0 0, .bool false]) ∧ w = w' := by
  have HT := Lib.hid (find_nil w a)
  go_enter Try.func13, Try.ntmps13
  go_wp2_with fail
  refine HT.out.mono ?_
  rintro e w2 ⟨rfl, rfl⟩
  go_wp2
  go_ret2
  exact ⟨rfl, rfl⟩
set_option maxRecDepth 100000 in
set_option maxHeartbeats 2000000 in
theorem start_nil (vA : Option Addr) (vn vc : Nat) : Calls Try.prog 21 #[.pointer none, .int .i64 a, .slice vA vn vc] w fun e w' => e = .returned (.tuple #[.agg #[.int .u64 0, .int .i64 0], .int .i64 1]) ∧ Below w.heap.size w w' := by
  obtain ⟨W1, hW1⟩ : ∃ W1, W1 = w.alloc (.cells #[.int .u64 0, .int .i64 0] 44) := ⟨_, rfl⟩
  have hb1 : Below w.heap.size w W1 := by rw [hW1]; exact bel1P _
  have hk1 : Bk W1 w.heap.size 44 #[.int .u64 0, .int .i64 0] := by rw [hW1]; exact Bk.new w _ _
  have HT := Lib.hid (find_nil W1 a)
  have z0 : W1.cell? ⟨w.heap.size, 0, none⟩ = some (.int .u64 0) := hk1.cell 0
  have z1 : W1.cell? ⟨w.heap.size, 1, none⟩ = some (.int .i64 0) := hk1.cell 1
  have f0 := hk1.frozen 0
  have f1 := hk1.frozen 1
  have HW := Lib.hid hW1
  have HB := Lib.hid hb1
  have HK := Lib.hid hk1
  clear hW1 hb1 hk1
  go_enter Try.func21, Try.ntmps21
  go_upto_region 1 with (fail)
  rw [← HW.out]
  go_wp2_with fail
  refine HT.out.mono ?_
  rintro e w2 ⟨rfl, rfl⟩
  go_wp2
  have hk9 := HK.out.s2K (.int .u64 0) (.int .i64 0)
  have hkp := st2K W1 w.heap.size (.int .u64 0) (.int .i64 0)
  generalize (W1.setCell ⟨w.heap.size, 0, none⟩ (.int .u64 0)).setCell ⟨w.heap.size, 1, none⟩ (.int .i64 0) = w9 at *
  have j0 : w9.cell? ⟨w.heap.size, 0, none⟩ = some (.int .u64 0) := hk9.cell 0
  have j1 : w9.cell? ⟨w.heap.size, 1, none⟩ = some (.int .i64 0) := hk9.cell 1
  refine bodyPost_ret (by simp [results, Try.results21, go_sem, j0, j1]; try rfl) rfl ?_
  exact ⟨rfl, HB.out.trans (hkp.below (fun k e => by omega) HB.out.size)⟩
set_option maxRecDepth 100000 in
set_option maxHeartbeats 2000000 in
theorem look_nil : Calls Try.prog 25 #[.pointer none, .int .i64 a] w fun e w' => e = .returned (.tuple #[.agg #[.int .i64 0, .int .i64 0, .int .i64 0, .int .u64 0, .int .i64 0, .slice none 0 0], .bool false]) ∧ Below w.heap.size w w' := by
  obtain ⟨W1, hW1⟩ : ∃ W1, W1 = w.alloc (.cells #[.int .i64 0, .int .i64 0, .int .i64 0, .int .u64 0, .int .i64 0, .slice none 0 0] 63) := ⟨_, rfl⟩
  have hb1 : Below w.heap.size w W1 := by rw [hW1]; exact bel1P _
  have hk1 : Bk W1 w.heap.size 63 #[.int .i64 0, .int .i64 0, .int .i64 0, .int .u64 0, .int .i64 0, .slice none 0 0] := by rw [hW1]; exact Bk.new w _ _
  have HT := Lib.hid (there_nil W1 a)
  have z0 : W1.cell? ⟨w.heap.size, 0, none⟩ = some (.int .i64 0) := hk1.cell 0
  have z1 : W1.cell? ⟨w.heap.size, 1, none⟩ = some (.int .i64 0) := hk1.cell 1
  have z2 : W1.cell? ⟨w.heap.size, 2, none⟩ = some (.int .i64 0) := hk1.cell 2
  have z3 : W1.cell? ⟨w.heap.size, 3, none⟩ = some (.int .u64 0) := hk1.cell 3
  have z4 : W1.cell? ⟨w.heap.size, 4, none⟩ = some (.int .i64 0) := hk1.cell 4
  have z5 : W1.cell? ⟨w.heap.size, 5, none⟩ = some (.slice none 0 0) := hk1.cell 5
  have f0 := hk1.frozen 0
  have f1 := hk1.frozen 1
  have f2 := hk1.frozen 2
  have f3 := hk1.frozen 3
  have f4 := hk1.frozen 4
  have f5 := hk1.frozen 5
  have HW := Lib.hid hW1
  have HB := Lib.hid hb1
  have HK := Lib.hid hk1
  clear hW1 hb1 hk1
  go_enter Try.func25, Try.ntmps25
  go_upto_region 1 with (fail)
  rw [← HW.out]
  go_wp2_with fail
  refine HT.out.mono ?_
  rintro e w2 ⟨rfl, rfl⟩
  go_wp2
  have hkk := st6S W1 w.heap.size (.int .i64 0) (.int .i64 0) (.int .i64 0) (.int .u64 0) (.int .i64 0) (.slice none 0 0)
  have hk6 := HK.out.s6S (.int .i64 0) (.int .i64 0) (.int .i64 0) (.int .u64 0) (.int .i64 0) (.slice none 0 0)
  generalize (((((W1.setCell ⟨w.heap.size, 0, none⟩ (.int .i64 0)).setCell ⟨w.heap.size, 1, none⟩ (.int .i64 0)).setCell ⟨w.heap.size, 2, none⟩ (.int .i64 0)).setCell ⟨w.heap.size, 3, none⟩ (.int .u64 0)).setCell ⟨w.heap.size, 4, none⟩ (.int .i64 0)).setCell ⟨w.heap.size, 5, none⟩ (.slice none 0 0) = w5 at *
  have j0 : w5.cell? ⟨w.heap.size, 0, none⟩ = some (.int .i64 0) := hk6.cell 0
  have j1 : w5.cell? ⟨w.heap.size, 1, none⟩ = some (.int .i64 0) := hk6.cell 1
  have j2 : w5.cell? ⟨w.heap.size, 2, none⟩ = some (.int .i64 0) := hk6.cell 2
  have j3 : w5.cell? ⟨w.heap.size, 3, none⟩ = some (.int .u64 0) := hk6.cell 3
  have j4 : w5.cell? ⟨w.heap.size, 4, none⟩ = some (.int .i64 0) := hk6.cell 4
  have j5 : w5.cell? ⟨w.heap.size, 5, none⟩ = some (.slice none 0 0) := hk6.cell 5
  refine bodyPost_ret (by simp [results, Try.results25, go_sem, j0, j1, j2, j3, j4, j5]; try rfl) rfl ?_
  exact ⟨rfl, HB.out.trans (hkk.below (fun k e => by omega) HB.out.size)⟩
set_option maxRecDepth 100000 in
set_option maxHeartbeats 8000000 in
theorem voted_nil : Calls Try.prog 16 #[.pointer none, .int .i64 a] w (VotedR w Bl.zero Vt.none_) := by
  obtain ⟨W0, hW0⟩ : ∃ W0, W0 = w.alloc (.cells #[.int .u64 0, .int .i64 0] 44) := ⟨_, rfl⟩
  obtain ⟨W1, hW1⟩ : ∃ W1, W1 = W0.alloc (.cells #[.int .u64 0, .int .u64 0, .int .i64 0, .slice none 0 0] 46) := ⟨_, rfl⟩
  have hb00 : Below w.heap.size w W0 := by rw [hW0]; exact bel1P _
  have hb01 : Below W0.heap.size W0 W1 := by rw [hW1]; exact bel1P _
  have hs0 : W0.heap.size = w.heap.size + 1 := by rw [hW0]; simp
  have hs1 : W1.heap.size = w.heap.size + 2 := by rw [hW1, World.size_alloc, hs0]
  have hb0 := below_then hb00 hb01
  have hkb : Bk W1 w.heap.size 44 #[.int .u64 0, .int .i64 0] := by
    have : Bk W0 w.heap.size 44 #[.int .u64 0, .int .i64 0] := by rw [hW0]; exact Bk.new w _ _
    exact this.below hb01 this.lt
  have hkz : Bk W1 (w.heap.size + 1) 46 #[.int .u64 0, .int .u64 0, .int .i64 0, .slice none 0 0] := by
    have := Bk.new W0 46 #[.int .u64 0, .int .u64 0, .int .i64 0, .slice none 0 0]
    rw [← hW1, hs0] at this
    exact this
  have HT := Lib.hid (find_nil W1 a)
  have HW0 := Lib.hid hW0
  have HW1 := Lib.hid hW1
  have HZ : Hid (∀ W, Below W1.heap.size W1 W → (W.cell? ⟨w.heap.size, 0, none⟩ = some (.int .u64 0) ∧ W.cell? ⟨w.heap.size, 1, none⟩ = some (.int .i64 0) ∧ W.cell? ⟨w.heap.size + 1, 0, none⟩ = some (.int .u64 0) ∧ W.cell? ⟨w.heap.size + 1, 1, none⟩ = some (.int .u64 0) ∧ W.cell? ⟨w.heap.size + 1, 2, none⟩ = some (.int .i64 0) ∧ W.cell? ⟨w.heap.size + 1, 3, none⟩ = some (.slice none 0 0)) ∧
      (W.frozen? ⟨w.heap.size, 0, none⟩ = false ∧ W.frozen? ⟨w.heap.size, 1, none⟩ = false ∧ W.frozen? ⟨w.heap.size + 1, 0, none⟩ = false ∧ W.frozen? ⟨w.heap.size + 1, 1, none⟩ = false ∧ W.frozen? ⟨w.heap.size + 1, 2, none⟩ = false ∧ W.frozen? ⟨w.heap.size + 1, 3, none⟩ = false)) := Lib.hid fun W hb => by
    have q1 := hkb.below hb hkb.lt
    have q2 := hkz.below hb hkz.lt
    exact ⟨⟨q1.cell 0, q1.cell 1, q2.cell 0, q2.cell 1, q2.cell 2, q2.cell 3⟩, ⟨q1.frozen 0, q1.frozen 1, q2.frozen 0, q2.frozen 1, q2.frozen 2, q2.frozen 3⟩⟩
  -- the two results, stored
  have HSt : Hid (∀ (W : World) (pn : Nat) (pd : Int) (v : Vt) (A : Option Addr) (c : Nat), Below W1.heap.size W1 W → W.ownsRow W1.heap.size 5 1 (.slice A v.val.length c) v.val.length (u8s v.val) → ∀ w9, w9 = (((((W.setCell ⟨w.heap.size, 0, none⟩ (.int .u64 (pn : Int))).setCell ⟨w.heap.size, 1, none⟩ (.int .i64 pd)).setCell ⟨w.heap.size + 1, 0, none⟩ (.int .u64 (v.slot : Int))).setCell ⟨w.heap.size + 1, 1, none⟩ (.int .u64 (v.bal.n : Int))).setCell ⟨w.heap.size + 1, 2, none⟩ (.int .i64 v.bal.node)).setCell ⟨w.heap.size + 1, 3, none⟩ (.slice A v.val.length c) →
      Bk w9 w.heap.size 44 #[.int .u64 (pn : Int), .int .i64 pd] ∧ Bk w9 (w.heap.size + 1) 46 #[.int .u64 (v.slot : Int), .int .u64 (v.bal.n : Int), .int .i64 v.bal.node, .slice A v.val.length c] ∧ w9.ownsRow w.heap.size 5 1 (.slice A v.val.length c) v.val.length (u8s v.val) ∧ Below w.heap.size w w9) := Lib.hid fun W pn pd v A c hb ho w9 hw9 => by
    have q1 := hkb.below hb hkb.lt
    have q2 := hkz.below hb hkz.lt
    obtain ⟨w8, hw8⟩ : ∃ w8, w8 = (W.setCell ⟨w.heap.size, 0, none⟩ (.int .u64 (pn : Int))).setCell ⟨w.heap.size, 1, none⟩ (.int .i64 pd) := ⟨_, rfl⟩
    have e1 : Kp (fun k => k = w.heap.size) W w8 := by rw [hw8]; exact (Kp.set_ (F := fun k => k = w.heap.size) (p := ⟨w.heap.size, 0, none⟩) rfl _).trans (Kp.set_ (F := fun k => k = w.heap.size) (p := ⟨w.heap.size, 1, none⟩) rfl _)
    have q3 : Bk w8 w.heap.size 44 #[.int .u64 (pn : Int), .int .i64 pd] := by rw [hw8]; exact (q1.set_ 0 (.int .u64 (pn : Int))).set_ 1 (.int .i64 pd)
    rw [← hw8] at hw9
    have e2 : Kp (fun k => k = w.heap.size + 1) w8 w9 := by rw [hw9]; exact st4P w8 (w.heap.size + 1) _ _ _ _
    have q4 := q2.kp e1 (fun e => by omega)
    have q5 : Bk w9 (w.heap.size + 1) 46 #[.int .u64 (v.slot : Int), .int .u64 (v.bal.n : Int), .int .i64 v.bal.node, .slice A v.val.length c] := by rw [hw9]; exact q4.s4P _ _ _ _
    have hsz := hb.size
    refine ⟨q3.kp e2 (fun e => by omega), q5, own_mono (own_kp (own_kp ho e1 fun k e e' => by have := (ho.lt k e).1; omega) e2 fun k e e' => by have := (ho.lt k e).1; omega) (by omega), ?_⟩
    exact (((Kp.of_below (below_then hb0 hb) : Kp (fun k => w.heap.size ≤ k) w W).trans (e1.mono fun k e => (by omega : w.heap.size ≤ k))).trans (e2.mono fun k e => (by omega : w.heap.size ≤ k))).below (fun k e => e) (Nat.le_refl _)
  · clear hW0 hW1 hb00 hb01 hb0 hkb hkz hs1
    go_enter Try.func16, Try.ntmps16
    go_upto_region 1 with (fail)
    rw [← HW0.out, ← HW1.out]
    go_wp2_with fail
    refine HT.out.mono ?_
    rintro e w2 ⟨rfl, rfl⟩
    obtain ⟨⟨c0, c1, c2, c3, c4, c5⟩, ⟨f0, f1, f2, f3, f4, f5⟩⟩ := HZ.out W1 (Below.refl _ _)
    go_wp2
    obtain ⟨w9, hw9⟩ : ∃ w9, w9 = (((((W1.setCell ⟨w.heap.size, 0, none⟩ (.int .u64 0)).setCell ⟨w.heap.size, 1, none⟩ (.int .i64 0)).setCell ⟨w.heap.size + 1, 0, none⟩ (.int .u64 0)).setCell ⟨w.heap.size + 1, 1, none⟩ (.int .u64 0)).setCell ⟨w.heap.size + 1, 2, none⟩ (.int .i64 0)).setCell ⟨w.heap.size + 1, 3, none⟩ (.slice none 0 0) := ⟨_, rfl⟩
    rw [← hw9]
    obtain ⟨p1, p2, p3, p4⟩ := HSt.out W1 0 0 Vt.none_ none 0 (Below.refl _ _) (World.ownsRow_nil _ _ _ _) w9 hw9
    have j0 : w9.cell? ⟨w.heap.size, 0, none⟩ = some (.int .u64 0) := p1.cell 0
    have j1 : w9.cell? ⟨w.heap.size, 1, none⟩ = some (.int .i64 0) := p1.cell 1
    have j2 : w9.cell? ⟨w.heap.size + 1, 0, none⟩ = some (.int .u64 0) := p2.cell 0
    have j3 : w9.cell? ⟨w.heap.size + 1, 1, none⟩ = some (.int .u64 0) := p2.cell 1
    have j4 : w9.cell? ⟨w.heap.size + 1, 2, none⟩ = some (.int .i64 0) := p2.cell 2
    have j5 : w9.cell? ⟨w.heap.size + 1, 3, none⟩ = some (.slice none 0 0) := p2.cell 3
    clear hw9
    refine bodyPost_ret (by simp [results, Try.results16, go_sem, j0, j1, j2, j3, j4, j5]; try rfl) rfl ?_
    exact ⟨none, 0, rfl, p3, p4⟩
end
set_option maxRecDepth 100000 in
set_option maxHeartbeats 8000000 in
theorem synodNil_walk (a : Int) (A : Option Addr) (n c : Nat) (l : List UInt8) (W : World) (_ : -9223372036854775808 ≤ a) (_ : a ≤ 9223372036854775807) (_ : n ≤ c) (_ : c ≤ 9223372036854775807) (_ : Rd W W.heap.size A n l) : Calls Try.prog 8 #[.int .i64 a, .slice A n c] W fun e W' => e = .returned (.bool true) ∧ Below W.heap.size W W' := by
  have H1 := Lib.hid (fun w => start_nil w a A n c)
  have H2 := Lib.hid (fun w => look_nil w a)
  have H3 := Lib.hid (fun w => learned_nil w a)
  have H4 : Hid (∀ w, Calls Try.prog 16 #[.pointer none, .int .i64 a] w fun e w' => ∃ vA vc, e = .returned (.tuple #[.agg #[.int .u64 0, .int .i64 0], .agg #[.int .u64 0, .int .u64 0, .int .i64 0, .slice vA 0 vc]]) ∧ Below w.heap.size w w') := Lib.hid fun w => by
    refine (voted_nil w a).mono ?_
    rintro e w' ⟨vA, vc, rfl, _, hb⟩
    exact ⟨vA, vc, rfl, hb⟩
  have H5 : Hid (∀ w, Calls Try.prog 23 #[.agg #[.int .i64 1, .int .i64 2, .int .i64 1, .int .i64 1, .slice none 0 0]] w fun e w' => e = .returned (.tuple #[.pointer none, .int .i64 80]) ∧ Below w.heap.size w w') := Lib.hid fun w => by
    have hr : (⟨1, 2, 1, 1, []⟩ : Qm).right = 80 := by decide +kernel
    have := new_bad (q := ⟨1, 2, 1, 1, []⟩) (A := none) (n := 0) (c := 0) (w := w) ⟨⟨by decide, by decide⟩, ⟨by decide, by decide⟩, ⟨by decide, by decide⟩, ⟨by decide, by decide⟩, by decide, RdI.nil _ _ _⟩ (by rw [hr]; decide)
    rw [hr] at this
    exact this
  have H6 := Lib.hid (fun w => take_nil w a)
  have H7 := Lib.hid (fun w => drop_nil w a)
  have H8 := Lib.hid (fun w => twice_nil w a)
  have H9 := Lib.hid (fun w => crash_nil w a)
  have H10 := Lib.hid (fun w => rlen_nil w)
  have H11 := Lib.hid (fun w => known11_any w)
  go_enter Try.func8, Try.ntmps8
  go_wp2_with fail
  refine (H1.out _).mono ?_
  rintro e w1 ⟨rfl, hb1⟩
  obtain ⟨w2, hw2⟩ : ∃ w2, w2 = w1.alloc (.cells #[.int .u64 0, .int .i64 0] 44) := ⟨_, rfl⟩
  have hb2 : Below w1.heap.size w1 w2 := by rw [hw2]; exact bel1P _
  have hk2 : Bk w2 w1.heap.size 44 #[.int .u64 0, .int .i64 0] := by rw [hw2]; exact Bk.new w1 _ _
  have HB2 := Lib.hid (below_then hb1 hb2)
  have HK2 := Lib.hid hk2
  have HW2 := Lib.hid hw2
  clear hb1 hw2 hb2 hk2
  go_upto_region 3 with (fail)
  rw [← HW2.out]
  go_wp2_with fail
  refine (H2.out _).mono ?_
  rintro e w3 ⟨rfl, hb3⟩
  obtain ⟨w4, hw4⟩ : ∃ w4, w4 = w3.alloc (.cells #[.int .i64 0, .int .i64 0, .int .i64 0, .int .u64 0, .int .i64 0, .slice none 0 0] 63) := ⟨_, rfl⟩
  have hb4 : Below w3.heap.size w3 w4 := by rw [hw4]; exact bel1P _
  have HB24 := Lib.hid (below_then hb3 hb4)
  have HW4 := Lib.hid hw4
  clear hb3 hw4 hb4
  go_upto_region 4 with (fail)
  rw [← HW4.out]
  go_wp2_with fail
  refine (H3.out _).mono ?_
  rintro e w5 ⟨rfl, rfl⟩
  go_wp2_with fail
  refine (H4.out _).mono ?_
  rintro e w6 ⟨vA, vc, rfl, hb6⟩
  obtain ⟨w7, hw7⟩ : ∃ w7, w7 = w6.alloc (.cells #[.int .u64 0, .int .i64 0] 44) := ⟨_, rfl⟩
  obtain ⟨w8, hw8⟩ : ∃ w8, w8 = w7.alloc (.cells #[.int .u64 0, .int .u64 0, .int .i64 0, .slice vA 0 vc] 46) := ⟨_, rfl⟩
  have hb7 : Below w6.heap.size w6 w7 := by rw [hw7]; exact bel1P _
  have hs7 : w7.heap.size = w6.heap.size + 1 := by rw [hw7]; simp
  have hb8 : Below w7.heap.size w7 w8 := by rw [hw8]; exact bel1P _
  have hk7 : Bk w7 w6.heap.size 44 #[.int .u64 0, .int .i64 0] := by rw [hw7]; exact Bk.new w6 _ _
  have hk8 : Bk w8 (w6.heap.size + 1) 46 #[.int .u64 0, .int .u64 0, .int .i64 0, .slice vA 0 vc] := by rw [hw8, ← hs7]; exact Bk.new w7 _ _
  have hb48 := below_then hb6 (below_then hb7 hb8)
  have HB28 := Lib.hid (below_then HB24.out hb48)
  have HK7 := Lib.hid (hk7.below hb8 hk7.lt)
  have HK8 := Lib.hid hk8
  have HW7 := Lib.hid hw7
  have HW8 := Lib.hid hw8
  have hs7' := hs7
  clear hb6 hw7 hw8 hb7 hb8 hk7 hk8 hb48 hs7
  go_upto_region 6 with (fail)
  rw [← HW7.out, ← HW8.out]
  go_wp2_with fail
  refine (H5.out _).mono ?_
  rintro e w9 ⟨rfl, hb9⟩
  have hk2 := HK2.out.below (below_then HB28.out hb9) HK2.out.lt
  have hk7 := HK7.out.below hb9 HK7.out.lt
  have hk8 := HK8.out.below hb9 HK8.out.lt
  have p0 : w9.cell? ⟨w1.heap.size, 0, none⟩ = some (.int .u64 0) := hk2.cell 0
  have p1 : w9.cell? ⟨w1.heap.size, 1, none⟩ = some (.int .i64 0) := hk2.cell 1
  have q0 : w9.cell? ⟨w6.heap.size, 0, none⟩ = some (.int .u64 0) := hk7.cell 0
  have q1 : w9.cell? ⟨w6.heap.size, 1, none⟩ = some (.int .i64 0) := hk7.cell 1
  have r0 : w9.cell? ⟨w6.heap.size + 1, 0, none⟩ = some (.int .u64 0) := hk8.cell 0
  have HB9 := Lib.hid (HB2.out.trans ((below_then HB28.out hb9).mono HB2.out.size))
  clear hk2 hk7 hk8 hb9
  go_wp2_with fail
  refine (H6.out _).mono ?_
  rintro e wx ⟨rfl, rfl⟩
  go_wp2_with fail
  refine (H7.out _).mono ?_
  rintro e wx ⟨rfl, rfl⟩
  go_wp2_with fail
  refine (H8.out _).mono ?_
  rintro e w10 ⟨rfl, hb10⟩
  have HB10 := Lib.hid (below_then HB9.out hb10)
  clear hb10 p0 p1 q0 q1 r0
  go_wp2_with fail
  refine (H9.out _).mono ?_
  rintro e wx ⟨rfl, rfl⟩
  go_wp2_with fail
  refine (H10.out _).mono ?_
  rintro e wx ⟨rfl, rfl⟩
  go_wp2_with fail
  refine (H11.out _).mono ?_
  rintro e w11 ⟨rfl, hb11⟩
  have HB11 := Lib.hid (below_then HB10.out hb11)
  clear hb11
  go_wp2
  go_ret
  exact ⟨rfl, HB11.out⟩
namespace synodNil
set_option maxRecDepth 100000 in
theorem lifted (os : Os) (started : os.Started) (H : Type) (enc : TypeId × Value → H) :
    ReturnsInHanded {} Try.checked os 8 .any (Rows.synodNilSpec.pre6 enc Try.prog Try.f8 Rows.synodNilRow.domain false) (Rows.synodNilSpec.post enc Try.prog Try.f8 false true false false) := by
  refine law_lift started (by kernel_rfl) Try.func8
    (ChangeSpec.witness6 (enc := enc) (C := Try.checked) false ⟨#[], #[.int .i64 0, .slice none 0 0], []⟩ 8 (by kernel_rfl) (by kernel_rfl) (by kernel_rfl) (by kernel_rfl))
    rfl ?_ (by kernel_rfl) (by kernel_rfl) ?_
  · intro ds h
    match ds, h with
    | [_, _], _ => rfl
  intro W base args ds p g
  have hA := g.trod
  have hval := g.val
  rw [Try.params8] at hA hval
  obtain ⟨v0, vs0, d0, ds0, p0, q0, hargs, rfl, rfl, h0, r0⟩ := trodAll_cons hA
  obtain ⟨v1, vs1, d1, ds1, p1, q1, rfl, rfl, rfl, h1, r1⟩ := trodAll_cons r0
  obtain ⟨rfl, rfl, rfl⟩ := trodAll_nil r1
  obtain rfl : args = #[v0, v1] := by cases args; simp_all
  obtain ⟨a0, rfl, _, _, w0⟩ := open_int Try.underlying3 (hval 0 3 v0 rfl rfl) h0
  have b0 := bounds_i64 w0
  obtain ⟨A1, n1, c1, l1, rfl, hc1, hm1, hr1⟩ := given_bytes (hval 1 31 v1 rfl rfl) h1
  exact synodNil_walk a0 A1 n1 c1 l1 W b0.1 b0.2 hc1 hm1 hr1

theorem over : Rows.synodNilRow.holds Try.pinned (OpenSpec.ofChange Rows.synodNilSpec) :=
  OpenClaim.holds_of_wide 8 Try.f8 rfl rfl rfl rfl rfl rfl rfl ⟨rfl, rfl, rfl, rfl, rfl⟩ rfl rfl rfl rfl rfl (by kernel_rfl) Try.func8 (by kernel_rfl)
    (of_decide_eq_true (by kernel_rfl)) (by unfold Func.isWrapper; first | (rw [if_pos (by decide +kernel)]; kernel_rfl) | (rw [if_neg (by decide +kernel)]; exact ⟨rfl, rfl⟩))
    (fun os started H enc _ => lifted os started H enc)
end synodNil

theorem SynodNil_proved : Rows.SynodNilSaid := synodNil.over
#print axioms SynodNil_proved
end Go.Proofs.Ytjapmolmgfaocaa
