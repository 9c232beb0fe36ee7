/- Layer 14: the comparison of Order. -/
import Derived.Test.YtmdjdnibblebcaaDoorBtM
import Derived.Test.YtmdjdnibblebcaaDoorBtLay
import Derived.Test.YtmdjdnibblebcaaDoorQTail
import Derived.Deep.QuietTactic
namespace Go.Proofs.YtmdjdnibblebcaaDoor
open Go.RowKit Go.Shelf Go.Lib Go.Sort

def awayI (v : Vw) (home : Int) (i : Nat) : Int := if (v.site i : Int) = home then 0 else 1
def or3 (x y z : Int) : Int := if x = 0 then (if y = 0 then z else y) else x
def cfV (v : Vw) (home : Int) (i j : Nat) : Int := or3 (Lib.compareInt (awayI v home i) (awayI v home j)) (Lib.compareInt (v.site i) (v.site j)) (Lib.compareInt i j)
section
variable {w : World} {g b c bv bh ba : Nat} {v : Vw} {home : Int}
set_option maxRecDepth 100000 in
theorem away_any (h : PV w g b c v) (i : Nat) (hi : i < v.n) (hv : w.cell? ⟨bv, 0, none⟩ = some (.pointer (some ⟨g, 0, none⟩))) (hh : w.cell? ⟨bh, 0, none⟩ = some (.int .i64 home)) :
    Calls Tryd.prog 32 #[.int .i64 (i : Int), .pointer (some ⟨bv, 0, none⟩), .pointer (some ⟨bh, 0, none⟩)] w fun e w' => e = .returned (.int .i64 (awayI v home i)) ∧ ∃ q, w' = w.drewN q := by
  have c0 := h.c0
  have s0 := h.site i hi
  have m0 : ¬ (i : Int) < 0 := by omega
  have m1 : (i : Int) < (v.n : Int) := by omega
  clear h
  unfold awayI
  by_cases e : (v.site i : Int) = home
  · rw [if_pos e]
    have e1 : ((v.site i : Int) == home) = true := by simpa using e
    go_enter Tryd.func32, Tryd.ntmps32
    go_wp2_with (fail)
    go_quiet (fail)
    go_wp2
    go_ret
    exact ⟨rfl, _, rfl⟩
  · rw [if_neg e]
    have e1 : ((v.site i : Int) == home) = false := by simpa using e
    go_enter Tryd.func32, Tryd.ntmps32
    go_wp2_with (fail)
    go_quiet (fail)
    go_wp2
    go_ret
    exact ⟨rfl, _, rfl⟩
theorem compare_any (x y : Int) (W : World) : Calls Tryd.prog 36 #[.int .i64 x, .int .i64 y] W fun e w' => e = .returned (.int .i64 (Lib.compareInt x y)) ∧ w' = W := AnyG.cmp_Compare_int layC x y W
set_option maxRecDepth 100000 in
theorem or_any (x y z : Int) (B : Nat) (W : World) (h0 : W.cell? ⟨B, 0, none⟩ = some (.int .i64 x)) (h1 : W.cell? ⟨B, 1, none⟩ = some (.int .i64 y)) (h2 : W.cell? ⟨B, 2, none⟩ = some (.int .i64 z)) :
    Calls Tryd.prog 35 #[.slice (some ⟨B, 0, none⟩) 3 3] W fun e w' => e = .returned (.int .i64 (or3 x y z)) ∧ w' = W := by
  unfold or3
  by_cases ex : x = 0
  · rw [if_pos ex]
    subst ex
    by_cases ey : y = 0
    · rw [if_pos ey]
      subst ey
      by_cases ez : z = 0
      · subst ez
        go_enter Tryd.func35, Tryd.ntmps35
        go_wp2
        refine wp_loop_rounds 4 ?_
        repeat (rw [rounds_succ]; go_wp2)
        go_ret
        exact ⟨rfl, rfl⟩
      · have ez1 : (z == 0) = false := by simpa using ez
        go_enter Tryd.func35, Tryd.ntmps35
        go_wp2
        refine wp_loop_rounds 4 ?_
        repeat (rw [rounds_succ]; go_wp2)
        go_ret
        exact ⟨rfl, rfl⟩
    · rw [if_neg ey]
      have ey1 : (y == 0) = false := by simpa using ey
      go_enter Tryd.func35, Tryd.ntmps35
      go_wp2
      refine wp_loop_rounds 4 ?_
      repeat (rw [rounds_succ]; go_wp2)
      go_ret
      exact ⟨rfl, rfl⟩
  · rw [if_neg ex]
    have ex1 : (x == 0) = false := by simpa using ex
    go_enter Tryd.func35, Tryd.ntmps35
    go_wp2
    refine wp_loop_rounds 4 ?_
    repeat (rw [rounds_succ]; go_wp2)
    go_ret
    exact ⟨rfl, rfl⟩
set_option maxRecDepth 100000 in
set_option maxHeartbeats 400000 in
theorem cmp_any (h : PV w g b c v) (i j : Nat) (hi : i < v.n) (hj : j < v.n) (hv : w.cell? ⟨bv, 0, none⟩ = some (.pointer (some ⟨g, 0, none⟩))) (hh : w.cell? ⟨bh, 0, none⟩ = some (.int .i64 home))
    (ha : w.cell? ⟨ba, 0, none⟩ = some (.func (.func 32) #[] #[.pointer (some ⟨bv, 0, none⟩), .pointer (some ⟨bh, 0, none⟩)])) :
    Calls Tryd.prog 34 #[.int .i64 (i : Int), .int .i64 (j : Int), .pointer (some ⟨ba, 0, none⟩), .pointer (some ⟨bv, 0, none⟩)] w fun e w' => e = .returned (.int .i64 (cfV v home i j)) ∧ ∃ q os, w' = grow (w.drewN q) os := by
  have HA : Hid (∀ q k, k < v.n → Calls Tryd.prog 32 #[.int .i64 (k : Int), .pointer (some ⟨bv, 0, none⟩), .pointer (some ⟨bh, 0, none⟩)] (w.drewN q) fun e w' => e = .returned (.int .i64 (awayI v home k)) ∧ ∃ m, w' = (w.drewN q).drewN m) :=
    Lib.hid fun q k hk => away_any (h.kp (F := fun _ => False) (Kp.drewN _ w q) (fun h => h) (fun h => h)) k hk hv hh
  have HC : Hid (∀ q x y, Calls Tryd.prog 36 #[.int .i64 x, .int .i64 y] (w.drewN q) fun e w' => e = .returned (.int .i64 (Lib.compareInt x y)) ∧ w' = w.drewN q) := Lib.hid fun q x y => compare_any x y _
  have c0 := h.c0
  have si := h.site i hi
  have sj := h.site j hj
  have mi0 : ¬ (i : Int) < 0 := by omega
  have mi1 : (i : Int) < (v.n : Int) := by omega
  have mj0 : ¬ (j : Int) < 0 := by omega
  have mj1 : (j : Int) < (v.n : Int) := by omega
  clear h
  unfold cfV
  go_enter Tryd.func34, Tryd.ntmps34
  go_wp2_with (fail)
  refine wp_region_quiet_tail 27 (by kernel_rfl) (by kernel_rfl) ?_
  simp only [List.take_succ_cons, List.take_zero, List.drop_succ_cons, List.drop_zero]
  repeat (quiet_step (first
    | (with_reducible exact Calls.quiet_of_same (HC.out _ _ _))
    | (with_reducible exact Calls.quiet_of (HA.out _ i hi))
    | (with_reducible exact Calls.quiet_of (HA.out _ j hj))))
  refine wpQuiet_nil ?_
  rintro w' ⟨nq, rfl⟩
  generalize hx : compareInt (awayI v home i) (awayI v home j) = x
  generalize hy : compareInt (v.site i : Int) (v.site j : Int) = y
  generalize hz : compareInt (i : Int) (j : Int) = z
  have HX := Lib.hid hx
  have HY := Lib.hid hy
  have HZ := Lib.hid hz
  clear hx hy hz
  obtain ⟨w2, hw2⟩ : ∃ w2, w2 = (w.drewN nq).alloc (.cells #[.int .i64 x, .int .i64 y, .int .i64 z] 3) := ⟨_, rfl⟩
  have hk2 : Bk w2 w.heap.size 3 #[.int .i64 x, .int .i64 y, .int .i64 z] := by rw [hw2]; exact Bk.new (w.drewN nq) _ _
  have HO := Lib.hid (or_any x y z w.heap.size w2 (hk2.cell 0) (hk2.cell 1) (hk2.cell 2))
  have HW := Lib.hid hw2
  have HG : Hid (w2 = grow (w.drewN nq) #[.cells #[.int .i64 x, .int .i64 y, .int .i64 z] 3 (0, 0)]) := by
    refine Lib.hid ?_
    rw [hw2]
    rfl
  clear hw2 hk2
  go_wp2_with fail
  rw [← HW.out]
  refine HO.out.mono ?_
  rintro e w3 ⟨rfl, rfl⟩
  go_wp2
  go_ret
  exact ⟨by rw [HX.out, HY.out, HZ.out]; rfl, _, _, HG.out⟩
end
end Go.Proofs.YtmdjdnibblebcaaDoor
