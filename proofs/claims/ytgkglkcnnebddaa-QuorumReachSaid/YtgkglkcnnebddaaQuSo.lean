/- Layer 8: slices.Sort of a short row that is sorted. -/
import Derived.Test.YtgkglkcnnebddaaQuZ
import Derived.Test.YtgkglkcnnebddaaQuLen
namespace Go.Proofs.Ytgkglkcnnebddaa
open Go.RowKit Go.Lib Go.Shelf

set_option maxRecDepth 100000 in
set_option maxHeartbeats 1000000 in
theorem isNaN_u32 (x : Int) (W : World) : Calls Try.prog 65 #[.int .u32 x] W fun e w' => e = .returned (.bool false) ∧ W = w' := by
  go_enter Try.func65, Try.ntmps65
  go_wp2
  go_ret
  exact ⟨ret_bool (by simp), rfl⟩
set_option maxRecDepth 100000 in
set_option maxHeartbeats 1000000 in
theorem less_u32 (x y : Int) (W : World) : Calls Try.prog 53 #[.int .u32 x, .int .u32 y] W fun e w' => e = .returned (.bool (decide (x < y))) ∧ Below W.heap.size W w' := by
  go_enter Try.func53, Try.ntmps53
  go_wp2_with fail
  refine (isNaN_u32 x W).mono ?_
  rintro e w1 ⟨rfl, rfl⟩
  go_wp2
  go_ret
  exact ⟨ret_bool (by simp), Below.refl _ _⟩
set_option maxRecDepth 100000 in
set_option maxHeartbeats 1000000 in
theorem len_small (n : Nat) (hn : n ≤ 12) (W : World) : Calls Try.prog 38 #[.int .u64 (n : Int)] W fun e w' => (∃ k : Int, e = .returned (.int .i64 k)) ∧ Below W.heap.size W w' := by
  go_enter Try.func38, Try.ntmps38
  go_wp2_with fail
  refine (len64q_any (n : Int) W (by omega) (by omega)).mono ?_
  rintro e w1 ⟨rfl, rfl⟩
  go_wp2
  go_ret
  exact ⟨⟨_, rfl⟩, Below.refl _ _⟩
set_option maxRecDepth 100000 in
set_option maxHeartbeats 1000000 in
theorem ins_sorted (A : Option Addr) (n c : Nat) (l : List Nat) (w : World) (hn : n ≤ 12) (hl : l.Pairwise (· ≤ ·)) (hr : RdU w w.heap.size A n l) : Calls Try.prog 47 #[.slice A n c, .int .i64 0, .int .i64 (n : Int)] w fun e w' => e = .returned (.tuple #[]) ∧ Below w.heap.size w w' := by
  go_enter Try.func47, Try.ntmps47
  go_wp2_with fail
  go_loopg [6] (n + 1) (fun g i wr => ∃ k : Nat, i = .int .i64 (k : Int) ∧ 1 ≤ k ∧ k ≤ n + 1 ∧ k + g = n + 2 ∧ Below w.heap.size w wr)
  case atStart => exact ⟨1, rfl, by omega, by omega, by omega, Below.refl _ _⟩
  case round =>
    obtain ⟨k, rfl, hk1, hkn1, hkg, HH⟩ := hrel
    by_cases hkn : k < n
    · obtain ⟨m, hm⟩ : ∃ m, k = m + 1 := ⟨k - 1, by omega⟩
      obtain ⟨b, o, rfl, hb, hc⟩ := hr.2 (by omega)
      have hk0 : k < l.length := by have := hr.1; omega
      have hm0 : m < l.length := by omega
      have hc1 := (HH.cell (p := ⟨b, o + k, none⟩) hb).trans (hc k hk0)
      have hc2 := (HH.cell (p := ⟨b, o + m, none⟩) hb).trans (hc m hm0)
      have hle : l[m] ≤ l[k] := List.pairwise_iff_getElem.1 hl m k hm0 hk0 (by omega)
      obtain ⟨y, hy⟩ : ∃ y, y = l[m] := ⟨_, rfl⟩
      obtain ⟨x, hx⟩ : ∃ x, x = l[k] := ⟨_, rfl⟩
      rw [← hx] at hc1 hle
      rw [← hy] at hc2 hle
      have hlt : decide ((x : Int) < (y : Int)) = false := decide_eq_false (by omega)
      have HL : Hid (∀ W, Calls Try.prog 53 #[.int .u32 (x : Int), .int .u32 (y : Int)] W fun e w' => e = .returned (.bool false) ∧ Below W.heap.size W w') := Lib.hid fun W => by rw [← hlt]; exact less_u32 x y W
      have HR := Lib.hid hr
      have HB := Lib.hid HH
      have g0 : (0 : Int) ≤ (k : Int) := by omega
      have g1 : (k : Int) < (n : Int) := by omega
      have g2 : (0 : Int) ≤ (m : Int) := by omega
      have g3 : (m : Int) < (n : Int) := by omega
      have g4 : 0 < k := by omega
      have ew2 : wrap64 ((k : Int) - 1) = (m : Int) := by unfold wrap64; omega
      have ew : IntKind.i64.wrap ((k : Int) - 1) = (m : Int) := by rw [IntKind.wrap_i64]; first | exact ew2 | omega
      obtain ⟨G, hG⟩ : ∃ G, G = gk := ⟨_, rfl⟩
      have HC : Hid (∀ W, Below wr.heap.size wr W → (W.cell? ⟨b, o + k, none⟩ = some (.int .u32 (x : Int)) ∧ W.cell? ⟨b, o + m, none⟩ = some (.int .u32 (y : Int))) ∧ Below wr.heap.size wr W) := Lib.hid fun W hb2 =>
        ⟨⟨(hb2.cell (p := ⟨b, o + k, none⟩) (by have := HB.out.size; show b < _; omega)).trans hc1, (hb2.cell (p := ⟨b, o + m, none⟩) (by have := HB.out.size; show b < _; omega)).trans hc2⟩, hb2⟩
      have HM := Lib.hid hm
      clear hc hx hy hlt hr HH hm
      go_wp2_with fail
      go_loopg [7] 1 (fun g j wr2 => j = .int .i64 (k : Int) ∧ wr = wr2)
      case atStart => exact ⟨rfl, rfl⟩
      case round =>
        obtain ⟨rfl, rfl⟩ := hrel
        go_wp2_with fail
        go_region_held3 (fun W => (W.cell? ⟨b, o + k, none⟩ = some (.int .u32 (x : Int)) ∧ W.cell? ⟨b, o + m, none⟩ = some (.int .u32 (y : Int))) ∧ Below wr.heap.size wr W) (first | (refine HC.out _ ?_; (repeat' (first | assumption | exact Below.refl _ _ | exact Nat.le_refl _ | apply Below.drew)); done) | go_keep)
          (first
            | (go_at_call 53; (with_reducible refine (HL.out _).mono ?_); rintro e W4 ⟨rfl, hb4⟩; have hd4 : Below wr.heap.size wr W4 := below_then (by (repeat' (first | assumption | exact Below.refl _ _ | apply Below.drew))) hb4; have hk4 := HC.out W4 hd4))
        all_goals
          rename_i hH
          obtain ⟨_, hbW⟩ := hH
          have HF := Lib.hid (below_then HB.out hbW)
          clear hbW hk4 hd4 hb4 HC hc1 hc2 HL ew ew2
          go_wp2
          go_roundg (G - 1)
          case measure => omega
          case rel => exact ⟨k + 1, by go_num, by omega, by omega, by omega, HF.out⟩
    · go_wp2
      go_end0
      exact ⟨rfl, HH⟩
set_option maxRecDepth 100000 in
set_option maxHeartbeats 1000000 in
theorem pdq_sorted (A : Option Addr) (n c : Nat) (l : List Nat) (w : World) (z : Int) (hn : n ≤ 12) (hl : l.Pairwise (· ≤ ·)) (hr : RdU w w.heap.size A n l) : Calls Try.prog 37 #[.slice A n c, .int .i64 0, .int .i64 (n : Int), .int .i64 z] w fun e w' => e = .returned (.tuple #[]) ∧ Below w.heap.size w w' := by
  have H := Lib.hid (ins_sorted A n c l)
  go_enter Try.func37, Try.ntmps37
  go_wp2_with fail
  go_loopg [1, 2] 1 (fun g a b wr => a = .int .i64 0 ∧ b = .int .i64 (n : Int) ∧ w = wr)
  case atStart => exact ⟨rfl, rfl, rfl⟩
  case round =>
    obtain ⟨rfl, rfl, rfl⟩ := hrel
    go_wp2_with fail
    refine (H.out w hn hl hr).mono ?_
    rintro e w1 ⟨rfl, hb⟩
    go_wp2
    refine bodyPost_ret (results_none rfl _ _ _) rfl ?_
    exact ⟨rfl, hb⟩
set_option maxRecDepth 100000 in
set_option maxHeartbeats 1000000 in
theorem sort_sorted (A : Option Addr) (n c : Nat) (l : List Nat) (w : World) (hn : n ≤ 12) (hl : l.Pairwise (· ≤ ·)) (hr : RdU w w.heap.size A n l) : Calls Try.prog 24 #[.slice A n c] w fun e w' => e = .returned (.tuple #[]) ∧ Below w.heap.size w w' := by
  have H := Lib.hid (fun w z => pdq_sorted A n c l w z)
  go_enter Try.func24, Try.ntmps24
  go_wp2_with fail
  refine (len_small n hn w).mono ?_
  rintro e w1 ⟨⟨k, rfl⟩, hb1⟩
  have HB1 := Lib.hid hb1
  clear hb1
  go_wp2_with fail
  refine (H.out w1 k hn hl (hr.up HB1.out)).mono ?_
  rintro e w2 ⟨rfl, hb2⟩
  have HB2 := Lib.hid (below_then HB1.out hb2)
  clear hb2
  go_wp2
  go_end0
  exact ⟨rfl, HB2.out⟩
end Go.Proofs.Ytgkglkcnnebddaa
