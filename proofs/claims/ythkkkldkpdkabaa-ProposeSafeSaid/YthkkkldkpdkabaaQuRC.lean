/- Layer 8: the document's Has, Count. -/
import Derived.Test.YthkkkldkpdkabaaQuY
import Derived.Test.YthkkkldkpdkabaaQuE
namespace Go.Proofs.Ythkkkldkpdkabaa
open Go.RowKit Go.Lib Go.Shelf

theorem has_num (s i : Nat) : ((s : Int) / 2 ^ i).tmod 2 = ((if s.testBit i = true then 1 else 0 : Nat) : Int) := by
  rw [show (2 : Int) ^ i = ((2 ^ i : Nat) : Int) by simp, show ((s : Int) / ((2 ^ i : Nat) : Int)) = ((s / 2 ^ i : Nat) : Int) by simp, show (2 : Int) = ((2 : Nat) : Int) from rfl, ← Int.ofNat_tmod]
  congr 1
  rw [Nat.testBit_eq_decide_div_mod_eq]
  by_cases h : s / 2 ^ i % 2 = 1
  · rw [h]; rfl
  · rw [if_neg (by simpa using h)]; omega
set_option maxRecDepth 100000 in
set_option maxHeartbeats 1000000 in
theorem has_any (s i : Nat) (hi : i < 12) (W : World) : Calls Try.prog 23 #[.int .u32 (s : Int), .int .i64 (i : Int)] W fun e w' => e = .returned (.bool (s.testBit i)) ∧ W = w' := by
  have hn := has_num s i
  have g0 : (0 : Int) ≤ (i : Int) := by omega
  have g1 : ¬ (i : Int) < 0 := by omega
  cases e : s.testBit i with
  | false =>
    rw [e, if_neg (by simp)] at hn
    go_enter Try.func23, Try.ntmps23
    go_wp2
    go_ret
    exact ⟨rfl, rfl⟩
  | true =>
    rw [e, if_pos rfl] at hn
    go_enter Try.func23, Try.ntmps23
    go_wp2
    go_ret
    exact ⟨rfl, rfl⟩
set_option maxRecDepth 100000 in
set_option maxHeartbeats 1000000 in
theorem count08_any (s : Nat) (nd : Int) (hn : nd ≤ 12) (w : World) : Calls Try.prog 54 #[.int .u32 (s : Int), .int .i64 nd] w fun e w' => e = .returned (.int .i64 (bitsN nd.toNat s : Int)) ∧ w = w' := by
  obtain ⟨N, hN⟩ : ∃ N, N = nd.toNat := ⟨_, rfl⟩
  rw [← hN]
  go_enter Try.func54, Try.ntmps54
  go_wp2_with fail
  go_loopg [5, 6] N (fun g kv i wr => ∃ k : Nat, i = .int .i64 (k : Int) ∧ kv = .int .i64 (bitsN k s : Int) ∧ k + g = N ∧ w = wr)
  case atStart => exact ⟨0, rfl, rfl, by omega, rfl⟩
  case round =>
    obtain ⟨k, rfl, rfl, hkg, rfl⟩ := hrel
    have hle := bitsN_le k s
    by_cases hk : k < N
    · have hkn : (k : Int) < nd := by omega
      have HH := Lib.hid (has_any s k (by omega) w)
      have hd : bitsN (k + 1) s = bitsN k s + if s.testBit k = true then 1 else 0 := rfl
      obtain ⟨y, hy⟩ : ∃ y, y = bitsN (k + 1) s := ⟨_, rfl⟩
      rw [← hy] at hd
      have HY := Lib.hid hy
      clear hy
      generalize bitsN k s = x at *
      cases e : s.testBit k with
      | false =>
        rw [e] at HH hd
        rw [if_neg (by simp)] at hd
        have hd2 : y = x := hd
        clear hd
        subst hd2
        go_wp2_with fail
        refine HH.out.mono ?_
        rintro e w1 ⟨rfl, rfl⟩
        go_wp2
        go_roundg (gk - 1)
        case measure => omega
        case rel => exact ⟨k + 1, by go_num, by rw [← HY.out], by omega, rfl⟩
      | true =>
        rw [e] at HH hd
        rw [if_pos rfl] at hd
        have HD := Lib.hid hd
        clear hd
        go_wp2_with fail
        refine HH.out.mono ?_
        rintro e w1 ⟨rfl, rfl⟩
        go_wp2
        go_roundg (gk - 1)
        case measure => omega
        case rel => exact ⟨k + 1, by go_num, by rw [← HY.out, HD.out]; go_num, by omega, rfl⟩
    · obtain rfl : k = N := by omega
      have hkn : ¬ (k : Int) < nd := by omega
      go_wp2
      go_ret
      exact ⟨rfl, rfl⟩
end Go.Proofs.Ythkkkldkpdkabaa
