/- bin.Uint answers the number that stands at a place, or the error. -/
import Derived.Test.YtgippbbbfpkhhaaProg
import Derived.Test.YtgippbbbfpkhhaaWords
import Derived.Test.YtgippbbbfpkhhaaGets
import Derived.Deep.LoopGhost
import Derived.BigQuiet
import Derived.Deep.QuietTactic
namespace Go.Proofs.Ytgippbbbfpkhhaa
open Go.RowKit

set_option maxRecDepth 100000 in
set_option maxHeartbeats 1000000 in
theorem inside_no (A : Option Addr) (n c : Nat) (at_ : Int) (w : World) (h : at_ < 0 ∨ (n : Int) < at_) :
    Calls Try.prog 70 #[.slice A n c, .int .i64 at_] w fun e w' => e = .returned (.bool false) ∧ w = w' := by
  rcases h with h | h
  · go_enter Try.func70, Try.ntmps70
    go_wp2
    go_ret
    exact ⟨rfl, rfl⟩
  · have h0 : 0 ≤ at_ := by omega
    have hd : decide (at_ ≤ (n : Int)) = false := by simp; omega
    go_enter Try.func70, Try.ntmps70
    go_wp2
    go_ret
    exact ⟨rfl, rfl⟩
set_option maxRecDepth 100000 in
set_option maxHeartbeats 1000000 in
theorem inside_yes (A : Option Addr) (n c : Nat) (at_ : Int) (w : World) (h0 : 0 ≤ at_) (h : at_ ≤ (n : Int)) :
    Calls Try.prog 70 #[.slice A n c, .int .i64 at_] w fun e w' => e = .returned (.bool true) ∧ w = w' := by
  have hd : decide (at_ ≤ (n : Int)) = true := by simp; omega
  go_enter Try.func70, Try.ntmps70
  go_wp2
  go_ret
  exact ⟨rfl, rfl⟩

set_option maxHeartbeats 4000000 in
set_option maxRecDepth 100000 in
theorem binUint_out (A : Option Addr) (n c : Nat) (at_ : Int) (w : World) (h : at_ < 0 ∨ (n : Int) < at_) :
    Calls Try.prog 61 #[.slice A n c, .int .i64 at_] w fun e w' => e = .returned (.tuple #[.int .u64 0, .int .i64 0, .int .i64 2]) ∧ w = w' := by
  have Hc := Lib.hid (inside_no A n c at_ w h)
  clear h
  go_enter Try.func61, Try.ntmps61
  go_wp2_with fail
  go_step3
  go_wp2_with fail
  refine Hc.out.mono ?_
  rintro e w' ⟨rfl, rfl⟩
  go_wp2
  rw [Exit.noGoto_ret]
  go_ret3
  exact ⟨rfl, rfl⟩

set_option maxHeartbeats 4000000 in
set_option maxRecDepth 100000 in
theorem binUint_in (b o n c at_ B : Nat) (l : List UInt8) (w : World) (hc : n ≤ c) (hm : c ≤ 9223372036854775807) (h : Rd w B (some ⟨b, o, none⟩) n l) (hlt : at_ < n) :
    Calls Try.prog 61 #[.slice (some ⟨b, o, none⟩) n c, .int .i64 at_] w fun e w' => e = .returned (.tuple #[.int .u64 (uintAt l at_).1, .int .i64 (uintAt l at_).2.1, .int .i64 (uintAt l at_).2.2]) ∧ w = w' := by
  have hnc : ¬ c = at_ := by omega
  have Hc := Lib.hid (inside_yes (some ⟨b, o, none⟩) n c at_ w (by omega) (by omega))
  go_enter Try.func61, Try.ntmps61
  go_wp2_with fail
  go_step3
  go_wp2_with fail
  refine Hc.out.mono ?_
  rintro e w' ⟨rfl, rfl⟩
  clear Hc
  go_wp2
  go_step3
  go_wp2
  go_loopg [7, 8, 19] 10 (fun g a cnt i wr => ∃ (k acc : Nat), i = .int .i64 k ∧ a = .int .u64 acc ∧ cnt = .int .i64 0 ∧ k + g = 10 ∧ k ≤ 9 ∧ k ≤ n - at_ ∧ acc < 128 ^ k ∧ uu 0 (l.drop at_) = lift k acc (uu k (l.drop (at_ + k))) ∧ w = wr)
  case atStart => exact ⟨0, 0, rfl, rfl, rfl, by omega, by omega, by omega, by decide, by rw [lift_zero]; rfl, rfl⟩
  case round =>
    obtain ⟨k, acc, rfl, rfl, rfl, hk, hk9, hkn, hacc, hu, rfl⟩ := hrel
    have Hu := Lib.hid hu
    have Hacc := Lib.hid hacc
    clear hu hacc
    by_cases hkl : k < n - at_
    · obtain ⟨_, _, he, _, hcell⟩ := h.2 (by omega)
      simp only [Option.some.injEq, Addr.mk.injEq, and_true] at he
      obtain ⟨rfl, rfl⟩ := he
      have hl := h.1
      have hat : w.cell? ⟨b, o + at_ + k, none⟩ = some (.int .u8 (l[at_ + k].toNat : Int)) := by rw [Nat.add_assoc]; exact hcell (at_ + k) (by omega)
      have hdrop : l.drop (at_ + k) = l[at_ + k] :: l.drop (at_ + (k + 1)) := List.drop_eq_getElem_cons (by omega)
      have Hd := Lib.hid hdrop
      clear hdrop hcell
      generalize l[at_ + k] = x at *
      have hx := u8_lt x
      by_cases hf : (k = 9 ∧ 1 < x.toNat) ∨ (0 < k ∧ x.toNat = 0)
      · -- no form
        have hfin : uintAt l at_ = (0, 0, 11) := by
          have hu := Hu.out
          rw [Hd.out] at hu
          rw [uintAt_in l at_ (by omega), step_form hu hf]
          rfl
        have Hfin := Lib.hid hfin
        clear hfin Hu Hd Hacc
        have key : (k = 9 ∧ 1 < x.toNat) ∨ (k = 9 ∧ x.toNat = 0) ∨ (¬ k = 9 ∧ 0 < k ∧ x.toNat = 0) := by omega
        clear hf
        rcases key with ⟨rfl, h1⟩ | ⟨rfl, h1⟩ | ⟨h9, h0, h1⟩
        · go_wp2
          rw [Exit.noGoto_ret]
          go_ret3
          rw [Hfin.out]
          exact ⟨rfl, rfl⟩
        · rw [h1] at hat
          clear h1
          go_wp2
          rw [Exit.noGoto_ret]
          go_ret3
          rw [Hfin.out]
          exact ⟨rfl, rfl⟩
        · rw [h1] at hat
          clear h1
          go_wp2
          rw [Exit.noGoto_ret]
          go_ret3
          rw [Hfin.out]
          exact ⟨rfl, rfl⟩
      · by_cases hx2 : x.toNat < 128
        · -- the last byte
          have hfin : uintAt l at_ = (((acc + 128 ^ k * x.toNat : Nat) : Int), (at_ : Int) + ((k : Int) + 1), 0) := by
            have hu := Hu.out
            rw [Hd.out] at hu
            rw [uintAt_in l at_ (by omega), step_last hu hf hx2]
            rfl
          have Hfin := Lib.hid hfin
          have hlt' : x.toNat * 128 ^ k < 18446744073709551616 := shl_lt (by omega) hx2 (by omega)
          have Hor := Lib.hid (or_shift_walk k acc x.toNat Hacc.out hlt' (by omega))
          by_cases h9 : k = 9
          · subst h9
            have Hor9 := Lib.hid (or_shift_9 acc x.toNat Hacc.out (by omega))
            clear hfin Hu Hd Hacc hlt' Hor
            generalize acc + 128 ^ 9 * x.toNat = z at *
            go_wp2
            go_ret3
            rw [Hfin.out, Hor9.out]
            exact ⟨rfl, rfl⟩
          · clear hfin Hu Hd Hacc hlt'
            generalize acc + 128 ^ k * x.toNat = z at *
            by_cases h0 : 0 < k
            · have hx0 : ((x.toNat : Int) == 0) = false := by simp; omega
              go_wp2
              rw [Exit.noGoto_ret]
              go_ret3
              rw [Hfin.out, Hor.out]
              exact ⟨rfl, rfl⟩
            · go_wp2
              rw [Exit.noGoto_ret]
              go_ret3
              rw [Hfin.out, Hor.out]
              exact ⟨rfl, rfl⟩
        · have hz := u8_clear x.toNat (by omega) hx
          have hm' := acc_lt Hacc.out (show x.toNat - 128 < 128 by omega)
          have hlt' : (x.toNat - 128) * 128 ^ k < 18446744073709551616 := shl_lt (by omega) (by omega) (by omega)
          have Hor := Lib.hid (or_shift_walk k acc (x.toNat - 128) Hacc.out hlt' (by omega))
          have hu := Hu.out
          rw [Hd.out] at hu
          have Hm := Lib.hid (step_more hu hf hx2)
          have Hm' := Lib.hid hm'
          have hy : x.toNat - 128 < 128 := by omega
          clear Hu Hd Hacc hlt' hu hm'
          generalize acc + 128 ^ k * (x.toNat - 128) = z at *
          generalize x.toNat - 128 = x' at *
          have h9 : ¬ k = 9 := by omega
          by_cases h0 : 0 < k
          · have hx0 : ((x.toNat : Int) == 0) = false := by simp; omega
            go_wp2
            rw [Hor.out]
            go_roundg (gk - 1)
            case measure => omega
            case rel => exact ⟨k + 1, z, by go_num, rfl, rfl, by omega, by omega, by omega, Hm'.out, Hm.out, rfl⟩
          · go_wp2
            rw [Hor.out]
            go_roundg (gk - 1)
            case measure => omega
            case rel => exact ⟨k + 1, z, by go_num, rfl, rfl, by omega, by omega, by omega, Hm'.out, Hm.out, rfl⟩
    · -- the bytes end
      have hfin : uintAt l at_ = (0, 0, 10) := by
        have hu := Hu.out
        have hd0 : l.drop (at_ + k) = [] := List.drop_eq_nil_of_le (by have := h.1; omega)
        rw [hd0] at hu
        rw [uintAt_in l at_ (by have := h.1; omega), step_end hu]
        rfl
      have Hfin := Lib.hid hfin
      clear hfin Hu Hacc h
      go_wp2
      rw [Exit.noGoto_ret]
      go_ret3
      rw [Hfin.out]
      exact ⟨rfl, rfl⟩

set_option maxHeartbeats 4000000 in
set_option maxRecDepth 100000 in
/-- Nothing is left at the place. -/
theorem binUint_end (A : Option Addr) (n c : Nat) (w : World) (hn : n ≤ 9223372036854775807) (_hc : n ≤ c) :
    Calls Try.prog 61 #[.slice A n c, .int .i64 n] w fun e w' => e = .returned (.tuple #[.int .u64 0, .int .i64 0, .int .i64 10]) ∧ w = w' := by
  have Hc := Lib.hid (inside_yes A n c n w (by omega) (by omega))
  go_enter Try.func61, Try.ntmps61
  go_wp2_with fail
  go_step3
  go_wp2_with fail
  refine Hc.out.mono ?_
  rintro e w' ⟨rfl, rfl⟩
  clear Hc
  go_wp2
  go_step3
  go_wp2
  all_goals
    refine wp_loop_rounds 1 ?_
    rw [rounds_succ]
    go_wp2
    rw [Exit.noGoto_ret]
    go_ret3
    exact ⟨rfl, rfl⟩

/-- bin.Uint of whatever bytes, at whatever place. -/
theorem binUint_any (A : Option Addr) (n c B : Nat) (at_ : Int) (l : List UInt8) (w : World) (hc : n ≤ c) (hm : c ≤ 9223372036854775807) (h : Rd w B A n l) :
    Calls Try.prog 61 #[.slice A n c, .int .i64 at_] w fun e w' => e = .returned (.tuple #[.int .u64 (uintAt l at_).1, .int .i64 (uintAt l at_).2.1, .int .i64 (uintAt l at_).2.2]) ∧ w = w' := by
  by_cases h1 : at_ < 0 ∨ (n : Int) < at_
  · rw [uintAt_out l at_ (by rw [h.1]; exact h1)]
    exact binUint_out A n c at_ w h1
  · obtain ⟨k, rfl⟩ := Int.eq_ofNat_of_zero_le (show 0 ≤ at_ by omega)
    by_cases h2 : k < n
    · obtain ⟨b, o, rfl, _, _⟩ := h.2 (by omega)
      exact binUint_in b o n c k B l w hc hm h h2
    · obtain rfl : k = n := by omega
      have hd : uu 0 (l.drop k) = .error 10 := by rw [List.drop_eq_nil_of_le (by rw [h.1]; exact Nat.le_refl _)]; rfl
      rw [uintAt_in l k (by rw [h.1]; exact Nat.le_refl _), hd]
      exact binUint_end A k c w (by omega) hc

end Go.Proofs.Ytgippbbbfpkhhaa
