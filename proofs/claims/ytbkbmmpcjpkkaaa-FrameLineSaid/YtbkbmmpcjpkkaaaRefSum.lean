/- ref02.Sum answers the plain sum. -/
import Derived.Test.YtbkbmmpcjpkkaaaFrameP
import Derived.Test.YtbkbmmpcjpkkaaaProg
import Derived.WalkKit
import Derived.Laws.BitsAllLaws
namespace Go.Proofs.Ytbkbmmpcjpkkaaa
open Go.RowKit

theorem bit_in (x j : Nat) : (((x : Int) / 2 ^ j).tmod 2 == 1) = x.testBit j := by
  have h1 : ((x : Int) / 2 ^ j) = ((x / 2 ^ j : Nat) : Int) := by rw [Int.natCast_ediv, Int.natCast_pow]; rfl
  have h2 : ((x / 2 ^ j : Nat) : Int).tmod 2 = ((x / 2 ^ j % 2 : Nat) : Int) := rfl
  rw [h1, h2, Nat.testBit_eq_decide_div_mod_eq, Bool.eq_iff_iff]
  simp
  omega
theorem bit_out (r : Nat) : ((r : Int) % 2 == 1) = (r % 2 == 1) := by
  rw [Bool.eq_iff_iff]
  simp
  omega
theorem bitsB_at (x : UInt8) (j : Nat) (hj : j < 8) : (bitsB x).take (j + 1) = (bitsB x).take j ++ [x.toNat.testBit j] := by
  rw [List.take_succ_eq_append_getElem (by rw [bitsB_len]; exact hj)]
  congr 2
  simp [bitsB]
/-- One bit, as the loop reckons it. -/
theorem crc_on (r0 rj j : Nat) (x : UInt8) (hj : j < 8) (hr : rj = crcBits r0 ((bitsB x).take j)) (hlt : rj < 4294967296) :
    ((!(((rj : Int) % 2 == 1) == (((x.toNat : Int) / 2 ^ j).tmod 2 == 1))) = true → bits .xor .u32 ((rj : Int) / 2) 3988292384 = ((crcBits r0 ((bitsB x).take (j + 1)) : Nat) : Int)) ∧
    ((!(((rj : Int) % 2 == 1) == (((x.toNat : Int) / 2 ^ j).tmod 2 == 1))) = false → (rj : Int) / 2 = ((crcBits r0 ((bitsB x).take (j + 1)) : Nat) : Int)) ∧ crcBits r0 ((bitsB x).take (j + 1)) < 4294967296 := by
  have hs : crcBits r0 ((bitsB x).take (j + 1)) = crcBit rj (x.toNat.testBit j) := by rw [bitsB_at x j hj, crcBits_append, ← hr]; rfl
  have hx : bits .xor .u32 ((rj : Int) / 2) 3988292384 = ((rj / 2 ^^^ 3988292384 : Nat) : Int) := u32_xor_nat (rj / 2) 3988292384 (by omega) (by decide)
  rw [hs, bit_in, bit_out]
  refine ⟨fun h => ?_, fun h => ?_, crcBit_lt _ _ hlt⟩
  · rw [hx]
    unfold crcBit
    rw [if_pos]
    revert h
    cases (rj % 2 == 1) <;> cases x.toNat.testBit j <;> simp
  · unfold crcBit
    rw [if_neg]
    · omega
    · revert h
      cases (rj % 2 == 1) <;> cases x.toNat.testBit j <;> simp

set_option maxHeartbeats 2000000 in
theorem refSum_any (A : Option Addr) (n c B : Nat) (l : List UInt8) (w : World) (_hc : n ≤ c) (hm : c ≤ 9223372036854775807) (h : Rd w B A n l) :
    Calls Try.prog 16 #[.slice A n c] w fun e w' => e = .returned (.int .u32 (crcSum l)) ∧ w = w' := by
  have hl := h.1
  have Hl := Lib.hid hl
  clear hl
  go_enter Try.func16, Try.ntmps16
  go_wp2
  go_loopg [3, 4] n (fun g r i wr => ∃ (k : Nat), i = .int .i64 k ∧ k + g = n ∧ r = .int .u32 (crcBits 4294967295 (bitsOf (l.take k))) ∧ w = wr)
  case atStart => exact ⟨0, rfl, by omega, rfl, rfl⟩
  case round =>
    obtain ⟨k, rfl, hk, rfl, rfl⟩ := hrel
    by_cases hkn : k < n
    · obtain ⟨b, o, rfl, _, hcell⟩ := h.2 (by have := Hl.out; omega)
      have hx := hcell k (by rw [Hl.out]; exact hkn)
      have hlt : crcBits 4294967295 (bitsOf (l.take k)) < 4294967296 := crcBits_lt _ _ (by decide)
      have hnext : bitsOf (l.take (k + 1)) = bitsOf (l.take k) ++ bitsB (l[k]'(by rw [Hl.out]; exact hkn)) := by
        rw [List.take_succ_eq_append_getElem (by rw [Hl.out]; exact hkn), bitsOf_append]
        simp [bitsOf]
      have Hn := Lib.hid hnext
      clear hcell hnext h
      generalize hxe : l[k]'(by rw [Hl.out]; exact hkn) = x at *
      generalize hre : crcBits 4294967295 (bitsOf (l.take k)) = r0 at *
      go_wp2
      go_loopg [3, 5] 8 (fun g r q wr => ∃ (j rj : Nat), q = .int .i64 j ∧ j + g = 8 ∧ r = .int .u32 rj ∧ Hid (rj = crcBits r0 ((bitsB x).take j)) ∧ rj < 4294967296 ∧ w = wr)
      case atStart => exact ⟨0, r0, rfl, rfl, rfl, rfl, hlt, rfl⟩
      case round =>
        obtain ⟨j, rj, rfl, hj, rfl, Hr, hrj, rfl⟩ := hrel
        by_cases hj8 : j < 8
        · have Hs := Lib.hid (crc_on r0 rj j x hj8 Hr hrj)
          go_wp2
          · have h1 : bits .xor .u32 ((rj : Int) / 2) 3988292384 = _ := Hs.out.1 (by assumption)
            rw [h1]
            go_roundg (gk - 1)
            case measure => omega
            case rel => exact ⟨j + 1, _, by go_num, by omega, rfl, rfl, Hs.out.2.2, rfl⟩
          · have h1 : (rj : Int) / 2 = _ := Hs.out.2.1 (by assumption)
            rw [h1]
            go_roundg (gk - 1)
            case measure => omega
            case rel => exact ⟨j + 1, _, by go_num, by omega, rfl, rfl, Hs.out.2.2, rfl⟩
        · have hj9 : j = 8 := by omega
          subst hj9
          have ht : (bitsB x).take 8 = bitsB x := List.take_of_length_le (by rw [bitsB_len]; omega)
          go_wp2
          go_roundg (n - k - 1)
          case measure => omega
          case rel => exact ⟨k + 1, by go_num, by omega, by rw [Hn.out, crcBits_append, hre, ← ht, ← Hr.out], rfl⟩
    · go_wp2
      go_ret
      have hf : l.take k = l := List.take_of_length_le (by rw [Hl.out]; omega)
      rw [hf]
      refine ⟨?_, rfl⟩
      have hb := crcBits_lt (bitsOf l) 4294967295 (by decide)
      unfold crcSum
      generalize crcBits 4294967295 (bitsOf l) = z at *
      rw [show ((4294967295 - z : Nat) : Int) = 4294967295 - (z : Int) by omega]
      rw [show (4294967295 - (z : Int)) % 4294967296 = 4294967295 - (z : Int) by omega]
      rfl
end Go.Proofs.Ytbkbmmpcjpkkaaa
