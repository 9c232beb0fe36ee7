/- frame.turn: the register behind one more byte. -/
import Derived.Test.YtbkbmmpcjpkkaaaRefSum
namespace Go.Proofs.Ytbkbmmpcjpkkaaa
open Go.RowKit

theorem crc_zero (x : UInt8) : crcBits 0 (bitsB x) = crcBits x.toNat (List.replicate 8 false) := by
  have : ∀ x : Fin 256, crcBits 0 (bitsB (UInt8.ofNat x.val)) = crcBits (UInt8.ofNat x.val).toNat (List.replicate 8 false) := by decide +kernel
  have h := this ⟨x.toNat, x.toNat_lt⟩
  simpa using h
/-- A byte that is turned into the register ahead of its bits. -/
theorem crc_ahead (r : Nat) (x : UInt8) : crcBits r (bitsB x) = crcBits (r ^^^ x.toNat) (List.replicate 8 false) := by
  have h1 := crcBits_xor (List.replicate 8 false) (bitsB x) r 0 (by rw [List.length_replicate, bitsB_len])
  have h2 := crcBits_xor (List.replicate 8 false) (List.replicate 8 false) r x.toNat rfl
  have e1 : List.zipWith (· ^^ ·) (List.replicate 8 false) (bitsB x) = bitsB x := by
    apply List.ext_getElem
    · simp [bitsB_len]
    · intro i h _
      rw [List.getElem_zipWith, List.getElem_replicate]; simp
  have e2 : List.zipWith (· ^^ ·) (List.replicate 8 false) (List.replicate 8 false) = List.replicate 8 false := by decide
  rw [e1, Nat.xor_zero] at h1
  rw [e2] at h2
  rw [h1, h2, crc_zero]

/-- One bit with no branch. -/
theorem crc_plain (s : Nat) (h : s < 4294967296) : bits .xor .u32 ((s : Int) / 2) (bits .and .u32 3988292384 (-bits .and .u32 (s : Int) 1 % 4294967296)) = ((crcBit s false : Nat) : Int) := by
  have h1 : bits .and .u32 (s : Int) 1 = ((s &&& 1 : Nat) : Int) := u32_and_nat s 1 h (by decide)
  have h2 : ∀ k : Nat, k < 4294967296 → bits .and .u32 3988292384 (k : Int) = ((3988292384 &&& k : Nat) : Int) := fun k hk => u32_and_nat 3988292384 k (by decide) hk
  have h3 : ∀ k : Nat, k < 4294967296 → bits .xor .u32 ((s : Int) / 2) (k : Int) = ((s / 2 ^^^ k : Nat) : Int) := fun k hk => u32_xor_nat (s / 2) k (by omega) hk
  rw [h1, Nat.and_one_is_mod]
  unfold crcBit
  rcases Nat.mod_two_eq_zero_or_one s with e | e
  · rw [e, show -((0 : Nat) : Int) % 4294967296 = ((0 : Nat) : Int) by decide, h2 0 (by decide), h3 _ (by decide)]
    simp
  · rw [e, show -((1 : Nat) : Int) % 4294967296 = ((4294967295 : Nat) : Int) by decide, h2 _ (by decide), h3 _ (by decide)]
    simp

set_option maxHeartbeats 400000 in
theorem turn_any (r : Nat) (x : UInt8) (w : World) (hr : r < 4294967296) :
    Calls Try.prog 29 #[.int .u32 (r : Int), .int .u8 (x.toNat : Int)] w fun e w' => e = .returned (.int .u32 (crcBits r (bitsB x) : Nat)) ∧ w = w' := by
  have hx := x.toNat_lt
  go_enter Try.func29, Try.ntmps29
  go_wp2
  rw [u32_xor_nat r x.toNat hr (by omega)]
  have hs := Lib.hid (crc_ahead r x)
  have hlt : r ^^^ x.toNat < 4294967296 := xor_lt (k := 32) hr (by omega)
  generalize r ^^^ x.toNat = s0 at *
  go_loopg [0, 9] 8 (fun g u q wr => ∃ (j s : Nat), q = .int .i64 j ∧ j + g = 8 ∧ u = .int .u32 s ∧ Hid (s = crcBits s0 (List.replicate j false)) ∧ s < 4294967296 ∧ w = wr)
  case atStart => exact ⟨0, s0, rfl, rfl, rfl, rfl, hlt, rfl⟩
  case round =>
    obtain ⟨j, s, rfl, hj, rfl, Hr, hs1, rfl⟩ := hrel
    by_cases hj8 : j < 8
    · go_wp2
      go_roundg (gk - 1)
      case measure => omega
      case rel =>
        refine ⟨j + 1, crcBit s false, by go_num, by omega, by rw [crc_plain s hs1], Lib.hid ?_, crcBit_lt _ _ hs1, rfl⟩
        rw [List.replicate_succ', crcBits_append, ← Hr.out]; rfl
    · have hj9 : j = 8 := by omega
      subst hj9
      go_wp2
      go_ret
      exact ⟨by rw [hs.out, ← Hr.out]; rfl, rfl⟩

/-- A slice of slices of bytes reads as these texts. -/
def Parts (w : World) (B : Nat) (A : Option Addr) (k : Nat) (ls : List (List UInt8)) : Prop :=
  ls.length = k ∧ ∀ i (h : i < ls.length), ∃ b o A' n' c', A = some ⟨b, o, none⟩ ∧ b < B ∧ w.cell? ⟨b, o + i, none⟩ = some (.slice A' n' c') ∧ n' ≤ c' ∧ c' ≤ 9223372036854775807 ∧ Rd w B A' n' ls[i]

theorem Parts.below {w w' : World} {B k : Nat} {A : Option Addr} {ls : List (List UInt8)} (h : Parts w B A k ls) (hb : Below B w w') : Parts w' B A k ls :=
  ⟨h.1, fun i hi => by
    obtain ⟨b, o, A', n', c', e, hlt, hc, h1, h2, h3⟩ := h.2 i hi
    exact ⟨b, o, A', n', c', e, hlt, (hb.cell hlt).trans hc, h1, h2, h3.below hb⟩⟩

set_option maxHeartbeats 1000000 in
theorem sum_any (A : Option Addr) (n c B : Nat) (ls : List (List UInt8)) (w : World) (hn : n ≤ 9223372036854775807) (h : Parts w B A n ls) :
    Calls Try.prog 13 #[.slice A n c] w fun e w' => e = .returned (.int .u32 (crcSum ls.flatten)) ∧ w = w' := by
  have Hl := Lib.hid h.1
  have Hp := Lib.hid h.2
  clear h
  go_enter Try.func13, Try.ntmps13
  go_wp2
  go_loopg [3, 10] n (fun g r i wr => ∃ (k : Nat), i = .int .i64 k ∧ k + g = n ∧ r = .int .u32 (crcBits 4294967295 (bitsOf (ls.take k).flatten)) ∧ w = wr)
  case atStart => exact ⟨0, rfl, by omega, rfl, rfl⟩
  case round =>
    obtain ⟨k, rfl, hk, rfl, rfl⟩ := hrel
    by_cases hkn : k < n
    · obtain ⟨b, o, A', n', c', rfl, _, hcell, hn', hc', hrd⟩ := Hp.out k (by rw [Hl.out]; exact hkn)
      have hlt : crcBits 4294967295 (bitsOf (ls.take k).flatten) < 4294967296 := crcBits_lt _ _ (by decide)
      have Hnext : Hid ((ls.take (k + 1)).flatten = (ls.take k).flatten ++ ls[k]'(by rw [Hl.out]; exact hkn)) := Lib.hid (by
        rw [List.take_succ_eq_append_getElem (by rw [Hl.out]; exact hkn), List.flatten_append]
        simp)
      generalize hxe : ls[k]'(by rw [Hl.out]; exact hkn) = l at *
      generalize hre : crcBits 4294967295 (bitsOf (ls.take k).flatten) = r0 at *
      have HR := Lib.hid hrd
      have HL := Lib.hid hrd.1
      clear hrd
      go_wp2
      go_loopg [3, 16] n' (fun g r q wr => ∃ (j rj : Nat), q = .int .i64 j ∧ j + g = n' ∧ r = .int .u32 rj ∧ Hid (rj = crcBits r0 (bitsOf (l.take j))) ∧ rj < 4294967296 ∧ w = wr)
      case atStart => exact ⟨0, r0, rfl, by omega, rfl, rfl, hlt, rfl⟩
      case round =>
        obtain ⟨j, rj, rfl, hj, rfl, Hr, hrj, rfl⟩ := hrel
        by_cases hjn : j < n'
        · obtain ⟨b', o', rfl, _, hcell'⟩ := HR.out.2 (by omega)
          have hx := hcell' j (by rw [HL.out]; exact hjn)
          have Hn2 : Hid (bitsOf (l.take (j + 1)) = bitsOf (l.take j) ++ bitsB (l[j]'(by rw [HL.out]; exact hjn))) := Lib.hid (by
            rw [List.take_succ_eq_append_getElem (by rw [HL.out]; exact hjn), bitsOf_append]
            simp [bitsOf])
          clear hcell'
          generalize hxe' : l[j]'(by rw [HL.out]; exact hjn) = x at *
          have Ht := Lib.hid (fun w => turn_any rj x w hrj)
          go_wp2_with fail
          refine (Ht.out _).mono ?_
          rintro e w' ⟨rfl, rfl⟩
          go_wp2
          go_roundg (gk - 1)
          case measure => omega
          case rel => exact ⟨j + 1, _, by go_num, by omega, rfl, Lib.hid (by rw [Hn2.out, crcBits_append, ← Hr.out]), crcBits_lt _ _ hrj, rfl⟩
        · go_wp2
          go_roundg (n - k - 1)
          case measure => omega
          case rel =>
            have hf : l.take j = l := List.take_of_length_le (by rw [HL.out]; omega)
            exact ⟨k + 1, by go_num, by omega, by rw [Hnext.out, bitsOf_append, crcBits_append, hre, Hr.out, hf], rfl⟩
    · go_wp2
      go_ret
      have hf : ls.take k = ls := List.take_of_length_le (by rw [Hl.out]; omega)
      rw [hf]
      refine ⟨?_, rfl⟩
      have hb := crcBits_lt (bitsOf ls.flatten) 4294967295 (by decide)
      unfold crcSum
      generalize crcBits 4294967295 (bitsOf ls.flatten) = z at *
      have e : bits .xor .u32 IntKind.u32.max (z : Int) = ((4294967295 - z : Nat) : Int) := by
        have h1 : bits .xor .u32 ((4294967295 : Nat) : Int) (z : Int) = ((4294967295 ^^^ z : Nat) : Int) := u32_xor_nat 4294967295 z (by decide) hb
        rw [compl_xor z hb, Nat.xor_comm]
        exact h1
      rw [← e]
      rfl
end Go.Proofs.Ytbkbmmpcjpkkaaa
