/- Of the proofs of layer 4, merged: Fixed, Fixed2. -/
import Derived.Test.YtfghbhjljbdlmaaMBinUint
import Derived.Lib.EndianBits

/- Fixed, the program's and the document's: the number of four bytes that stands at a place, or the error. -/
namespace Go.Proofs.Ytfghbhjljbdlmaa
open Go.RowKit

/-- Bytes' number, the highest first. -/
def be (l : List UInt8) : Nat := l.foldl (fun n c => n * 256 + c.toNat) 0
theorem be_snoc (l : List UInt8) (c : UInt8) : be (l ++ [c]) = be l * 256 + c.toNat := by simp [be]
theorem be_lt (l : List UInt8) : be l < 256 ^ l.length := by
  have : ∀ (r : List UInt8) (n k : Nat), n < 256 ^ k → r.foldl (fun n c => n * 256 + c.toNat) n < 256 ^ (k + r.length) := by
    intro r
    induction r with
    | nil => intro n k h; simpa using h
    | cons c r ih =>
      intro n k h
      have hc := c.toNat_lt
      have h1 : n * 256 + c.toNat < 256 ^ (k + 1) := by rw [Nat.pow_succ]; omega
      have := ih _ _ h1
      rw [List.foldl_cons, List.length_cons, show k + (r.length + 1) = k + 1 + r.length by omega]
      exact this
  simpa [be] using this l 0 0 (by decide)

/-- What stands at a place. -/
def fixAt (l : List UInt8) (a : Int) : Int × Int × Int :=
  if a < 0 ∨ (l.length : Int) < a then (0, 0, 2) else if (l.length : Int) - a < 4 then (0, 0, 10) else ((be ((l.drop a.toNat).take 4) : Nat), a + 4, 0)

theorem or256 (n c : Nat) (hc : c < 256) : (n * 256) ||| c = n * 256 + c := by
  rw [Nat.mul_comm]
  exact (Nat.two_pow_add_eq_or_of_lt (i := 8) hc n).symm
theorem u32_or_byte (n c : Nat) (hn : n < 16777216) (hc : c < 256) : bits .or .u32 ((n : Int) * 256) (c : Int) = ((n * 256 + c : Nat) : Int) := by
  have h := (bits_nat .u32 32 (by decide) wraps_u32 (n * 256) c (by omega) (by omega)).2
  rw [or256 n c hc] at h
  rw [← h]
  rfl

set_option maxHeartbeats 4000000 in
set_option maxRecDepth 100000 in
theorem binFixed_any (A : Option Addr) (n c B : Nat) (at_ : Int) (l : List UInt8) (w : World) (hc : n ≤ c) (hm : c ≤ 9223372036854775807) (h : Rd w B A n l) :
    Calls Try.prog 107 #[.slice A n c, .int .i64 at_] w fun e w' => e = .returned (.tuple #[.int .u32 (fixAt l at_).1, .int .i64 (fixAt l at_).2.1, .int .i64 (fixAt l at_).2.2]) ∧ w = w' := by
  unfold fixAt
  rw [h.1]
  by_cases h1 : at_ < 0 ∨ (n : Int) < at_
  · rw [if_pos h1]
    have Hc := Lib.hid (inside_no A n c at_ w h1)
    clear h1 h
    go_enter Try.func107, Try.ntmps107
    go_wp2_with fail
    refine Hc.out.mono ?_
    rintro e w' ⟨rfl, rfl⟩
    go_wp2
    go_ret3
    exact ⟨rfl, rfl⟩
  · obtain ⟨a, rfl⟩ := Int.eq_ofNat_of_zero_le (show 0 ≤ at_ by omega)
    rw [if_neg h1]
    have Hc := Lib.hid (inside_yes A n c a w (by omega) (by omega))
    have ha : a ≤ n := by omega
    clear h1
    by_cases h2 : (n : Int) - (a : Int) < 4
    · rw [if_pos h2]
      clear h
      go_enter Try.func107, Try.ntmps107
      go_wp2_with fail
      refine Hc.out.mono ?_
      rintro e w' ⟨rfl, rfl⟩
      go_wp2
      go_ret3
      exact ⟨rfl, rfl⟩
    · rw [if_neg h2, Int.toNat_natCast]
      have ha4 : a + 4 ≤ n := by omega
      obtain ⟨b, o, rfl, _, hcell⟩ := h.2 (by omega)
      have hl := h.1
      have Hl := Lib.hid hl
      have Hcell : Hid (∀ j (hj : j < l.length), w.cell? ⟨b, o + j, none⟩ = some (.int .u8 (l[j].toNat : Int))) := hcell
      have hca : ¬ c = a := by omega
      clear hcell hl h h2
      go_enter Try.func107, Try.ntmps107
      go_wp2_with fail
      refine Hc.out.mono ?_
      rintro e w' ⟨rfl, rfl⟩
      clear Hc
      go_wp2
      go_loopg [7, 25] 4 (fun g v i wr => ∃ (k : Nat), i = .int .i64 k ∧ k + g = 4 ∧ v = .int .u32 (be ((l.drop a).take k)) ∧ w = wr)
      case atStart => exact ⟨0, rfl, by omega, rfl, rfl⟩
      case round =>
        obtain ⟨k, rfl, hk, rfl, rfl⟩ := hrel
        by_cases hk4 : k < 4
        · have hat := Hcell.out (a + k) (by rw [Hl.out]; omega)
          have hkl : k < (l.drop a).length := by rw [List.length_drop, Hl.out]; omega
          have hsn : be ((l.drop a).take (k + 1)) = be ((l.drop a).take k) * 256 + (l.drop a)[k].toNat := by
            rw [List.take_succ_eq_append_getElem hkl, be_snoc]
          rw [List.getElem_drop] at hsn
          have hlt := be_lt ((l.drop a).take k)
          rw [List.length_take, Nat.min_eq_left (by omega)] at hlt
          have hlt3 : be ((l.drop a).take k) < 16777216 := by
            have : 256 ^ k ≤ 256 ^ 3 := Nat.pow_le_pow_right (by decide) (by omega)
            have e : 256 ^ 3 = 16777216 := by decide
            omega
          have hx := u8_lt (l[a + k]'(by rw [Hl.out]; omega))
          have hor := u32_or_byte (be ((l.drop a).take k)) (l[a + k]'(by rw [Hl.out]; omega)).toNat hlt3 hx
          have Hor := Lib.hid hor
          have Hsn := Lib.hid hsn
          clear hsn hor hlt
          generalize (l[a + k]'(by rw [Hl.out]; omega)).toNat = x at *
          generalize be ((l.drop a).take k) = y at *
          rw [← Nat.add_assoc] at hat
          go_wp2
          rw [Hor.out]
          go_roundg (gk - 1)
          case measure => omega
          case rel => exact ⟨k + 1, by go_num, by omega, by rw [Hsn.out], rfl⟩
        · obtain rfl : k = 4 := by omega
          go_wp2
          go_ret3
          exact ⟨rfl, rfl⟩
end Go.Proofs.Ytfghbhjljbdlmaa

/- ref01.Fixed. -/
namespace Go.Proofs.Ytfghbhjljbdlmaa
open Go.RowKit

theorem be4 (a b c d : UInt8) : (be [a, b, c, d] : Int) = (a.toNat : Int) * 16777216 + (b.toNat : Int) * 65536 + (c.toNat : Int) * 256 + (d.toNat : Int) := by
  simp only [be, List.foldl_cons, List.foldl_nil]
  omega
theorem take4 (s : List UInt8) (h : 4 ≤ s.length) : s.take 4 = [s[0], s[1], s[2], s[3]] := by
  match s, h with
  | a :: b :: c :: d :: r, _ => rfl
  | [], h => simp at h
  | [_], h => simp at h
  | [_, _], h => simp at h
  | [_, _, _], h => simp at h

set_option maxHeartbeats 4000000 in
set_option maxRecDepth 100000 in
theorem refFixed_any (A : Option Addr) (n c B : Nat) (at_ : Int) (l : List UInt8) (w : World) (hc : n ≤ c) (hm : c ≤ 9223372036854775807) (h : Rd w B A n l) :
    Calls Try.prog 110 #[.slice A n c, .int .i64 at_] w fun e w' => e = .returned (.tuple #[.int .u32 (fixAt l at_).1, .int .i64 (fixAt l at_).2.1, .int .i64 (fixAt l at_).2.2]) ∧ ∃ q, w.drewN q = w' := by
  unfold fixAt
  rw [h.1]
  by_cases h1 : at_ < 0 ∨ (n : Int) < at_
  · rw [if_pos h1]
    clear h
    by_cases h2 : at_ < 0
    · have hd : decide (at_ < 0) = true := by simp; omega
      clear h1
      go_enter Try.func110, Try.ntmps110
      go_wp2
      go_ret3
      exact ⟨rfl, 0, rfl⟩
    · have h3 : (n : Int) < at_ := by omega
      have hd : decide (at_ < 0) = false := by simp; omega
      have hd2 : decide ((n : Int) < at_) = true := by simp; omega
      clear h1
      go_enter Try.func110, Try.ntmps110
      go_wp2
      go_ret3
      exact ⟨rfl, 0, rfl⟩
  · obtain ⟨a, rfl⟩ := Int.eq_ofNat_of_zero_le (show 0 ≤ at_ by omega)
    rw [if_neg h1]
    have ha : a ≤ n := by omega
    have hd : decide ((a : Int) < 0) = false := by simp
    have hd2 : decide (n < a) = false := by simp; omega
    clear h1
    by_cases h2 : (n : Int) - (a : Int) < 4
    · rw [if_pos h2]
      clear h
      go_enter Try.func110, Try.ntmps110
      go_wp2
      go_ret3
      exact ⟨rfl, 0, rfl⟩
    · rw [if_neg h2, Int.toNat_natCast]
      have ha4 : a + 4 ≤ n := by omega
      obtain ⟨b, o, rfl, _, hcell⟩ := h.2 (by omega)
      have hl := h.1
      have hd4 : 4 ≤ (l.drop a).length := by rw [List.length_drop]; omega
      rw [take4 _ hd4, be4]
      have c0 := hcell a (by omega)
      have c1 := hcell (a + 1) (by omega)
      have c2 := hcell (a + 2) (by omega)
      have c3 := hcell (a + 3) (by omega)
      simp only [List.getElem_drop, Nat.add_zero]
      have x0 := u8_lt (l[a])
      have x1 := u8_lt (l[a + 1])
      have x2 := u8_lt (l[a + 2])
      have x3 := u8_lt (l[a + 3])
      generalize l[a].toNat = y0 at *
      generalize l[a + 1].toNat = y1 at *
      generalize l[a + 2].toNat = y2 at *
      generalize l[a + 3].toNat = y3 at *
      have i1 : (a : Int) + 1 < (n : Int) := by omega
      have i2 : (a : Int) + 2 < (n : Int) := by omega
      have i3 : (a : Int) + 3 < (n : Int) := by omega
      have i0 : (a : Int) < (n : Int) := by omega
      clear hcell h hl hd4 h2
      go_enter Try.func110, Try.ntmps110
      go_wp2
      go_quiet (fail)
      go_wp2
      go_ret3
      exact ⟨rfl, nq, rfl⟩
end Go.Proofs.Ytfghbhjljbdlmaa
