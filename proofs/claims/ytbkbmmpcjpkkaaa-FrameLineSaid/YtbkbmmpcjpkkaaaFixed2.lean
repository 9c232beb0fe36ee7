/- ref01.Fixed. -/
import Derived.Test.YtbkbmmpcjpkkaaaFixed
namespace Go.Proofs.Ytbkbmmpcjpkkaaa
open Go.RowKit

theorem be4 (a b c d : UInt8) : (be [a, b, c, d] : Int) = (a.toNat : Int) * 16777216 + (b.toNat : Int) * 65536 + (c.toNat : Int) * 256 + (d.toNat : Int) := by
  simp only [be, List.foldl_cons, List.foldl_nil]
  omega
theorem take4 (s : List UInt8) (h : 4 ≤ s.length) : s.take 4 = [s[0], s[1], s[2], s[3]] := by
  match s, h with
  | a :: b :: c :: d :: r, _ => rfl
  | [], h => simp at h
  | [_], h => simp at h
  | [_, _], h => simp at h
  | [_, _, _], h => simp at h

set_option maxHeartbeats 4000000 in
set_option maxRecDepth 100000 in
theorem refFixed_any (A : Option Addr) (n c B : Nat) (at_ : Int) (l : List UInt8) (w : World) (hc : n ≤ c) (hm : c ≤ 9223372036854775807) (h : Rd w B A n l) :
    Calls Try.prog 36 #[.slice A n c, .int .i64 at_] w fun e w' => e = .returned (.tuple #[.int .u32 (fixAt l at_).1, .int .i64 (fixAt l at_).2.1, .int .i64 (fixAt l at_).2.2]) ∧ ∃ q, w.drewN q = w' := by
  unfold fixAt
  rw [h.1]
  by_cases h1 : at_ < 0 ∨ (n : Int) < at_
  · rw [if_pos h1]
    clear h
    by_cases h2 : at_ < 0
    · have hd : decide (at_ < 0) = true := by simp; omega
      clear h1
      go_enter Try.func36, Try.ntmps36
      go_wp2
      go_ret3
      exact ⟨rfl, 0, rfl⟩
    · have h3 : (n : Int) < at_ := by omega
      have hd : decide (at_ < 0) = false := by simp; omega
      have hd2 : decide ((n : Int) < at_) = true := by simp; omega
      clear h1
      go_enter Try.func36, Try.ntmps36
      go_wp2
      go_ret3
      exact ⟨rfl, 0, rfl⟩
  · obtain ⟨a, rfl⟩ := Int.eq_ofNat_of_zero_le (show 0 ≤ at_ by omega)
    rw [if_neg h1]
    have ha : a ≤ n := by omega
    have hd : decide ((a : Int) < 0) = false := by simp
    have hd2 : decide (n < a) = false := by simp; omega
    clear h1
    by_cases h2 : (n : Int) - (a : Int) < 4
    · rw [if_pos h2]
      clear h
      go_enter Try.func36, Try.ntmps36
      go_wp2
      go_ret3
      exact ⟨rfl, 0, rfl⟩
    · rw [if_neg h2, Int.toNat_natCast]
      have ha4 : a + 4 ≤ n := by omega
      obtain ⟨b, o, rfl, _, hcell⟩ := h.2 (by omega)
      have hl := h.1
      have hd4 : 4 ≤ (l.drop a).length := by rw [List.length_drop]; omega
      rw [take4 _ hd4, be4]
      have c0 := hcell a (by omega)
      have c1 := hcell (a + 1) (by omega)
      have c2 := hcell (a + 2) (by omega)
      have c3 := hcell (a + 3) (by omega)
      simp only [List.getElem_drop, Nat.add_zero]
      have x0 := u8_lt (l[a])
      have x1 := u8_lt (l[a + 1])
      have x2 := u8_lt (l[a + 2])
      have x3 := u8_lt (l[a + 3])
      generalize l[a].toNat = y0 at *
      generalize l[a + 1].toNat = y1 at *
      generalize l[a + 2].toNat = y2 at *
      generalize l[a + 3].toNat = y3 at *
      have i1 : (a : Int) + 1 < (n : Int) := by omega
      have i2 : (a : Int) + 2 < (n : Int) := by omega
      have i3 : (a : Int) + 3 < (n : Int) := by omega
      have i0 : (a : Int) < (n : Int) := by omega
      clear hcell h hl hd4 h2
      go_enter Try.func36, Try.ntmps36
      go_wp2
      go_quiet (fail)
      go_wp2
      go_ret3
      exact ⟨rfl, nq, rfl⟩
end Go.Proofs.Ytbkbmmpcjpkkaaa
