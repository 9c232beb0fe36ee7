/- law01.known answers true: what the chapter's examples fix. -/
import Derived.Test.YtlnbebeghfhfdaaPutMore
import Derived.Test.YtlnbebeghfhfdaaTexts
import Derived.Test.YtlnbebeghfhfdaaSame
namespace Go.Proofs.Ytlnbebeghfhfdaa
open Go.RowKit

theorem Rd.new {w : World} {g : Nat} (hg : g = w.heap.size) (l : List UInt8) {cs : List Value} (h : cs = u8s l) (t : TypeId) : Rd (w.alloc (.cells cs.toArray t)) (g + 1) (some ⟨g, 0, none⟩) l.length l := by
  subst h hg
  refine ⟨rfl, fun _ => ⟨w.heap.size, 0, rfl, by omega, fun j hj => ?_⟩⟩
  rw [Nat.zero_add, World.cell?_alloc_at _ _ _ _ rfl]
  simp [u8s, hj]

theorem ex1 : uintAt [172, 2] 0 = (300, 2, 0) := by decide
theorem ex2 : uintAt [128, 0] 0 = (0, 0, 11) := by decide
theorem ex3 : uintAt [128] 0 = (0, 0, 10) := by decide
theorem ex4 : txtAt [2, 97, 98, 99] 0 5 = ([97, 98], 3, 0) := by decide
theorem ex5 : Lib.uvarint 300 = [172, 2] := by
  rw [Lib.uvarint_big (by decide), Lib.uvarint_small (by decide)]; rfl
theorem ex6 : Lib.uvarint (Lib.zigzag (-1)) = [1] := by
  rw [Lib.uvarint_small (by decide)]; rfl

theorem rd1 (w : World) (g : Nat) (hg : g = w.heap.size) : Rd (w.alloc (.cells #[.int .u8 172, .int .u8 2] 5)) (g + 1) (some ⟨g, 0, none⟩) 2 [172, 2] := Rd.new hg [172, 2] (cs := [.int .u8 172, .int .u8 2]) rfl 5
theorem rd2 (w : World) (g : Nat) (hg : g = w.heap.size) : Rd (w.alloc (.cells #[.int .u8 128, .int .u8 0] 5)) (g + 1) (some ⟨g, 0, none⟩) 2 [128, 0] := Rd.new hg [128, 0] (cs := [.int .u8 128, .int .u8 0]) rfl 5
theorem rd3 (w : World) (g : Nat) (hg : g = w.heap.size) : Rd (w.alloc (.cells #[.int .u8 128] 5)) (g + 1) (some ⟨g, 0, none⟩) 1 [128] := Rd.new hg [128] (cs := [.int .u8 128]) rfl 5
theorem rd4 (w : World) (g : Nat) (hg : g = w.heap.size) : Rd (w.alloc (.cells #[.int .u8 2, .int .u8 97, .int .u8 98, .int .u8 99] 5)) (g + 1) (some ⟨g, 0, none⟩) 4 [2, 97, 98, 99] := Rd.new hg [2, 97, 98, 99] (cs := [.int .u8 2, .int .u8 97, .int .u8 98, .int .u8 99]) rfl 5
theorem rd5 (w : World) (g : Nat) (hg : g = w.heap.size) : Rd (w.alloc (.cells #[.int .u8 1] 5)) (g + 1) (some ⟨g, 0, none⟩) 1 [1] := Rd.new hg [1] (cs := [.int .u8 1]) rfl 5

theorem k1 (w : World) (g : Nat) (hg : g = w.heap.size) : Calls Try.prog 20 #[.slice (some ⟨g, 0, none⟩) 2 2, .int .i64 0] (w.alloc (.cells #[.int .u8 172, .int .u8 2] 5)) fun e w' => e = .returned (.tuple #[.int .u64 300, .int .i64 2, .int .i64 0]) ∧ w.alloc (.cells #[.int .u8 172, .int .u8 2] 5) = w' := by
  have := binUint_any _ 2 2 _ 0 [172, 2] _ (Nat.le_refl _) (by decide) (rd1 w g hg)
  rwa [ex1] at this
theorem k2 (w : World) (g : Nat) (hg : g = w.heap.size) : Calls Try.prog 20 #[.slice (some ⟨g, 0, none⟩) 2 2, .int .i64 0] (w.alloc (.cells #[.int .u8 128, .int .u8 0] 5)) fun e w' => e = .returned (.tuple #[.int .u64 0, .int .i64 0, .int .i64 11]) ∧ w.alloc (.cells #[.int .u8 128, .int .u8 0] 5) = w' := by
  have := binUint_any _ 2 2 _ 0 [128, 0] _ (Nat.le_refl _) (by decide) (rd2 w g hg)
  rwa [ex2] at this
theorem k3 (w : World) (g : Nat) (hg : g = w.heap.size) : Calls Try.prog 20 #[.slice (some ⟨g, 0, none⟩) 1 1, .int .i64 0] (w.alloc (.cells #[.int .u8 128] 5)) fun e w' => e = .returned (.tuple #[.int .u64 0, .int .i64 0, .int .i64 10]) ∧ w.alloc (.cells #[.int .u8 128] 5) = w' := by
  have := binUint_any _ 1 1 _ 0 [128] _ (Nat.le_refl _) (by decide) (rd3 w g hg)
  rwa [ex3] at this
theorem k4 (w : World) (g : Nat) (hg : g = w.heap.size) : Calls Try.prog 27 #[.slice (some ⟨g, 0, none⟩) 4 4, .int .i64 0, .int .i64 5] (w.alloc (.cells #[.int .u8 2, .int .u8 97, .int .u8 98, .int .u8 99] 5)) fun e w' =>
    ∃ A c, e = .returned (.tuple #[.slice A 2 c, .int .i64 3, .int .i64 0]) ∧ Rd w' w'.heap.size A 2 [97, 98] ∧ Below w.heap.size w w' := by
  have h := binBytes_any _ 4 4 0 5 [2, 97, 98, 99] _ (Nat.le_refl _) (by decide) (by decide) (by decide) (by decide) ((rd4 w g hg).more (by rw [hg]; simp))
  rw [ex4] at h
  refine h.mono ?_
  rintro e w' ⟨v, rfl, ho, hb⟩
  obtain ⟨A, c, rfl, _⟩ := own_shape ho
  exact ⟨A, c, rfl, Rd.of_own ho, ((Below.refl _ _).alloc (Nat.le_refl _) _).trans (hb.mono (by simp))⟩
theorem k5 (w : World) : Calls Try.prog 10 #[.int .u64 300] w fun e w' => ∃ A c, e = .returned (.slice A 2 c) ∧ Rd w' w'.heap.size A 2 [172, 2] ∧ Below w.heap.size w w' := by
  have h := binPut_any 300 w (by decide)
  rw [ex5] at h
  refine h.mono ?_
  rintro e w' ⟨v, rfl, ho, hb⟩
  obtain ⟨A, c, rfl, _⟩ := own_shape ho
  exact ⟨A, c, rfl, Rd.of_own ho, hb⟩
theorem k6 (w : World) : Calls Try.prog 11 #[.int .i64 (-1)] w fun e w' => ∃ A c, e = .returned (.slice A 1 c) ∧ Rd w' w'.heap.size A 1 [1] ∧ Below w.heap.size w w' := by
  have h := binPutInt_any (-1) w (by decide) (by decide)
  rw [ex6] at h
  refine h.mono ?_
  rintro e w' ⟨v, rfl, ho, hb⟩
  obtain ⟨A, c, rfl, _⟩ := own_shape ho
  exact ⟨A, c, rfl, Rd.of_own ho, hb⟩

set_option maxHeartbeats 400000 in
set_option maxRecDepth 100000 in
theorem known_any (w : World) : Calls Try.prog 17 #[] w fun e w' => e = .returned (.bool true) ∧ Below w.heap.size w w' := by
  go_enter Try.func17, Try.ntmps17
  go_wp2_with fail
  refine (k1 _ _ (by simp)).mono ?_
  rintro e w' ⟨rfl, rfl⟩
  go_wp2_with fail
  refine (k2 _ _ (by simp)).mono ?_
  rintro e w' ⟨rfl, rfl⟩
  go_wp2_with fail
  refine (k3 _ _ (by simp)).mono ?_
  rintro e w' ⟨rfl, rfl⟩
  go_wp2_with fail
  refine (k4 _ _ (by simp)).mono ?_
  rintro e w4 ⟨A, c, rfl, hr, hb⟩
  have Hb : Hid (Below w.heap.size w w4) := ((((Below.refl _ _).alloc (Nat.le_refl _) _).alloc (by simp) _).alloc (by simp; omega) _).trans (hb.mono (by simp; omega))
  have hs := hr.str Try.underlying24 Try.underlying5 Try.underlying9 c
  clear hb hr
  go_wp2_with fail
  refine (k5 _).mono ?_
  rintro e w5 ⟨A5, c5, rfl, hr5, hb5⟩
  have Hb5 : Hid (Below w.heap.size w w5) := Hb.out.trans (hb5.mono Hb.out.size)
  have Hr5 := Lib.hid (hr5.alloc (Nat.le_refl _) (.cells #[.int .u8 172, .int .u8 2] 5))
  clear hb5 hr5 hs
  go_wp2_with fail
  refine (same_any _ _ _ _ _ _ _ _ _ _ _ Hr5.out (rd1 _ _ rfl)).mono ?_
  rintro e w' ⟨rfl, rfl⟩
  go_wp2_with fail
  refine (k6 _).mono ?_
  rintro e w6 ⟨A6, c6, rfl, hr6, hb6⟩
  have Hb6 : Hid (Below w.heap.size w w6) := (Hb5.out.alloc Hb5.out.size _).trans (hb6.mono (by have := Hb5.out.size; simp; omega))
  have Hr6 := Lib.hid (hr6.alloc (Nat.le_refl _) (.cells #[.int .u8 1] 5))
  clear hb6 hr6
  go_wp2_with fail
  refine (same_any _ _ _ _ _ _ _ _ _ _ _ Hr6.out (rd5 _ _ rfl)).mono ?_
  rintro e w' ⟨rfl, rfl⟩
  go_wp2
  go_ret
  exact ⟨rfl, Hb6.out.alloc Hb6.out.size _⟩
end Go.Proofs.Ytlnbebeghfhfdaa
