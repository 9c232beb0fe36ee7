/- Layer 12, the program's log: clone of an entry, Apply. -/
import Derived.Test.YtnomddhgcdoifaaRlJ
namespace Go.Proofs.Ytnomddhgcdoifaa
open Go.RowKit

/-- An entry that was made: its body is the call's own. -/
def EnNew (w : World) (v : En) (e : Ending) (w' : World) : Prop := ∃ s, e = .returned (enV v s) ∧ w'.ownsRow w.heap.size 5 1 (s3W s) v.val.length (u8s v.val) ∧ Below w.heap.size w w'
set_option maxRecDepth 100000 in
set_option maxHeartbeats 2000000 in
theorem eclone_any {w : World} (v : En) (s : Sl3) (h : Rd w w.heap.size s.1 s.2.1 v.val) (hn : v.val.length ≤ 1000000) : Calls Try.prog 32 #[enV v s] w (EnNew w v) := by
  obtain ⟨sl, l⟩ := v
  obtain ⟨A, n, c⟩ := s
  dsimp only at h hn
  have hl := h.1
  unfold enV s3W
  dsimp only
  obtain ⟨w1, hw1⟩ : ∃ w1, w1 = w.alloc (.cells #[.int .u64 (sl : Int), .slice A n c] 45) := ⟨_, rfl⟩
  obtain ⟨w2, hw2⟩ : ∃ w2, w2 = w1.alloc (.cells #[.int .u64 0, .slice none 0 0] 45) := ⟨_, rfl⟩
  have hb1 : Below w.heap.size w w1 := by rw [hw1]; exact bel1L _ _
  have hb2 : Below w1.heap.size w1 w2 := by rw [hw2]; exact bel1L _ _
  have hs1 : w1.heap.size = w.heap.size + 1 := by rw [hw1]; simp
  have hs2 : w2.heap.size = w1.heap.size + 1 := by rw [hw2]; simp
  have hk1 : Bk w1 w.heap.size 45 #[.int .u64 (sl : Int), .slice A n c] := by rw [hw1]; exact Bk.new w _ _
  have hk2 : Bk w2 (w.heap.size + 1) 45 #[.int .u64 0, .slice none 0 0] := by rw [hw2, ← hs1]; exact Bk.new w1 _ _
  have hk1' : Bk w2 w.heap.size 45 #[.int .u64 (sl : Int), .slice A n c] := hk1.below hb2 hk1.lt
  have y1 : w2.cell? ⟨w.heap.size, 1, none⟩ = some (.slice A n c) := hk1'.cell 1
  have hb12 := below_then hb1 hb2
  have HC := Lib.hid (cloneB_any A n c w.heap.size l w2 (by omega) hb12.size (h.below hb12))
  have HW1 := Lib.hid hw1
  have HW2 := Lib.hid hw2
  have HB12 := Lib.hid hb12
  have HK1 := Lib.hid hk1'
  have HK2 := Lib.hid hk2
  have Hs : Hid (w1.heap.size = w.heap.size + 1 ∧ w2.heap.size = w.heap.size + 2) := Lib.hid ⟨hs1, by omega⟩
  have Hl := Lib.hid hl
  clear hw1 hw2 hb1 hb2 hs1 hs2 hk1 hk2 hk1' hb12 h hl
  go_enter Try.func32, Try.ntmps32
  go_upto_region 1 with (fail)
  rw [← HW1.out]
  try rw [Hs.out.1]
  rw [← HW2.out]
  go_wp2_with fail
  refine HC.out.mono ?_
  rintro e w3 ⟨v3, rfl, ho, hb3⟩
  obtain ⟨A3, c3, rfl, _⟩ := own_shape ho
  have hsz := Hs.out.2
  have k1 := HK1.out.below hb3 (by omega)
  have k2 := HK2.out.below hb3 (by omega)
  have z1 : w3.cell? ⟨w.heap.size, 1, none⟩ = some (.slice A n c) := k1.cell 1
  have zf := k1.frozen 1
  obtain ⟨w4, hw4⟩ : ∃ w4, w4 = w3.setCell ⟨w.heap.size, 1, none⟩ (.slice A3 n c3) := ⟨_, rfl⟩
  have k14 : Bk w4 w.heap.size 45 #[.int .u64 (sl : Int), .slice A3 n c3] := by rw [hw4]; exact k1.set_ 1 _
  have hk34 : Kp (fun j => j = w.heap.size) w3 w4 := by rw [hw4]; exact Kp.set_ (F := fun j => j = w.heap.size) (p := ⟨w.heap.size, 1, none⟩) rfl _
  have k24 : Bk w4 (w.heap.size + 1) 45 #[.int .u64 0, .slice none 0 0] := k2.kp hk34 (by omega)
  have ho4 := own_kp ho hk34 (fun k e1 e2 => by have := (ho.lt k e1).1; omega)
  have x0 : w4.cell? ⟨w.heap.size, 0, none⟩ = some (.int .u64 (sl : Int)) := k14.cell 0
  have x1 : w4.cell? ⟨w.heap.size, 1, none⟩ = some (.slice A3 n c3) := k14.cell 1
  have u0 : w4.cell? ⟨w.heap.size + 1, 0, none⟩ = some (.int .u64 0) := k24.cell 0
  have u1 : w4.cell? ⟨w.heap.size + 1, 1, none⟩ = some (.slice none 0 0) := k24.cell 1
  have v0 := k24.frozen 0
  have v1 := k24.frozen 1
  have HW4 := Lib.hid hw4
  have HO4 := Lib.hid ho4
  have K24 := Lib.hid k24
  have HB : Hid (Below w.heap.size w w4) := Lib.hid (HB12.out.trans ((hb3.mono HB12.out.size).trans (hk34.below (fun k e => by omega) (by have := hb3.size; omega))))
  have Hsz := Lib.hid hsz
  clear hw4 ho4 k24 k14 hk34 ho hb3 k1 k2 hsz HK1 HK2
  go_upto_region 2 with (fail)
  rw [← HW4.out]
  clear z1 zf
  go_wp2_with fail
  have hk5 : Bk ((w4.setCell ⟨w.heap.size + 1, 0, none⟩ (.int .u64 (sl : Int))).setCell ⟨w.heap.size + 1, 1, none⟩ (.slice A3 n c3)) (w.heap.size + 1) 45 #[.int .u64 (sl : Int), .slice A3 n c3] := (K24.out.set_ 0 _).set_ 1 _
  have hk45 : Kp (fun j => j = w.heap.size + 1) w4 ((w4.setCell ⟨w.heap.size + 1, 0, none⟩ (.int .u64 (sl : Int))).setCell ⟨w.heap.size + 1, 1, none⟩ (.slice A3 n c3)) := (Kp.set_ (F := fun j => j = w.heap.size + 1) (p := ⟨w.heap.size + 1, 0, none⟩) rfl _).trans (Kp.set_ (F := fun j => j = w.heap.size + 1) (p := ⟨w.heap.size + 1, 1, none⟩) rfl _)
  generalize (w4.setCell ⟨w.heap.size + 1, 0, none⟩ (.int .u64 (sl : Int))).setCell ⟨w.heap.size + 1, 1, none⟩ (.slice A3 n c3) = w5 at *
  have j0 : w5.cell? ⟨w.heap.size + 1, 0, none⟩ = some (.int .u64 (sl : Int)) := hk5.cell 0
  have j1 : w5.cell? ⟨w.heap.size + 1, 1, none⟩ = some (.slice A3 n c3) := hk5.cell 1
  refine bodyPost_ret (by simp [results, Try.results32, go_sem, j0, j1]; try rfl) rfl ?_
  have hsz := Hsz.out
  refine ⟨(A3, n, c3), rfl, ?_, HB.out.trans (hk45.below (fun k e => by omega) HB.out.size)⟩
  rw [show (⟨sl, l⟩ : En).val.length = n from Hl.out]
  exact own_mono (own_kp HO4.out hk45 fun k e1 e2 => by have := (HO4.out.lt k e1).1; omega) (by omega)
end Go.Proofs.Ytnomddhgcdoifaa
