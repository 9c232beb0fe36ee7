/- Layer 8: what the chapter's examples fix. -/
import Derived.Test.YtgkglkcnnebddaaQuLe
namespace Go.Proofs.Ytgkglkcnnebddaa
open Go.RowKit Go.Lib Go.Shelf

def kq : Qm := ⟨1, 4, 3, 2, []⟩
def kb : Qm := ⟨1, 4, 3, 1, []⟩
def kg : Qm := ⟨2, 6, 2, 3, []⟩
def ks : Qm := ⟨3, 3, 0, 0, [0, 0, 1]⟩
theorem kq_right : kq.right = 0 := by decide +kernel
theorem kb_right : kb.right = 80 := by decide +kernel
theorem kq1 : kq.isQ false 7 = true := by decide +kernel
theorem kq2 : kq.isQ true 3 = true := by decide +kernel
theorem kq3 : kq.isQ false 3 = false := by decide +kernel
theorem kq4 : kq.ofCount (kq.cnt true) = [3, 5, 6, 9, 10, 12] := by decide +kernel
theorem kq5 : kq.reach 1 = 0 := by decide +kernel
theorem kq6 : kq.reach 2 = 4 := by decide +kernel
theorem kg1 : kg.isQ false 7 = true := by decide +kernel
theorem kg2 : kg.isQ true 9 = true := by decide +kernel
theorem ks1 : ks.isQ false 5 = true := by decide +kernel
theorem ks2 : ks.isQ true 4 = true := by decide +kernel
theorem ks3 : ks.isQ false 4 = false := by decide +kernel
theorem qi_kq (W : World) : Qi W kq none 0 0 := ⟨⟨by decide, by decide⟩, ⟨by decide, by decide⟩, ⟨by decide, by decide⟩, ⟨by decide, by decide⟩, by decide, RdI.nil _ _ _⟩
theorem qi_kb (W : World) : Qi W kb none 0 0 := ⟨⟨by decide, by decide⟩, ⟨by decide, by decide⟩, ⟨by decide, by decide⟩, ⟨by decide, by decide⟩, by decide, RdI.nil _ _ _⟩
theorem qi_kg (W : World) : Qi W kg none 0 0 := ⟨⟨by decide, by decide⟩, ⟨by decide, by decide⟩, ⟨by decide, by decide⟩, ⟨by decide, by decide⟩, by decide, RdI.nil _ _ _⟩
abbrev cells5 (kd nd on tw : Int) (A : Option Addr) (n c : Nat) : Array Value := #[.int .i64 kd, .int .i64 nd, .int .i64 on, .int .i64 tw, .slice A n c]
set_option maxRecDepth 100000 in
set_option maxHeartbeats 4000000 in
theorem known_any (w : World) : Calls Try.prog 10 #[] w fun e w' => e = .returned (.bool true) ∧ Below w.heap.size w w' := by
  obtain ⟨w2, hw2⟩ : ∃ w2, w2 = (w.alloc (.cells (cells5 1 4 3 2 none 0 0) 24)).alloc (.cells (cells5 1 4 3 1 none 0 0) 24) := ⟨_, rfl⟩
  have hbA : Below w.heap.size w (w.alloc (.cells (cells5 1 4 3 2 none 0 0) 24)) := (Below.refl _ _).alloc (Nat.le_refl _) _
  have hkA := Bk.new w 24 (cells5 1 4 3 2 none 0 0)
  have hkB := Bk.new (w.alloc (.cells (cells5 1 4 3 2 none 0 0) 24)) 24 (cells5 1 4 3 1 none 0 0)
  have hbB : Below (w.alloc (.cells (cells5 1 4 3 2 none 0 0) 24)).heap.size (w.alloc (.cells (cells5 1 4 3 2 none 0 0) 24)) w2 := by rw [hw2]; exact (Below.refl _ _).alloc (Nat.le_refl _) _
  have HB2 := Lib.hid (below_then hbA hbB)
  have HKA := Lib.hid (hkA.below hbB (by simp))
  rw [← hw2] at hkB
  have HKB : Hid (Bk w2 (w.heap.size + 1) 24 (cells5 1 4 3 1 none 0 0)) := Lib.hid (by simpa using hkB)
  have HW2 := Lib.hid hw2
  have HLS := Lib.hid (least_counts kq true none 0 0 w2 (qi_kq _) kq_right rfl (by rw [kq4]; decide))
  rw [kq4] at HLS
  clear hw2 hbA hkA hkB hbB
  go_enter Try.func10, Try.ntmps10
  go_wp2_with fail
  rw [← HW2.out]
  refine HLS.out.mono ?_
  rintro e w3 ⟨B, cap, rfl, hrd, hb3⟩
  have HB23 := Lib.hid hb3
  obtain ⟨b, o, rfl, hlt, hc⟩ := hrd.2 (by decide)
  have HRD := Lib.hid hrd
  have HCL : Hid (w3.cell? ⟨b, o, none⟩ = some (.int .u32 3) ∧ w3.cell? ⟨b, o + 5, none⟩ = some (.int .u32 12)) := Lib.hid ⟨hc 0 (by decide), hc 5 (by decide)⟩
  obtain ⟨w4, hw4⟩ : ∃ w4, w4 = ((w3.alloc (.cells (cells5 2 6 2 3 none 0 0) 24)).alloc (.cells #[.int .i64 0, .int .i64 0, .int .i64 1] 3)).alloc (.cells (cells5 3 3 0 0 (some ⟨w3.heap.size + 1, 0, none⟩) 3 3) 24) := ⟨_, rfl⟩
  have hA : Below w3.heap.size w3 (w3.alloc (.cells (cells5 2 6 2 3 none 0 0) 24)) := (Below.refl _ _).alloc (Nat.le_refl _) _
  have hB : Below w3.heap.size w3 w4 := by rw [hw4]; exact ((hA.alloc (by simp) _).alloc (by simp; omega) _)
  have kA := Bk.new w3 24 (cells5 2 6 2 3 none 0 0)
  have hA4 : Below (w3.heap.size + 1) (w3.alloc (.cells (cells5 2 6 2 3 none 0 0) 24)) w4 := by rw [hw4]; exact (((Below.refl _ _).alloc (by simp) _).alloc (by simp) _)
  have kA4 := kA.below hA4 (by omega)
  have kS : Bk w4 (w3.heap.size + 1 + 1) 24 (cells5 3 3 0 0 (some ⟨w3.heap.size + 1, 0, none⟩) 3 3) := by
    rw [hw4]
    have := Bk.new ((w3.alloc (.cells (cells5 2 6 2 3 none 0 0) 24)).alloc (.cells #[.int .i64 0, .int .i64 0, .int .i64 1] 3)) 24 (cells5 3 3 0 0 (some ⟨w3.heap.size + 1, 0, none⟩) 3 3)
    simpa using this
  have kI : Bk w4 (w3.heap.size + 1) 3 #[.int .i64 0, .int .i64 0, .int .i64 1] := by
    have h1 := Bk.new (w3.alloc (.cells (cells5 2 6 2 3 none 0 0) 24)) 3 #[.int .i64 0, .int .i64 0, .int .i64 1]
    have h2 : Below (w3.heap.size + 2) ((w3.alloc (.cells (cells5 2 6 2 3 none 0 0) 24)).alloc (.cells #[.int .i64 0, .int .i64 0, .int .i64 1] 3)) w4 := by rw [hw4]; exact ((Below.refl _ _).alloc (by simp) _)
    have h3 := h1.below h2 (by simp)
    simpa using h3
  have HF : Hid (∀ W, Below w4.heap.size w4 W → (W.cell? ⟨w.heap.size, 0, none⟩ = some (.int .i64 1) ∧ W.cell? ⟨w.heap.size, 1, none⟩ = some (.int .i64 4) ∧ W.cell? ⟨w.heap.size, 2, none⟩ = some (.int .i64 3) ∧ W.cell? ⟨w.heap.size, 3, none⟩ = some (.int .i64 2) ∧ W.cell? ⟨w.heap.size, 4, none⟩ = some (.slice none 0 0) ∧ W.cell? ⟨w.heap.size + 1, 0, none⟩ = some (.int .i64 1) ∧ W.cell? ⟨w.heap.size + 1, 1, none⟩ = some (.int .i64 4) ∧ W.cell? ⟨w.heap.size + 1, 2, none⟩ = some (.int .i64 3) ∧ W.cell? ⟨w.heap.size + 1, 3, none⟩ = some (.int .i64 1) ∧ W.cell? ⟨w.heap.size + 1, 4, none⟩ = some (.slice none 0 0) ∧ W.cell? ⟨w3.heap.size, 0, none⟩ = some (.int .i64 2) ∧ W.cell? ⟨w3.heap.size, 1, none⟩ = some (.int .i64 6) ∧ W.cell? ⟨w3.heap.size, 2, none⟩ = some (.int .i64 2) ∧ W.cell? ⟨w3.heap.size, 3, none⟩ = some (.int .i64 3) ∧ W.cell? ⟨w3.heap.size, 4, none⟩ = some (.slice none 0 0) ∧ W.cell? ⟨w3.heap.size + 1 + 1, 0, none⟩ = some (.int .i64 3) ∧ W.cell? ⟨w3.heap.size + 1 + 1, 1, none⟩ = some (.int .i64 3) ∧ W.cell? ⟨w3.heap.size + 1 + 1, 2, none⟩ = some (.int .i64 0) ∧ W.cell? ⟨w3.heap.size + 1 + 1, 3, none⟩ = some (.int .i64 0) ∧ W.cell? ⟨w3.heap.size + 1 + 1, 4, none⟩ = some (.slice (some ⟨w3.heap.size + 1, 0, none⟩) 3 3) ∧ W.cell? ⟨b, o, none⟩ = some (.int .u32 3) ∧ W.cell? ⟨b, o + 5, none⟩ = some (.int .u32 12)) ∧ Below w4.heap.size w4 W) := by
    refine Lib.hid fun W hb => ?_
    have hw : Below w3.heap.size w3 W := below_then hB hb
    have a1 := (HKA.out.below HB23.out HKA.out.lt).below hw (HKA.out.below HB23.out HKA.out.lt).lt
    have a2 := (HKB.out.below HB23.out HKB.out.lt).below hw (HKB.out.below HB23.out HKB.out.lt).lt
    have a3 := kA4.below hb kA4.lt
    have a4 := kS.below hb kS.lt
    exact ⟨⟨a1.cell 0, a1.cell 1, a1.cell 2, a1.cell 3, a1.cell 4, a2.cell 0, a2.cell 1, a2.cell 2, a2.cell 3, a2.cell 4, a3.cell 0, a3.cell 1, a3.cell 2, a3.cell 3, a3.cell 4, a4.cell 0, a4.cell 1, a4.cell 2, a4.cell 3, a4.cell 4,
      (hw.cell (p := ⟨b, o, none⟩) hlt).trans HCL.out.1, (hw.cell (p := ⟨b, o + 5, none⟩) hlt).trans HCL.out.2⟩, hb⟩
  obtain ⟨⟨f0, f1, f2, f3, f4, f5, f6, f7, f8, f9, f10, f11, f12, f13, f14, f15, f16, f17, f18, f19, f20, f21⟩, _⟩ := HF.out w4 (Below.refl _ _)
  rw [hw4] at f0 f1 f2 f3 f4 f5 f6 f7 f8 f9 f10 f11 f12 f13 f14 f15 f16 f17 f18 f19 f20 f21
  have HB24 := Lib.hid (below_then HB2.out (below_then HB23.out hB))
  have HW4 := Lib.hid hw4
  have HKS : Hid (∀ W, Below w4.heap.size w4 W → Qi W ks (some ⟨w3.heap.size + 1, 0, none⟩) 3 3) := Lib.hid fun W hb =>
    ⟨⟨by decide, by decide⟩, ⟨by decide, by decide⟩, ⟨by decide, by decide⟩, ⟨by decide, by decide⟩, by decide, ⟨rfl, by decide, fun _ => ⟨w3.heap.size + 1, 0, rfl, (kI.below hb kI.lt).lt, fun j hj => by
      have h := (kI.below hb kI.lt).cell j
      rw [Nat.zero_add, h]
      have h3 : j < 3 := hj
      match j, h3 with
      | 0, _ => rfl
      | 1, _ => rfl
      | 2, _ => rfl⟩⟩⟩
  have HD0 : Hid (Below w4.heap.size w4 w4) := Lib.hid (Below.refl _ _)
  clear hrd hb3 hc hw4 hA hB kA hA4 kA4 kS kI
  go_wp2_with fail
  rw [← show w4 = _ from HW4.out]
  refine (right_any kq none 0 0 _ (qi_kq _)).mono ?_
  rintro e W1 ⟨he, hb1⟩
  rw [kq_right] at he
  subst he
  have hd1 : Below w4.heap.size w4 W1 := below_then (by (repeat' (first | exact HD0.out | exact Below.refl _ _ | apply Below.drew))) hb1
  clear f0 f1 f2 f3 f4 f5 f6 f7 f8 f9 f10 f11 f12 f13 f14 f15 f16 f17 f18 f19 f20 f21
  obtain ⟨⟨f0, f1, f2, f3, f4, f5, f6, f7, f8, f9, f10, f11, f12, f13, f14, f15, f16, f17, f18, f19, f20, f21⟩, _⟩ := HF.out W1 hd1
  have HD1 := Lib.hid hd1
  clear hb1 hd1
  go_wp2_with fail
  refine (right_any kb none 0 0 _ (qi_kb _)).mono ?_
  rintro e W2 ⟨he, hb2⟩
  rw [kb_right] at he
  subst he
  have hd2 : Below w4.heap.size w4 W2 := below_then (by (repeat' (first | exact HD1.out | exact Below.refl _ _ | apply Below.drew))) hb2
  clear f0 f1 f2 f3 f4 f5 f6 f7 f8 f9 f10 f11 f12 f13 f14 f15 f16 f17 f18 f19 f20 f21
  obtain ⟨⟨f0, f1, f2, f3, f4, f5, f6, f7, f8, f9, f10, f11, f12, f13, f14, f15, f16, f17, f18, f19, f20, f21⟩, _⟩ := HF.out W2 hd2
  have HD2 := Lib.hid hd2
  clear hb2 hd2
  go_wp2_with fail
  refine (first_any kq 7 (by decide) none 0 0 _ (qi_kq _)).mono ?_
  rintro e W3 ⟨he, hb3⟩
  rw [kq1] at he
  subst he
  have hd3 : Below w4.heap.size w4 W3 := below_then (by (repeat' (first | exact HD2.out | exact Below.refl _ _ | apply Below.drew))) hb3
  clear f0 f1 f2 f3 f4 f5 f6 f7 f8 f9 f10 f11 f12 f13 f14 f15 f16 f17 f18 f19 f20 f21
  obtain ⟨⟨f0, f1, f2, f3, f4, f5, f6, f7, f8, f9, f10, f11, f12, f13, f14, f15, f16, f17, f18, f19, f20, f21⟩, _⟩ := HF.out W3 hd3
  have HD3 := Lib.hid hd3
  clear hb3 hd3
  go_wp2_with fail
  refine (second_any kq 3 (by decide) none 0 0 _ (qi_kq _)).mono ?_
  rintro e W4 ⟨he, hb4⟩
  rw [kq2] at he
  subst he
  have hd4 : Below w4.heap.size w4 W4 := below_then (by (repeat' (first | exact HD3.out | exact Below.refl _ _ | apply Below.drew))) hb4
  clear f0 f1 f2 f3 f4 f5 f6 f7 f8 f9 f10 f11 f12 f13 f14 f15 f16 f17 f18 f19 f20 f21
  obtain ⟨⟨f0, f1, f2, f3, f4, f5, f6, f7, f8, f9, f10, f11, f12, f13, f14, f15, f16, f17, f18, f19, f20, f21⟩, _⟩ := HF.out W4 hd4
  have HD4 := Lib.hid hd4
  clear hb4 hd4
  go_wp2_with fail
  refine (first_any kq 3 (by decide) none 0 0 _ (qi_kq _)).mono ?_
  rintro e W5 ⟨he, hb5⟩
  rw [kq3] at he
  subst he
  have hd5 : Below w4.heap.size w4 W5 := below_then (by (repeat' (first | exact HD4.out | exact Below.refl _ _ | apply Below.drew))) hb5
  clear f0 f1 f2 f3 f4 f5 f6 f7 f8 f9 f10 f11 f12 f13 f14 f15 f16 f17 f18 f19 f20 f21
  obtain ⟨⟨f0, f1, f2, f3, f4, f5, f6, f7, f8, f9, f10, f11, f12, f13, f14, f15, f16, f17, f18, f19, f20, f21⟩, _⟩ := HF.out W5 hd5
  have HD5 := Lib.hid hd5
  clear hb5 hd5
  go_wp2_with fail
  refine (reach_any kq 1 none 0 0 _ (qi_kq _)).mono ?_
  rintro e W6 ⟨he, hb6⟩
  rw [kq5] at he
  subst he
  have hd6 : Below w4.heap.size w4 W6 := below_then (by (repeat' (first | exact HD5.out | exact Below.refl _ _ | apply Below.drew))) hb6
  clear f0 f1 f2 f3 f4 f5 f6 f7 f8 f9 f10 f11 f12 f13 f14 f15 f16 f17 f18 f19 f20 f21
  obtain ⟨⟨f0, f1, f2, f3, f4, f5, f6, f7, f8, f9, f10, f11, f12, f13, f14, f15, f16, f17, f18, f19, f20, f21⟩, _⟩ := HF.out W6 hd6
  have HD6 := Lib.hid hd6
  clear hb6 hd6
  go_wp2_with fail
  refine (reach_any kq 2 none 0 0 _ (qi_kq _)).mono ?_
  rintro e W7 ⟨he, hb7⟩
  rw [kq6] at he
  subst he
  have hd7 : Below w4.heap.size w4 W7 := below_then (by (repeat' (first | exact HD6.out | exact Below.refl _ _ | apply Below.drew))) hb7
  clear f0 f1 f2 f3 f4 f5 f6 f7 f8 f9 f10 f11 f12 f13 f14 f15 f16 f17 f18 f19 f20 f21
  obtain ⟨⟨f0, f1, f2, f3, f4, f5, f6, f7, f8, f9, f10, f11, f12, f13, f14, f15, f16, f17, f18, f19, f20, f21⟩, _⟩ := HF.out W7 hd7
  have HD7 := Lib.hid hd7
  clear hb7 hd7
  go_wp2_with fail
  refine (first_any kg 7 (by decide) none 0 0 _ (qi_kg _)).mono ?_
  rintro e W8 ⟨he, hb8⟩
  rw [kg1] at he
  subst he
  have hd8 : Below w4.heap.size w4 W8 := below_then (by (repeat' (first | exact HD7.out | exact Below.refl _ _ | apply Below.drew))) hb8
  clear f0 f1 f2 f3 f4 f5 f6 f7 f8 f9 f10 f11 f12 f13 f14 f15 f16 f17 f18 f19 f20 f21
  obtain ⟨⟨f0, f1, f2, f3, f4, f5, f6, f7, f8, f9, f10, f11, f12, f13, f14, f15, f16, f17, f18, f19, f20, f21⟩, _⟩ := HF.out W8 hd8
  have HD8 := Lib.hid hd8
  clear hb8 hd8
  go_wp2_with fail
  refine (second_any kg 9 (by decide) none 0 0 _ (qi_kg _)).mono ?_
  rintro e W9 ⟨he, hb9⟩
  rw [kg2] at he
  subst he
  have hd9 : Below w4.heap.size w4 W9 := below_then (by (repeat' (first | exact HD8.out | exact Below.refl _ _ | apply Below.drew))) hb9
  clear f0 f1 f2 f3 f4 f5 f6 f7 f8 f9 f10 f11 f12 f13 f14 f15 f16 f17 f18 f19 f20 f21
  obtain ⟨⟨f0, f1, f2, f3, f4, f5, f6, f7, f8, f9, f10, f11, f12, f13, f14, f15, f16, f17, f18, f19, f20, f21⟩, _⟩ := HF.out W9 hd9
  have HD9 := Lib.hid hd9
  clear hb9 hd9
  go_wp2_with fail
  refine (first_any ks 5 (by decide) _ 3 3 _ (HKS.out _ HD9.out)).mono ?_
  rintro e W10 ⟨he, hb10⟩
  rw [ks1] at he
  subst he
  have hd10 : Below w4.heap.size w4 W10 := below_then (by (repeat' (first | exact HD9.out | exact Below.refl _ _ | apply Below.drew))) hb10
  clear f0 f1 f2 f3 f4 f5 f6 f7 f8 f9 f10 f11 f12 f13 f14 f15 f16 f17 f18 f19 f20 f21
  obtain ⟨⟨f0, f1, f2, f3, f4, f5, f6, f7, f8, f9, f10, f11, f12, f13, f14, f15, f16, f17, f18, f19, f20, f21⟩, _⟩ := HF.out W10 hd10
  have HD10 := Lib.hid hd10
  clear hb10 hd10
  go_wp2_with fail
  refine (second_any ks 4 (by decide) _ 3 3 _ (HKS.out _ HD10.out)).mono ?_
  rintro e W11 ⟨he, hb11⟩
  rw [ks2] at he
  subst he
  have hd11 : Below w4.heap.size w4 W11 := below_then (by (repeat' (first | exact HD10.out | exact Below.refl _ _ | apply Below.drew))) hb11
  clear f0 f1 f2 f3 f4 f5 f6 f7 f8 f9 f10 f11 f12 f13 f14 f15 f16 f17 f18 f19 f20 f21
  obtain ⟨⟨f0, f1, f2, f3, f4, f5, f6, f7, f8, f9, f10, f11, f12, f13, f14, f15, f16, f17, f18, f19, f20, f21⟩, _⟩ := HF.out W11 hd11
  have HD11 := Lib.hid hd11
  clear hb11 hd11
  go_wp2_with fail
  refine (first_any ks 4 (by decide) _ 3 3 _ (HKS.out _ HD11.out)).mono ?_
  rintro e W12 ⟨he, hb12⟩
  rw [ks3] at he
  subst he
  have hd12 : Below w4.heap.size w4 W12 := below_then (by (repeat' (first | exact HD11.out | exact Below.refl _ _ | apply Below.drew))) hb12
  clear f0 f1 f2 f3 f4 f5 f6 f7 f8 f9 f10 f11 f12 f13 f14 f15 f16 f17 f18 f19 f20 f21
  obtain ⟨⟨f0, f1, f2, f3, f4, f5, f6, f7, f8, f9, f10, f11, f12, f13, f14, f15, f16, f17, f18, f19, f20, f21⟩, _⟩ := HF.out W12 hd12
  have HD12 := Lib.hid hd12
  clear hb12 hd12
  go_wp2_with fail
  go_ret
  exact ⟨rfl, below_then HB24.out HD12.out⟩
end Go.Proofs.Ytgkglkcnnebddaa
