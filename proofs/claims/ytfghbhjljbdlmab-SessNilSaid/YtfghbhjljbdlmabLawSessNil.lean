/- SessNil is true at every segment and bytes. -/
import Derived.Test.YtfghbhjljbdlmabSesR
namespace Go.Proofs.Ytfghbhjljbdlmab
open Go.ChangeShapes Go.WideShapes Go.ChangeAt Go.RowKit

set_option maxHeartbeats 8000000 in
set_option maxRecDepth 100000 in
theorem sessNil_walk (x : Gs) (A : Option Addr) (n c : Nat) (l : List UInt8) (w : World) (hx : x.Ok w w.heap.size) (_hc : n ≤ c) (_hm : c ≤ 9223372036854775807) (_hA : Rd w w.heap.size A n l) :
    Calls Try.prog 4 #[x.v, .slice A n c] w fun e w' => e = .returned (.bool true) ∧ Below w.heap.size w w' := by
  have HKn := Lib.hid sknown_any
  have HPu := Lib.hid (sPush_nil (.slice A n c))
  have HTi := Lib.hid sTick_nil
  have HLe := Lib.hid sLeft_nil
  have HGo := Lib.hid rGot_nil
  obtain ⟨⟨sl, ss, sa, sb⟩, SA, sn, sc⟩ := x
  have HRH : Hid (∀ W, Calls Try.prog 10 #[.pointer none, .agg #[.int .u64 (sl : Int), .int .u64 (ss : Int), .bool sa, .slice SA sn sc]] W fun e w' => e = .returned (.tuple #[.slice none 0 0, .agg #[.int .u64 0, .int .u64 0, .bool false, .slice none 0 0], .int .i64 1]) ∧ Below W.heap.size W w') :=
    Lib.hid fun W => rHear_err none ⟨sl, ss, sa, sb⟩ SA sn sc W 1 (by decide) fun W' _ => rRefuse_nil _ _ _ _ W'
  have HSH : Hid (∀ W, Calls Try.prog 13 #[.pointer none, .agg #[.int .u64 (sl : Int), .int .u64 (ss : Int), .bool sa, .slice SA sn sc]] W fun e w' => e = .returned (.int .i64 1) ∧ Below W.heap.size W w') := Lib.hid fun W => sHear_nil _ _ _ _ W
  have HSa : Hid (∀ W, Calls Try.prog 17 #[.agg #[.int .u64 0, .int .u64 0, .bool false, .slice none 0 0], .agg #[.int .u64 0, .int .u64 0, .bool false, .slice none 0 0]] W fun e w' => e = .returned (.bool true) ∧ Below W.heap.size W w') := Lib.hid fun W => by
    have := sSame_any Sg.zero Sg.zero none none 0 0 0 0 W (Rd.nil _ _ _) (Rd.nil _ _ _)
    rw [sameSg_self] at this
    exact this
  have hv : Gs.v ⟨⟨sl, ss, sa, sb⟩, SA, sn, sc⟩ = .agg #[.int .u64 (sl : Int), .int .u64 (ss : Int), .bool sa, .slice SA sn sc] := rfl
  rw [hv]
  clear hx hv
  obtain ⟨w1, hw1⟩ : ∃ w1, w1 = w.alloc (.cells #[.int .u64 (sl : Int), .int .u64 (ss : Int), .bool sa, .slice SA sn sc] 36) := ⟨_, rfl⟩
  have hb1 : Below w.heap.size w w1 := by rw [hw1]; exact (Below.refl _ _).alloc (Nat.le_refl _) _
  have hk1 : Bk w1 w.heap.size 36 #[.int .u64 (sl : Int), .int .u64 (ss : Int), .bool sa, .slice SA sn sc] := by rw [hw1]; exact Bk.new w 36 _
  have k0 : w1.cell? ⟨w.heap.size, 0, none⟩ = some (.int .u64 (sl : Int)) := hk1.cell 0
  have k1 : w1.cell? ⟨w.heap.size, 1, none⟩ = some (.int .u64 (ss : Int)) := hk1.cell 1
  have k2 : w1.cell? ⟨w.heap.size, 2, none⟩ = some (.bool sa) := hk1.cell 2
  have k3 : w1.cell? ⟨w.heap.size, 3, none⟩ = some (.slice SA sn sc) := hk1.cell 3
  have HW1 := Lib.hid hw1
  have HB1 := Lib.hid hb1
  have HK1 := Lib.hid hk1
  rw [hw1] at k0 k1 k2 k3
  clear hw1 hb1 hk1
  go_enter Try.func4, Try.ntmps4
  go_wp2_with fail
  rw [← HW1.out]
  refine (HRH.out w1).mono ?_
  rintro e w2 ⟨rfl, hb2⟩
  obtain ⟨w3, hw3⟩ : ∃ w3, w3 = w2.alloc (.cells #[.int .u64 0, .int .u64 0, .bool false, .slice none 0 0] 36) := ⟨_, rfl⟩
  have hb3 : Below w2.heap.size w2 w3 := by rw [hw3]; exact (Below.refl _ _).alloc (Nat.le_refl _) _
  have hk3 : Bk w3 w2.heap.size 36 #[.int .u64 0, .int .u64 0, .bool false, .slice none 0 0] := by rw [hw3]; exact Bk.new w2 36 _
  have hb13 := below_then hb2 hb3
  have hk13 := HK1.out.below hb13 HK1.out.lt
  have HW3 := Lib.hid hw3
  have HB3 := Lib.hid (below_then HB1.out hb13)
  have HK3 := Lib.hid hk3
  have HK13 := Lib.hid hk13
  clear hw3 hb3 hk3 hb13 hk13 hb2 k0 k1 k2 k3 HK1
  go_wp2_with fail
  rw [← HW3.out]
  refine (HGo.out w3).mono ?_
  rintro e w3' ⟨rfl, rfl⟩
  go_wp2_with fail
  refine (HPu.out w3).mono ?_
  rintro e w3' ⟨rfl, rfl⟩
  go_wp2_with fail
  refine (HTi.out w3).mono ?_
  rintro e w3' ⟨rfl, rfl⟩
  have k0 : w3.cell? ⟨w.heap.size, 0, none⟩ = some (.int .u64 (sl : Int)) := HK13.out.cell 0
  have k1 : w3.cell? ⟨w.heap.size, 1, none⟩ = some (.int .u64 (ss : Int)) := HK13.out.cell 1
  have k2 : w3.cell? ⟨w.heap.size, 2, none⟩ = some (.bool sa) := HK13.out.cell 2
  have k3 : w3.cell? ⟨w.heap.size, 3, none⟩ = some (.slice SA sn sc) := HK13.out.cell 3
  go_wp2_with fail
  refine (HSH.out w3).mono ?_
  rintro e w4 ⟨rfl, hb4⟩
  have hk4 := HK3.out.below hb4 HK3.out.lt
  have j0 : w4.cell? ⟨w2.heap.size, 0, none⟩ = some (.int .u64 0) := hk4.cell 0
  have j1 : w4.cell? ⟨w2.heap.size, 1, none⟩ = some (.int .u64 0) := hk4.cell 1
  have j2 : w4.cell? ⟨w2.heap.size, 2, none⟩ = some (.bool false) := hk4.cell 2
  have j3 : w4.cell? ⟨w2.heap.size, 3, none⟩ = some (.slice none 0 0) := hk4.cell 3
  have HB4 := Lib.hid (below_then HB3.out hb4)
  clear hk4 hb4 k0 k1 k2 k3 HK3 HK13
  go_wp2_with fail
  refine (HLe.out w4).mono ?_
  rintro e w4' ⟨rfl, rfl⟩
  go_wp2_with fail
  refine (HSa.out w4).mono ?_
  rintro e w5 ⟨rfl, hb5⟩
  have HB5 := Lib.hid (below_then HB4.out hb5)
  clear hb5 j0 j1 j2 j3
  go_wp2_with fail
  refine (HKn.out w5).mono ?_
  rintro e w6 ⟨rfl, hb6⟩
  have HB6 := Lib.hid (below_then HB5.out hb6)
  clear hb6
  go_wp2
  go_ret
  exact ⟨rfl, HB6.out⟩

namespace sessNil
set_option maxRecDepth 100000 in
theorem lifted (os : Os) (started : os.Started) (H : Type) (enc : TypeId × Value → H) :
    ReturnsInHanded {} Try.checked os 4 .any (Rows.sessNilSpec.pre6 enc Try.prog Try.f4 Rows.sessNilRow.domain false) (Rows.sessNilSpec.post enc Try.prog Try.f4 false true false false) := by
  refine law_lift started (by kernel_rfl) Try.func4
    (ChangeSpec.witness6 (enc := enc) (C := Try.checked) false ⟨#[], #[.agg #[.int .u64 0, .int .u64 0, .bool false, .slice none 0 0], .slice none 0 0], []⟩ 8 (by kernel_rfl) (by kernel_rfl) (by kernel_rfl) (by kernel_rfl))
    rfl ?_ (by kernel_rfl) (by kernel_rfl) ?_
  · intro ds h
    match ds, h with
    | [_, _], _ => rfl
  intro W base args ds p g
  have hA := g.trod
  have hval := g.val
  rw [Try.params4] at hA hval
  obtain ⟨v0, vs0, d0, ds0, p0, q0, hargs, rfl, rfl, h0, r0⟩ := trodAll_cons hA
  obtain ⟨v1, vs1, d1, ds1, p1, q1, rfl, rfl, rfl, h1, r1⟩ := trodAll_cons r0
  obtain ⟨rfl, rfl, rfl⟩ := trodAll_nil r1
  obtain rfl : args = #[v0, v1] := by cases args; simp_all
  obtain ⟨x0, hx0, rfl⟩ := given_sg (hval 0 36 v0 rfl rfl) h0
  obtain ⟨A1, n1, c1, l1, rfl, hc1, hm1, hr1⟩ := given_bytes (hval 1 34 v1 rfl rfl) h1
  exact sessNil_walk x0 A1 n1 c1 l1 W hx0 hc1 hm1 hr1

theorem over : Rows.sessNilRow.holds Try.pinned (OpenSpec.ofChange Rows.sessNilSpec) :=
  OpenClaim.holds_of_wide 4 Try.f4 rfl rfl rfl rfl rfl rfl rfl ⟨rfl, rfl, rfl, rfl, rfl⟩ rfl rfl rfl rfl rfl (by kernel_rfl) Try.func4 (by kernel_rfl)
    (of_decide_eq_true (by kernel_rfl)) (by unfold Func.isWrapper; first | (rw [if_pos (by decide +kernel)]; kernel_rfl) | (rw [if_neg (by decide +kernel)]; exact ⟨rfl, rfl⟩))
    (fun os started H enc _ => lifted os started H enc)
end sessNil

theorem SessNil_proved : Rows.SessNilSaid := sessNil.over
#print axioms SessNil_proved
end Go.Proofs.Ytfghbhjljbdlmab
