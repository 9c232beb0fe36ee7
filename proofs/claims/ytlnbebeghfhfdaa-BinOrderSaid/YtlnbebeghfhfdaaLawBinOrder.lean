/- BinOrder is true at every two numbers of 64 bits. Conditions: none. -/
import Derived.Test.YtlnbebeghfhfdaaLaw
import Derived.Test.YtlnbebeghfhfdaaKnown
import Derived.Test.YtlnbebeghfhfdaaNums2
namespace Go.Proofs.Ytlnbebeghfhfdaa
open Go.ChangeShapes Go.WideShapes Go.ChangeAt Go.RowKit

set_option maxHeartbeats 1000000 in
set_option maxRecDepth 100000 in
/-- The walk, every test decided ahead. -/
theorem binOrder_core (m n : Nat) (la lb : List UInt8) (b1 b2 b3 : Bool) (w : World)
    (ha : Calls Try.prog 10 #[.int .u64 m] w fun e w' => ∃ v, e = .returned v ∧ w'.ownsRow w.heap.size 5 1 v la.length (u8s la) ∧ Below w.heap.size w w')
    (hb : ∀ w, Calls Try.prog 10 #[.int .u64 n] w fun e w' => ∃ v, e = .returned v ∧ w'.ownsRow w.heap.size 5 1 v lb.length (u8s lb) ∧ Below w.heap.size w w')
    (h1 : ((la.length : Int) == 1) = b1) (h2 : decide ((m : Int) < 128) = b1) (h3 : decide (m ≤ n) = b2) (h4 : b2 = true → decide (lb.length < la.length) = false) (h5 : ((m : Int) == (n : Int)) = b3) (h6 : (la == lb) = b3) :
    Calls Try.prog 8 #[.int .u64 m, .int .u64 n] w fun e w' => e = .returned (.bool true) ∧ Below w.heap.size w w' := by
  have Ha := Lib.hid ha
  have Hb := Lib.hid hb
  have H6 := Lib.hid h6
  have hbb : (b1 != b1) = false := by cases b1 <;> rfl
  have hbc : (b3 == b3) = true := by cases b3 <;> rfl
  clear ha hb h6
  cases b2
  all_goals
    first | (have h4' := h4 rfl) | skip
    clear h4
    go_enter Try.func8, Try.ntmps8
    go_wp2_with fail
    refine Ha.out.mono ?_
    rintro e w1 ⟨v1, rfl, ho1, hb1⟩
    obtain ⟨A1, c1, rfl, _⟩ := own_shape ho1
    have hr1 := Rd.of_own ho1
    go_wp2_with fail
    refine (Hb.out _).mono ?_
    rintro e w2 ⟨v2, rfl, ho2, hb2⟩
    obtain ⟨A2, c2, rfl, _⟩ := own_shape ho2
    have Hr2 := Lib.hid (Rd.of_own ho2)
    have Hr1 := Lib.hid (hr1.up hb2)
    have Hbb := Lib.hid (hb1.trans (hb2.mono hb1.size))
    clear hb1 hb2 hr1 ho1 ho2
    go_wp2_with fail
    refine (known_any _).mono ?_
    rintro e w3 ⟨rfl, hk⟩
    have Hs := Lib.hid (same_any _ _ _ _ c1 c2 _ _ _ _ _ (Hr1.out.up hk) (Hr2.out.up hk))
    have Hb3 := Lib.hid (Hbb.out.trans (hk.mono Hbb.out.size))
    clear hk
    go_wp2_with fail
    rw [H6.out] at Hs
    refine Hs.out.mono ?_
    rintro e w' ⟨rfl, rfl⟩
    go_wp2
    go_ret
    exact ⟨rfl, Hb3.out⟩

theorem binOrder_walk (m n : Nat) (w : World) (hm : m < 18446744073709551616) (hn : n < 18446744073709551616) :
    Calls Try.prog 8 #[.int .u64 m, .int .u64 n] w fun e w' => e = .returned (.bool true) ∧ Below w.heap.size w w' := by
  refine binOrder_core m n (Lib.uvarint m) (Lib.uvarint n) (decide (m < 128)) (decide (m ≤ n)) (decide (m = n)) w (binPut_any m w hm) (fun w => binPut_any n w hn) ?_ ?_ rfl ?_ ?_ ?_
  · have := uvarint_one m
    rw [Bool.eq_iff_iff]
    simp
    omega
  · rw [Bool.eq_iff_iff]; simp; omega
  · intro h
    have := uvarint_mono m n (of_decide_eq_true h)
    simp
    omega
  · rw [Bool.eq_iff_iff]; simp; omega
  · rw [Bool.eq_iff_iff]
    simp
    exact ⟨fun h => uvarint_inj hm hn h, fun h => by rw [h]⟩

namespace binOrder
set_option maxRecDepth 100000 in
theorem lifted (os : Os) (started : os.Started) (H : Type) (enc : TypeId × Value → H) :
    ReturnsInHanded {} Try.checked os 8 .any (Rows.binOrderSpec.pre6 enc Try.prog Try.f8 Rows.binOrderRow.domain false) (Rows.binOrderSpec.post enc Try.prog Try.f8 false true false false) := by
  refine law_lift started (by kernel_rfl) Try.func8
    (ChangeSpec.witness6 (enc := enc) (C := Try.checked) false ⟨#[], #[.int .u64 0, .int .u64 0], []⟩ 8 (by kernel_rfl) (by kernel_rfl) (by kernel_rfl) (by kernel_rfl))
    rfl ?_ (by kernel_rfl) (by kernel_rfl) ?_
  · intro ds h
    match ds, h with
    | [_, _], _ => rfl
  intro W base args ds p g
  have hA := g.trod
  have hval := g.val
  rw [Try.params8] at hA hval
  obtain ⟨v0, vs0, d0, ds0, p0, q0, hargs, rfl, rfl, h0, r0⟩ := trodAll_cons hA
  obtain ⟨v1, vs1, d1, ds1, p1, q1, rfl, rfl, rfl, h1, r1⟩ := trodAll_cons r0
  obtain ⟨rfl, rfl, rfl⟩ := trodAll_nil r1
  obtain rfl : args = #[v0, v1] := by cases args; simp_all
  obtain ⟨a0, rfl, _, _, w0⟩ := open_int Try.underlying22 (hval 0 22 v0 rfl rfl) h0
  obtain ⟨a1, rfl, _, _, w1⟩ := open_int Try.underlying22 (hval 1 22 v1 rfl rfl) h1
  have b0 := bounds_u64 w0
  have b1 := bounds_u64 w1
  obtain ⟨m, rfl⟩ := Int.eq_ofNat_of_zero_le b0.1
  obtain ⟨n, rfl⟩ := Int.eq_ofNat_of_zero_le b1.1
  exact binOrder_walk m n W (by omega) (by omega)

theorem over : Rows.binOrderRow.holds Try.pinned (OpenSpec.ofChange Rows.binOrderSpec) :=
  OpenClaim.holds_of_wide 8 Try.f8 rfl rfl rfl rfl rfl rfl rfl ⟨rfl, rfl, rfl, rfl, rfl⟩ rfl rfl rfl rfl rfl (by kernel_rfl) Try.func8 (by kernel_rfl)
    (of_decide_eq_true (by kernel_rfl)) (by unfold Func.isWrapper; first | (rw [if_pos (by decide +kernel)]; kernel_rfl) | (rw [if_neg (by decide +kernel)]; exact ⟨rfl, rfl⟩))
    (fun os started H enc _ => lifted os started H enc)
end binOrder

theorem BinOrder_proved : Rows.BinOrderSaid := binOrder.over
#print axioms BinOrder_proved
end Go.Proofs.Ytlnbebeghfhfdaa
