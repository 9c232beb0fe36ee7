/- BinNumbers is true at every number of 64 bits, every number with a sign, every number of 32 bits. Conditions: none. -/
import Derived.Test.YtlnbebeghfhfdaaLaw
import Derived.Test.YtlnbebeghfhfdaaKnown
import Derived.Test.YtlnbebeghfhfdaaFam
namespace Go.Proofs.Ytlnbebeghfhfdaa
open Go.ChangeShapes Go.WideShapes Go.ChangeAt Go.RowKit

set_option maxHeartbeats 2000000 in
set_option maxRecDepth 100000 in
theorem binNumbers_walk (n : Nat) (i : Int) (x : Nat) (w : World) (hn : n < 18446744073709551616) (hi1 : -9223372036854775808 ≤ i) (hi2 : i ≤ 9223372036854775807) (hx : x < 4294967296) :
    Calls Try.prog 3 #[.int .u64 n, .int .i64 i, .int .u32 x] w fun e w' => e = .returned (.bool true) ∧ Below w.heap.size w w' := by
  have Ca : Hid (∀ w, Calls Try.prog 10 #[.int .u64 n] w fun e w' => ∃ v, e = .returned v ∧ w'.ownsRow w.heap.size 5 1 v (Lib.uvarint n).length (u8s (Lib.uvarint n)) ∧ Below w.heap.size w w') := fun w => binPut_any n w hn
  have Cb : Hid (∀ w, Calls Try.prog 11 #[.int .i64 i] w fun e w' => ∃ v, e = .returned v ∧ w'.ownsRow w.heap.size 5 1 v (Lib.uvarint (Lib.zigzag i)).length (u8s (Lib.uvarint (Lib.zigzag i))) ∧ Below w.heap.size w w') := fun w => binPutInt_any i w hi1 hi2
  have Cc : Hid (∀ w, Calls Try.prog 12 #[.int .u32 x] w fun e w' => ∃ v, e = .returned v ∧ w'.ownsRow w.heap.size 5 1 v (fixed4 x).length (u8s (fixed4 x)) ∧ Below w.heap.size w w') := fun w => binPutFixed_any x w hx
  have Ra : Hid (∀ w, Calls Try.prog 14 #[.int .u64 n] w fun e w' => ∃ v, e = .returned v ∧ w'.ownsRow w.heap.size 5 1 v (Lib.uvarint n).length (u8s (Lib.uvarint n)) ∧ Below w.heap.size w w') := fun w => refPut_any n w hn
  have Rb : Hid (∀ w, Calls Try.prog 15 #[.int .i64 i] w fun e w' => ∃ v, e = .returned v ∧ w'.ownsRow w.heap.size 5 1 v (Lib.uvarint (Lib.zigzag i)).length (u8s (Lib.uvarint (Lib.zigzag i))) ∧ Below w.heap.size w w') := fun w => refPutInt_any i w hi1 hi2
  have Rc : Hid (∀ w, Calls Try.prog 16 #[.int .u32 x] w fun e w' => ∃ v, e = .returned v ∧ w'.ownsRow w.heap.size 5 1 v (fixed4 x).length (u8s (fixed4 x)) ∧ Below w.heap.size w w') := fun w => refPutFixed_any x w hx
  have hla : (Lib.uvarint n).length ≤ 10 := Lib.uvarint_length64 hn
  have hlb : (Lib.uvarint (Lib.zigzag i)).length ≤ 10 := Lib.uvarint_length64 (Lib.zigzag_lt hi1 hi2)
  have hlc : (fixed4 x).length ≤ 10 := by show 4 ≤ 10; omega
  generalize Lib.uvarint n = la at *
  generalize Lib.uvarint (Lib.zigzag i) = lb at *
  generalize fixed4 x = lc at *
  clear hn hi1 hi2 hx
  go_enter Try.func3, Try.ntmps3
  go_wp2_with fail
  refine (Ca.out _).mono ?_
  rintro e w1 ⟨v1, rfl, ho1, hb1⟩
  have F1 : Hid (Fam w1 w.heap.size ([] ++ [v1]) ([] ++ [la])) := (Fam.nil w w.heap.size).push hb1 ho1 (Nat.le_refl _)
  obtain ⟨A1, c1, rfl, _⟩ := own_shape ho1
  have R1 := Lib.hid (Rd.of_own ho1)
  clear ho1
  go_wp2_with fail
  refine (Cb.out _).mono ?_
  rintro e w2 ⟨v2, rfl, ho2, hb2⟩
  have F2 : Hid (Fam w2 w.heap.size (([] ++ [_]) ++ [v2]) (([] ++ [la]) ++ [lb])) := F1.out.push hb2 ho2 hb1.size
  obtain ⟨A2, c2, rfl, _⟩ := own_shape ho2
  have R12 := Lib.hid (R1.out.up hb2)
  have R22 := Lib.hid (Rd.of_own ho2)
  have B2 := Lib.hid (below_then hb1 hb2)
  clear ho2 hb1 hb2 F1 R1
  go_wp2_with fail
  refine (Cc.out _).mono ?_
  rintro e w3 ⟨v3, rfl, ho3, hb3⟩
  have F3 : Hid (Fam w3 w.heap.size ((([] ++ [_]) ++ [_]) ++ [v3]) ((([] ++ [la]) ++ [lb]) ++ [lc])) := F2.out.push hb3 ho3 B2.out.size
  obtain ⟨A3, c3, rfl, _⟩ := own_shape ho3
  have R13 := Lib.hid (R12.out.up hb3)
  have R23 := Lib.hid (R22.out.up hb3)
  have R33 := Lib.hid (Rd.of_own ho3)
  have B3 := Lib.hid (below_then B2.out hb3)
  clear ho3 hb3 F2 R12 R22 B2
  go_wp2_with fail
  refine (Ra.out _).mono ?_
  rintro e w4 ⟨v4, rfl, ho4, hb4⟩
  obtain ⟨A4, c4, rfl, _⟩ := own_shape ho4
  have S4 := Lib.hid (same_any _ _ _ _ c1 c4 _ _ _ _ _ (R13.out.up hb4) (Rd.of_own ho4))
  have F4 := Lib.hid (F3.out.up hb4)
  have R24 := Lib.hid (R23.out.up hb4)
  have R34 := Lib.hid (R33.out.up hb4)
  have B4 := Lib.hid (below_then B3.out hb4)
  clear ho4 hb4 F3 R13 R23 R33 B3
  go_wp2_with fail
  refine S4.out.mono ?_
  rintro e w' ⟨rfl, rfl⟩
  clear S4
  go_wp2_with fail
  refine (Rb.out _).mono ?_
  rintro e w5 ⟨v5, rfl, ho5, hb5⟩
  obtain ⟨A5, c5, rfl, _⟩ := own_shape ho5
  have S5 := Lib.hid (same_any _ _ _ _ c2 c5 _ _ _ _ _ (R24.out.up hb5) (Rd.of_own ho5))
  have F5 := Lib.hid (F4.out.up hb5)
  have R35 := Lib.hid (R34.out.up hb5)
  have B5 := Lib.hid (below_then B4.out hb5)
  clear ho5 hb5 F4 R24 R34 B4
  go_wp2_with fail
  refine S5.out.mono ?_
  rintro e w' ⟨rfl, rfl⟩
  clear S5
  go_wp2_with fail
  refine (Rc.out _).mono ?_
  rintro e w6 ⟨v6, rfl, ho6, hb6⟩
  obtain ⟨A6, c6, rfl, _⟩ := own_shape ho6
  have S6 := Lib.hid (same_any _ _ _ _ c3 c6 _ _ _ _ _ (R35.out.up hb6) (Rd.of_own ho6))
  have F6 := Lib.hid (F5.out.up hb6)
  have B6 := Lib.hid (below_then B5.out hb6)
  clear ho6 hb6 F5 R35 B5
  go_wp2_with fail
  refine S6.out.mono ?_
  rintro e w' ⟨rfl, rfl⟩
  clear S6
  go_wp2_with fail
  refine (known_any _).mono ?_
  rintro e w7 ⟨rfl, hb7⟩
  have F7 := Lib.hid (F6.out.up hb7)
  have B7 := Lib.hid (below_then B6.out hb7)
  clear hb7 F6 B6
  go_wp2_with fail
  refine (Ca.out _).mono ?_
  rintro e w8 ⟨v8, rfl, ho8, hb8⟩
  have F8 := Lib.hid (F7.out.push hb8 ho8 B7.out.size)
  have B8 := Lib.hid (below_then B7.out hb8)
  obtain ⟨A8, c8, rfl, _⟩ := own_shape ho8
  clear ho8 hb8 F7 B7
  go_wp2_with fail
  refine (Cb.out _).mono ?_
  rintro e w9 ⟨v9, rfl, ho9, hb9⟩
  have F9 := Lib.hid (F8.out.push hb9 ho9 B8.out.size)
  have B9 := Lib.hid (below_then B8.out hb9)
  obtain ⟨A9, c9, rfl, _⟩ := own_shape ho9
  clear ho9 hb9 F8 B8
  go_wp2_with fail
  refine (Cc.out _).mono ?_
  rintro e w10 ⟨v10, rfl, ho10, hb10⟩
  have F10 := Lib.hid (F9.out.push hb10 ho10 B9.out.size)
  have B10 := Lib.hid (below_then B9.out hb10)
  obtain ⟨A10, c10, rfl, _⟩ := own_shape ho10
  clear ho10 hb10 F9 B9
  have Cown := Lib.hid (F10.out.lit (K := 6) (g := w10.heap.size) (cs := #[.slice A1 la.length c1, .slice A2 lb.length c2, .slice A3 lc.length c3, .slice A8 la.length c8, .slice A9 lb.length c9, .slice A10 lc.length c10]) rfl rfl rfl B10.out.size (by omega)
    (by intro l hl; simp at hl; rcases hl with rfl | rfl | rfl | rfl | rfl | rfl <;> omega))
  clear F10
  go_wp2_with fail
  refine Cown.out.mono ?_
  rintro e w11 ⟨rfl, hb11⟩
  have B11 := Lib.hid ((B10.out.alloc B10.out.size _).trans hb11)
  clear hb11 Cown
  go_wp2
  go_ret
  exact ⟨rfl, B11.out⟩

namespace binNumbers
set_option maxRecDepth 100000 in
theorem lifted (os : Os) (started : os.Started) (H : Type) (enc : TypeId × Value → H) :
    ReturnsInHanded {} Try.checked os 3 .any (Rows.binNumbersSpec.pre6 enc Try.prog Try.f3 Rows.binNumbersRow.domain false) (Rows.binNumbersSpec.post enc Try.prog Try.f3 false true false false) := by
  refine law_lift started (by kernel_rfl) Try.func3
    (ChangeSpec.witness6 (enc := enc) (C := Try.checked) false ⟨#[], #[.int .u64 0, .int .i64 0, .int .u32 0], []⟩ 8 (by kernel_rfl) (by kernel_rfl) (by kernel_rfl) (by kernel_rfl))
    rfl ?_ (by kernel_rfl) (by kernel_rfl) ?_
  · intro ds h
    match ds, h with
    | [_, _, _], _ => rfl
  intro W base args ds p g
  have hA := g.trod
  have hval := g.val
  rw [Try.params3] at hA hval
  obtain ⟨v0, vs0, d0, ds0, p0, q0, hargs, rfl, rfl, h0, r0⟩ := trodAll_cons hA
  obtain ⟨v1, vs1, d1, ds1, p1, q1, rfl, rfl, rfl, h1, r1⟩ := trodAll_cons r0
  obtain ⟨v2, vs2, d2, ds2, p2, q2, rfl, rfl, rfl, h2, r2⟩ := trodAll_cons r1
  obtain ⟨rfl, rfl, rfl⟩ := trodAll_nil r2
  obtain rfl : args = #[v0, v1, v2] := by cases args; simp_all
  obtain ⟨a0, rfl, _, _, w0⟩ := open_int Try.underlying22 (hval 0 22 v0 rfl rfl) h0
  obtain ⟨a1, rfl, _, _, w1⟩ := open_int Try.underlying2 (hval 1 2 v1 rfl rfl) h1
  obtain ⟨a2, rfl, _, _, w2⟩ := open_int Try.underlying23 (hval 2 23 v2 rfl rfl) h2
  have b0 := bounds_u64 w0
  have b1 := bounds_i64 w1
  have b2 := bounds_u32 w2
  obtain ⟨m, rfl⟩ := Int.eq_ofNat_of_zero_le b0.1
  obtain ⟨n, rfl⟩ := Int.eq_ofNat_of_zero_le b2.1
  exact binNumbers_walk m a1 n W (by omega) b1.1 b1.2 (by omega)

theorem over : Rows.binNumbersRow.holds Try.pinned (OpenSpec.ofChange Rows.binNumbersSpec) :=
  OpenClaim.holds_of_wide 3 Try.f3 rfl rfl rfl rfl rfl rfl rfl ⟨rfl, rfl, rfl, rfl, rfl⟩ rfl rfl rfl rfl rfl (by kernel_rfl) Try.func3 (by kernel_rfl)
    (of_decide_eq_true (by kernel_rfl)) (by unfold Func.isWrapper; first | (rw [if_pos (by decide +kernel)]; kernel_rfl) | (rw [if_neg (by decide +kernel)]; exact ⟨rfl, rfl⟩))
    (fun os started H enc _ => lifted os started H enc)
end binNumbers

theorem BinNumbers_proved : Rows.BinNumbersSaid := binNumbers.over
#print axioms BinNumbers_proved
end Go.Proofs.Ytlnbebeghfhfdaa
