/- BinBack is true at every bytes ahead and behind, every two numbers and every text. Conditions: none. -/
import Derived.Test.YtlnbebeghfhfdaaLaw
import Derived.Test.YtlnbebeghfhfdaaKnown
import Derived.Test.YtlnbebeghfhfdaaBackP
namespace Go.Proofs.Ytlnbebeghfhfdaa
open Go.ChangeShapes Go.WideShapes Go.ChangeAt Go.RowKit

theorem ret_true {b : Bool} (h : b = true) : Ending.returned (.bool b) = .returned (.bool true) := by rw [h]

set_option maxHeartbeats 2000000 in
set_option maxRecDepth 100000 in
theorem binBack_walk (A0 : Option Addr) (n0 c0 : Nat) (l0 : List UInt8) (n : Nat) (i : Int) (A3 : Option Addr) (n3 c3 : Nat) (l3 : List UInt8) (A4 : Option Addr) (n4 c4 : Nat) (l4 : List UInt8) (w : World)
    (_hc0 : n0 ≤ c0) (_hm0 : c0 ≤ 9223372036854775807) (h0 : Rd w w.heap.size A0 n0 l0) (hn : n < 18446744073709551616) (hi1 : -9223372036854775808 ≤ i) (hi2 : i ≤ 9223372036854775807)
    (_hc3 : n3 ≤ c3) (_hm3 : c3 ≤ 9223372036854775807) (h3 : Rd w w.heap.size A3 n3 l3) (_hc4 : n4 ≤ c4) (_hm4 : c4 ≤ 9223372036854775807) (h4 : Rd w w.heap.size A4 n4 l4) :
    Calls Try.prog 6 #[.slice A0 n0 c0, .int .u64 n, .int .i64 i, .slice A3 n3 c3, .slice A4 n4 c4] w fun e w' => e = .returned (.bool true) ∧ Below w.heap.size w w' := by
  by_cases hbig : 4096 < n0 ∨ 4096 < n3 ∨ 4096 < n4
  · by_cases b0 : 4096 < n0
    all_goals by_cases b3 : 4096 < n3
    all_goals by_cases b4 : 4096 < n4
    all_goals first
      | (exfalso; omega)
      | (have d0 : decide ((4096 : Int) < (n0 : Int)) = decide (4096 < n0) := by rw [Bool.eq_iff_iff]; simp; omega
         clear hbig h0 h3 h4
         go_enter Try.func6, Try.ntmps6
         go_wp2_with fail
         refine (known_any _).mono ?_
         rintro e w' ⟨rfl, hb⟩
         go_wp2
         go_ret
         exact ⟨rfl, hb⟩)
  · have b0 : n0 ≤ 4096 := by omega
    have b3 : n3 ≤ 4096 := by omega
    have b4 : n4 ≤ 4096 := by omega
    clear hbig
    obtain ⟨i0, hi0, hz0, hz1, hz2⟩ := info_parts Try.infoU8
    have hl0 := h0.1
    have hl3 := h3.1
    have hl4 := h4.1
    have hU := Lib.uvarint_length64 hn
    have hZ := Lib.uvarint_length64 (Lib.zigzag_lt hi1 hi2)
    have hP : (putB l3).length ≤ n3 + 10 := by
      unfold putB
      have := Lib.uvarint_length64 (show l3.length < 18446744073709551616 by omega)
      rw [List.length_append]
      omega
    have e1 := uintAt_back l0 (Lib.uvarint (Lib.zigzag i) ++ (putB l3 ++ l4)) n hn
    have e2 := intAt_back (l0 ++ Lib.uvarint n) (putB l3 ++ l4) i hi1 hi2
    have e3 := txtAt_back ((l0 ++ Lib.uvarint n) ++ Lib.uvarint (Lib.zigzag i)) l3 l4 4096 (by omega) (by omega)
    have Cc := Lib.hid (copy_any A0 n0 c0 w.heap.size l0 w (by omega) h0)
    have Ca : Hid (∀ w, Calls Try.prog 10 #[.int .u64 n] w fun e w' => ∃ v, e = .returned v ∧ w'.ownsRow w.heap.size 5 1 v (Lib.uvarint n).length (u8s (Lib.uvarint n)) ∧ Below w.heap.size w w') := fun w => binPut_any n w hn
    have Cb : Hid (∀ w, Calls Try.prog 11 #[.int .i64 i] w fun e w' => ∃ v, e = .returned v ∧ w'.ownsRow w.heap.size 5 1 v (Lib.uvarint (Lib.zigzag i)).length (u8s (Lib.uvarint (Lib.zigzag i))) ∧ Below w.heap.size w w') := fun w => binPutInt_any i w hi1 hi2
    have Cp : Hid (∀ w, Rd w w.heap.size A3 n3 l3 → Calls Try.prog 29 #[.slice A3 n3 c3] w fun e' w' => ∃ v, e' = .returned v ∧ w'.ownsRow w.heap.size 5 1 v (putB l3).length (u8s (putB l3)) ∧ Below w.heap.size w w') := fun w h => binPutBytes_any A3 n3 c3 l3 w (by omega) h
    rw [List.length_append] at e2
    rw [List.length_append, List.length_append] at e3
    rw [List.append_assoc] at e2
    rw [List.append_assoc, List.append_assoc] at e3
    generalize Lib.uvarint n = U at *
    generalize Lib.uvarint (Lib.zigzag i) = Z at *
    generalize putB l3 = P at *
    rw [hl0] at e1 e2 e3
    generalize hL : l0 ++ (U ++ (Z ++ (P ++ l4))) = L at *
    have hLl : L.length = n0 + U.length + Z.length + P.length + n4 := by rw [← hL]; simp; omega
    have cU : ∀ (A : Option Addr) (c : Nat) (w : World), (n0 + U.length + Z.length + P.length + n4) ≤ c → c ≤ 9223372036854775807 → Rd w w.heap.size A (n0 + U.length + Z.length + P.length + n4) L → Calls Try.prog 20 #[.slice A (n0 + U.length + Z.length + P.length + n4) c, .int .i64 n0] w fun e' w' => e' = .returned (.tuple #[.int .u64 n, .int .i64 ((n0 : Int) + (U.length : Int)), .int .i64 0]) ∧ w = w' := by
      intro A c w h1 h2 h3
      have := binUint_any A (n0 + U.length + Z.length + P.length + n4) c _ n0 L w h1 h2 h3
      rwa [e1] at this
    have cI : ∀ (A : Option Addr) (c : Nat) (w : World), (n0 + U.length + Z.length + P.length + n4) ≤ c → c ≤ 9223372036854775807 → Rd w w.heap.size A (n0 + U.length + Z.length + P.length + n4) L → Calls Try.prog 21 #[.slice A (n0 + U.length + Z.length + P.length + n4) c, .int .i64 ((n0 : Int) + (U.length : Int))] w fun e' w' => e' = .returned (.tuple #[.int .i64 i, .int .i64 ((n0 : Int) + (U.length : Int) + (Z.length : Int)), .int .i64 0]) ∧ w = w' := by
      intro A c w h1 h2 h3
      have := binInt_any A (n0 + U.length + Z.length + P.length + n4) c _ ((n0 : Int) + (U.length : Int)) L w h1 h2 h3
      have e2' : intAt L ((n0 : Int) + (U.length : Int)) = (i, (n0 : Int) + (U.length : Int) + (Z.length : Int), 0) := by
        have := e2
        rw [Int.natCast_add] at this
        exact this
      rwa [e2'] at this
    have cB : ∀ (A : Option Addr) (c : Nat) (w : World), (n0 + U.length + Z.length + P.length + n4) ≤ c → c ≤ 9223372036854775807 → Rd w w.heap.size A (n0 + U.length + Z.length + P.length + n4) L → Calls Try.prog 27 #[.slice A (n0 + U.length + Z.length + P.length + n4) c, .int .i64 ((n0 : Int) + (U.length : Int) + (Z.length : Int)), .int .i64 4096] w fun e' w' => ∃ v, e' = .returned (.tuple #[v, .int .i64 ((n0 : Int) + (U.length : Int) + (Z.length : Int) + (P.length : Int)), .int .i64 0]) ∧ w'.ownsRow w.heap.size 5 1 v l3.length (u8s l3) ∧ Below w.heap.size w w' := by
      intro A c w h1 h2 h3
      have := binBytes_any A (n0 + U.length + Z.length + P.length + n4) c ((n0 : Int) + (U.length : Int) + (Z.length : Int)) 4096 L w h1 (by omega) h2 (by omega) (by omega) h3
      have e3' : txtAt L ((n0 : Int) + (U.length : Int) + (Z.length : Int)) 4096 = (l3, (n0 : Int) + (U.length : Int) + (Z.length : Int) + (P.length : Int), 0) := by
        have := e3
        rw [Int.natCast_add, Int.natCast_add] at this
        exact this
      rwa [e3'] at this
    have CU := Lib.hid cU
    have CI := Lib.hid cI
    have CB := Lib.hid cB
    have H3 := Lib.hid h3
    have H4 := Lib.hid h4
    have HL := Lib.hid hL
    have HLl := Lib.hid hLl
    have hn3 := h3.none_zero
    have hn4 := h4.none_zero
    have Hn3 := Lib.hid hn3
    have Hn4 := Lib.hid hn4
    have Hl0 := Lib.hid hl0
    have Hl3 := Lib.hid hl3
    have Hl4 := Lib.hid hl4
    clear cU cI cB h0 h3 h4 e1 e2 e3 hL hLl hl0 hl3 hl4 hn hi1 hi2 hn3 hn4
    go_enter Try.func6, Try.ntmps6
    go_wp2_with fail
    refine Cc.out.mono ?_
    rintro e w1 ⟨v1, rfl, ho1, hb1⟩
    go_wp2_with fail
    refine (Ca.out _).mono ?_
    rintro e w2 ⟨vu, rfl, hou, hbu⟩
    have O1 := Lib.hid (own_below ho1 hbu fun k hk => (ho1.lt k hk).2)
    have B2 := Lib.hid (below_then hb1 hbu)
    obtain ⟨Au, cu, rfl, _⟩ := own_shape hou
    have Ru := Lib.hid (Rd.of_own hou)
    have z2 := B2.out.size
    clear ho1 hbu hou hb1
    go_wp2_with (at_builtin; refine wpList_append_app _ rfl _ _ 24 rfl w.heap.size 5 i0 (.int .u8 0) 1 1 Try.underlying24 hi0 hz0 hz1 hz2 rfl _ _ _ rfl O1.out Au U.length cu (u8s U) rfl (by rw [u8s_len, Nat.mul_one]) (Ru.out.none_zero) Ru.out.cells (u8s_one U) (by unfold maxLen; omega) (by omega) z2 ?_)
    intro va w3 ha
    have Oa : Hid (w3.ownsRow w.heap.size 5 1 va (n0 + U.length) (u8s (l0 ++ U))) := by rw [u8s_append]; exact ha.own
    have B3 := Lib.hid (ha.below B2.out z2 (own_block_ge O1.out))
    clear ha O1 B2 Ru z2
    go_wp2_with fail
    refine (Cb.out _).mono ?_
    rintro e w4 ⟨vz, rfl, hoz, hbz⟩
    have O2 := Lib.hid (own_below Oa.out hbz fun k hk => (Oa.out.lt k hk).2)
    have B4 := Lib.hid (below_then B3.out hbz)
    obtain ⟨Az, cz, rfl, _⟩ := own_shape hoz
    have Rz := Lib.hid (Rd.of_own hoz)
    have z4 := B4.out.size
    clear hoz hbz Oa B3
    go_wp2_with (at_builtin; refine wpList_append_app _ rfl _ _ 24 rfl w.heap.size 5 i0 (.int .u8 0) 1 1 Try.underlying24 hi0 hz0 hz1 hz2 rfl _ _ _ rfl O2.out Az Z.length cz (u8s Z) rfl (by rw [u8s_len, Nat.mul_one]) (Rz.out.none_zero) Rz.out.cells (u8s_one Z) (by unfold maxLen; omega) (by omega) z4 ?_)
    intro vb w5 ha
    have Ob : Hid (w5.ownsRow w.heap.size 5 1 vb (n0 + U.length + Z.length) (u8s (l0 ++ (U ++ Z)))) := by have h := ha.own; rw [← u8s_append] at h; simp only [List.append_assoc] at h; exact h
    have B5 := Lib.hid (ha.below B4.out z4 (own_block_ge O2.out))
    clear ha O2 B4 Rz z4
    go_wp2_with fail
    refine (Cp.out _ (H3.out.up B5.out)).mono ?_
    rintro e w6 ⟨vp, rfl, hop, hbp⟩
    have O3 := Lib.hid (own_below Ob.out hbp fun k hk => (Ob.out.lt k hk).2)
    have B6 := Lib.hid (below_then B5.out hbp)
    obtain ⟨Ap, cp, rfl, _⟩ := own_shape hop
    have Rp := Lib.hid (Rd.of_own hop)
    have z6 := B6.out.size
    clear hop hbp Ob B5
    go_wp2_with (at_builtin; refine wpList_append_app _ rfl _ _ 24 rfl w.heap.size 5 i0 (.int .u8 0) 1 1 Try.underlying24 hi0 hz0 hz1 hz2 rfl _ _ _ rfl O3.out Ap P.length cp (u8s P) rfl (by rw [u8s_len, Nat.mul_one]) (Rp.out.none_zero) Rp.out.cells (u8s_one P) (by unfold maxLen; omega) (by omega) z6 ?_)
    intro vc w7 ha
    have Oc : Hid (w7.ownsRow w.heap.size 5 1 vc (n0 + U.length + Z.length + P.length) (u8s (l0 ++ (U ++ (Z ++ P))))) := by have h := ha.own; rw [← u8s_append] at h; simp only [List.append_assoc] at h; exact h
    have B7 := Lib.hid (ha.below B6.out z6 (own_block_ge O3.out))
    have z7 := B7.out.size
    clear ha O3 B6 Rp z6
    go_wp2_with (at_builtin; refine wpList_append_app _ rfl _ _ 24 rfl w.heap.size 5 i0 (.int .u8 0) 1 1 Try.underlying24 hi0 hz0 hz1 hz2 rfl _ _ _ rfl Oc.out A4 n4 c4 (u8s l4) rfl (by rw [u8s_len, Hl4.out, Nat.mul_one]) Hn4.out (H4.out.up B7.out).cells (u8s_one l4) (by unfold maxLen; omega) (by omega) z7 ?_)
    intro vd w8 ha
    have hod : w8.ownsRow w.heap.size 5 1 vd (n0 + U.length + Z.length + P.length + n4) (u8s L) := by have h := ha.own; rw [← u8s_append] at h; simp only [List.append_assoc] at h; rw [HL.out] at h; exact h
    have B8 := Lib.hid (ha.below B7.out z7 (own_block_ge Oc.out))
    obtain ⟨Ad, cd, rfl, hcd, hcm⟩ := own_shape hod
    have hcm' : cd ≤ 9223372036854775807 := by unfold maxLen at hcm; omega
    have Rb := Lib.hid (Rd.of_own hod)
    clear ha Oc B7 z7 hod hcm
    go_wp2_with fail
    refine (CU.out _ cd _ hcd hcm' Rb.out).mono ?_
    rintro e w' ⟨rfl, rfl⟩
    go_wp2_with fail
    refine (CI.out _ cd _ hcd hcm' Rb.out).mono ?_
    rintro e w' ⟨rfl, rfl⟩
    go_wp2_with fail
    refine (CB.out _ cd _ hcd hcm' Rb.out).mono ?_
    rintro e w9 ⟨vt, rfl, hot, hbt⟩
    obtain ⟨At, ct, rfl, _⟩ := own_shape hot
    have B9 := Lib.hid (below_then B8.out hbt)
    have Ss := Lib.hid (same_any _ _ _ _ ct c3 _ _ _ _ _ (Rd.of_own hot) (H3.out.up B9.out))
    rw [Hl3.out] at Ss
    clear hot hbt B8 Rb
    rw [Hl3.out]
    go_wp2_with fail
    refine Ss.out.mono ?_
    rintro e w' ⟨rfl, rfl⟩
    clear Ss
    go_wp2_with fail
    refine (known_any _).mono ?_
    rintro e w10 ⟨rfl, hk⟩
    have B10 := Lib.hid (below_then B9.out hk)
    clear hk B9
    go_wp2
    go_ret
    exact ⟨ret_true (by simp; omega), B10.out⟩

namespace binBack
set_option maxRecDepth 100000 in
theorem lifted (os : Os) (started : os.Started) (H : Type) (enc : TypeId × Value → H) :
    ReturnsInHanded {} Try.checked os 6 .any (Rows.binBackSpec.pre6 enc Try.prog Try.f6 Rows.binBackRow.domain false) (Rows.binBackSpec.post enc Try.prog Try.f6 false true false false) := by
  refine law_lift started (by kernel_rfl) Try.func6
    (ChangeSpec.witness6 (enc := enc) (C := Try.checked) false ⟨#[], #[.slice none 0 0, .int .u64 0, .int .i64 0, .slice none 0 0, .slice none 0 0], []⟩ 8 (by kernel_rfl) (by kernel_rfl) (by kernel_rfl) (by kernel_rfl))
    rfl ?_ (by kernel_rfl) (by kernel_rfl) ?_
  · intro ds h
    match ds, h with
    | [_, _, _, _, _], _ => rfl
  intro W base args ds p g
  have hA := g.trod
  have hval := g.val
  rw [Try.params6] at hA hval
  obtain ⟨v0, vs0, d0, ds0, p0, q0, hargs, rfl, rfl, h0, r0⟩ := trodAll_cons hA
  obtain ⟨v1, vs1, d1, ds1, p1, q1, rfl, rfl, rfl, h1, r1⟩ := trodAll_cons r0
  obtain ⟨v2, vs2, d2, ds2, p2, q2, rfl, rfl, rfl, h2, r2⟩ := trodAll_cons r1
  obtain ⟨v3, vs3, d3, ds3, p3, q3, rfl, rfl, rfl, h3, r3⟩ := trodAll_cons r2
  obtain ⟨v4, vs4, d4, ds4, p4, q4, rfl, rfl, rfl, h4, r4⟩ := trodAll_cons r3
  obtain ⟨rfl, rfl, rfl⟩ := trodAll_nil r4
  obtain rfl : args = #[v0, v1, v2, v3, v4] := by cases args; simp_all
  obtain ⟨A0, n0, c0, l0, rfl, hc0, hm0, hr0⟩ := given_bytes (hval 0 24 v0 rfl rfl) h0
  obtain ⟨a1, rfl, _, _, w1⟩ := open_int Try.underlying22 (hval 1 22 v1 rfl rfl) h1
  have b1 := bounds_u64 w1
  obtain ⟨m1, rfl⟩ := Int.eq_ofNat_of_zero_le b1.1
  obtain ⟨a2, rfl, _, _, w2⟩ := open_int Try.underlying2 (hval 2 2 v2 rfl rfl) h2
  have b2 := bounds_i64 w2
  obtain ⟨A3, n3, c3, l3, rfl, hc3, hm3, hr3⟩ := given_bytes (hval 3 24 v3 rfl rfl) h3
  obtain ⟨A4, n4, c4, l4, rfl, hc4, hm4, hr4⟩ := given_bytes (hval 4 24 v4 rfl rfl) h4
  exact binBack_walk A0 n0 c0 l0 m1 a2 A3 n3 c3 l3 A4 n4 c4 l4 W hc0 hm0 hr0 (by omega) b2.1 b2.2 hc3 hm3 hr3 hc4 hm4 hr4

theorem over : Rows.binBackRow.holds Try.pinned (OpenSpec.ofChange Rows.binBackSpec) :=
  OpenClaim.holds_of_wide 6 Try.f6 rfl rfl rfl rfl rfl rfl rfl ⟨rfl, rfl, rfl, rfl, rfl⟩ rfl rfl rfl rfl rfl (by kernel_rfl) Try.func6 (by kernel_rfl)
    (of_decide_eq_true (by kernel_rfl)) (by unfold Func.isWrapper; first | (rw [if_pos (by decide +kernel)]; kernel_rfl) | (rw [if_neg (by decide +kernel)]; exact ⟨rfl, rfl⟩))
    (fun os started H enc _ => lifted os started H enc)
end binBack

theorem BinBack_proved : Rows.BinBackSaid := binBack.over
#print axioms BinBack_proved
end Go.Proofs.Ytlnbebeghfhfdaa
