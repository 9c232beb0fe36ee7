/- FrameSeeks is true at every bytes ahead, every kind, every body, every place. Conditions: none. -/
import Derived.Test.YtbkbmmpcjpkkaaaLaw
import Derived.Test.YtbkbmmpcjpkkaaaPutAny
import Derived.Test.YtbkbmmpcjpkkaaaLent2
namespace Go.Proofs.Ytbkbmmpcjpkkaaa
open Go.ChangeShapes Go.WideShapes Go.ChangeAt Go.RowKit

set_option maxHeartbeats 2000000 in
set_option maxRecDepth 100000 in
theorem frameSeeks_walk (A : Option Addr) (n c : Nat) (l : List UInt8) (kd : UInt8) (A' : Option Addr) (n' c' : Nat) (l' : List UInt8) (fr : Int) (w : World) (_hc : n ≤ c) (_hm : c ≤ 9223372036854775807) (h : Rd w w.heap.size A n l) (hc' : n' ≤ c') (hm' : c' ≤ 9223372036854775807) (h' : Rd w w.heap.size A' n' l') (hf1 : -9223372036854775808 ≤ fr) (hf2 : fr ≤ 9223372036854775807) :
    Calls Try.prog 8 #[.slice A n c, .int .u8 (kd.toNat : Int), .slice A' n' c', .int .i64 fr] w fun e w' => e = .returned (.bool true) ∧ Below w.heap.size w w' := by
  have KW : Hid (∀ W, Calls Try.prog 10 #[] W fun e w' => e = .returned (.bool true) ∧ Below W.heap.size W w') := Lib.hid known_any
  by_cases hbig : 300 < n
  · go_enter Try.func8, Try.ntmps8
    go_wp2_with fail
    refine (KW.out _).mono ?_
    rintro e w' ⟨rfl, hb⟩
    go_wp2
    go_ret
    exact ⟨rfl, hb⟩
  · obtain ⟨i0, hi0, hz0, hz1, hz2⟩ := info_parts Try.infoU8
    have HL := Lib.hid h.1
    have HL' := Lib.hid h'.1
    have H := Lib.hid h
    have H' := Lib.hid h'
    clear h h'
    go_enter Try.func8, Try.ntmps8
    go_wp2_with fail
    go_loopg [9] n (fun g i wr => ∃ (k : Nat), i = .int .i64 k ∧ k + g = n ∧ Hid (∀ x ∈ l.take k, x ≠ 167) ∧ w = wr)
    case atStart => exact ⟨0, rfl, by omega, Lib.hid (by simp), rfl⟩
    case round =>
      obtain ⟨k, rfl, hk, Hk, rfl⟩ := hrel
      by_cases hkn : k < n
      · obtain ⟨b, o, rfl, _, hcell⟩ := H.out.2 (by omega)
        have hx := hcell k (by rw [HL.out]; exact hkn)
        have ht : l.take (k + 1) = l.take k ++ [l[k]'(by rw [HL.out]; exact hkn)] := List.take_succ_eq_append_getElem _
        clear hcell
        generalize l[k]'(by rw [HL.out]; exact hkn) = x at *
        have Ht := Lib.hid ht
        clear ht
        by_cases h167 : x = 167
        · subst h167
          go_wp2_with fail
          refine (KW.out _).mono ?_
          rintro e w' ⟨rfl, hb⟩
          go_wp2
          go_ret
          exact ⟨rfl, hb⟩
        · have hne : ((x.toNat : Int) == 167) = false := by
            simp
            intro e
            exact h167 (UInt8.toNat_inj.1 (by show x.toNat = 167; omega))
          go_wp2
          go_roundg (gk - 1)
          case measure => omega
          case rel => exact ⟨k + 1, by go_num, by omega, Lib.hid (by
            intro y hy
            rw [Ht.out, List.mem_append] at hy
            rcases hy with hy | hy
            · exact Hk.out y hy
            · rw [List.mem_singleton] at hy; rw [hy]; exact h167), rfl⟩
      · have hk2 : l.take k = l := List.take_of_length_le (by rw [HL.out]; omega)
        rw [hk2] at Hk
        have CP := framePut_any kd A' n' c' l' w hc' hm' H'.out
        unfold putA at CP
        rw [HL'.out] at CP
        by_cases hlong : n' ≤ 1024
        · rw [if_pos hlong] at CP
          simp only [putF_len, HL'.out] at CP
          have Cp := Lib.hid CP
          clear CP
          go_wp2_with fail
          refine Cp.out.mono ?_
          rintro e w1 ⟨v, rfl, ho, hb⟩
          obtain ⟨Ap, cp, rfl, _⟩ := own_shape ho
          have HP := Lib.hid (Rd.of_own ho)
          have HB := Lib.hid hb
          have HR1 := Lib.hid (H.out.up hb)
          have HR1' := Lib.hid (H'.out.up hb)
          clear ho hb Cp
          by_cases h200 : 200 < n'
          · go_wp2_with fail
            refine (KW.out _).mono ?_
            rintro e w' ⟨rfl, hk⟩
            have := Lib.hid (below_then HB.out hk)
            clear hk
            go_wp2
            go_ret
            exact ⟨rfl, this.out⟩
          · have Cc := Lib.hid (copy_any A n c w1.heap.size l w1 (by omega) HR1.out)
            go_wp2_with fail
            refine Cc.out.mono ?_
            rintro e w2 ⟨v2, rfl, ho2, hb2⟩
            have Ho2 := Lib.hid ho2
            have Hb2 := Lib.hid hb2
            have hs2 := hb2.size
            have HP2 := Lib.hid (HP.out.below hb2)
            have hPn := HP.out.none_zero
            have HPl := HP.out.1
            obtain ⟨A2, c2, rfl, _⟩ := own_shape ho2
            clear ho2 hb2 Cc HP HR1
            go_wp2_with (at_builtin; refine wpList_append_app _ rfl _ _ 22 rfl w1.heap.size 5 i0 (.int .u8 0) 1 1 Try.underlying22 hi0 hz0 hz1 hz2 rfl _ _ _ rfl Ho2.out Ap (10 + n') cp (u8s (putF (kd, l'))) rfl (by rw [u8s_len, HPl, Nat.mul_one]) hPn HP2.out.cells (u8s_one _) (by unfold maxLen; omega) (by omega) hs2 ?_)
            intro v3 w3 ha
            have how := ha.own
            rw [← u8s_append] at how
            have hb3 := ha.below Hb2.out hs2 (own_block_ge Ho2.out)
            obtain ⟨A3, c3, rfl, hc3, hc3m⟩ := own_shape how
            have HR3 := Lib.hid (Rd.of_own how)
            have HR3' := Lib.hid (HR1'.out.up hb3)
            have HB3 := Lib.hid (below_then HB.out hb3)
            have hmm3 : c3 ≤ 9223372036854775807 := by unfold maxLen at hc3m; omega
            clear ha how hb3 Ho2 Hb2 hs2 HP2 HPl hPn HR1' HB
            have hll : (l ++ putF (kd, l')).length = n + (10 + n') := HR3.out.1
            have hsk := seekF_le (l ++ putF (kd, l')) fr.toNat
            rw [hll] at hsk
            have hska : fr ≤ n → seekF (l ++ putF (kd, l')) fr.toNat = n := fun hfr => by
              rw [seekF_ahead l (kd, l') (by show l'.length ≤ 1024; rw [HL'.out]; omega) Hk.out _ (by rw [HL.out]; omega), HL.out]
            have hskb : seekF (l ++ putF (kd, l')) (n + (10 + n')) = n + (10 + n') := by rw [seekF_ge _ _ (by rw [hll]; exact Nat.le_refl _), hll]
            have hgA : getA (l ++ putF (kd, l')) (n : Int) = (kd, l', ((n + (10 + n') : Nat) : Int), 0) := by
              have hg := getF_put (kd, l') [] (by show l'.length ≤ 1024; rw [HL'.out]; omega)
              rw [List.append_nil] at hg
              have hd : (l ++ putF (kd, l')).drop n = putF (kd, l') := List.drop_left' HL.out
              have := getA_ok (l := l ++ putF (kd, l')) (k := n) (by rw [hll]; omega) (by rw [hd]; exact hg)
              rw [this]
              simp only [HL'.out]
            have CS : Hid (∀ W, Below w3.heap.size w3 W → Calls Try.prog 22 #[.slice A3 (n + (10 + n')) c3, .int .i64 fr] W fun e w' => e = .returned (.int .i64 (seekF (l ++ putF (kd, l')) fr.toNat : Nat)) ∧ Below W.heap.size W w') := Lib.hid fun W hW => frameSeek_any A3 _ c3 fr _ W hc3 (by omega) hmm3 (HR3.out.up hW) hf1 hf2
            have CS2 : Hid (∀ W, Below w3.heap.size w3 W → Calls Try.prog 22 #[.slice A3 (n + (10 + n')) c3, .int .i64 ((n : Int) + (10 + (n' : Int)))] W fun e w' => e = .returned (.int .i64 ((n : Int) + (10 + (n' : Int)))) ∧ Below W.heap.size W w') := Lib.hid fun W hW => by
              have := frameSeek_any A3 _ c3 ((n : Int) + (10 + (n' : Int))) _ W hc3 (by omega) hmm3 (HR3.out.up hW) (by omega) (by omega)
              rw [show ((n : Int) + (10 + (n' : Int))).toNat = n + (10 + n') by omega, hskb] at this
              exact this
            have CG : Hid (∀ W, Below w3.heap.size w3 W → Calls Try.prog 20 #[.slice A3 (n + (10 + n')) c3, .int .i64 (n : Int)] W fun e w' => ∃ Ab cb, e = .returned (.tuple #[.agg #[.int .u8 (kd.toNat : Int), .slice Ab n' cb], .int .i64 ((n : Int) + (10 + (n' : Int))), .int .i64 0]) ∧ Rd w' w'.heap.size Ab n' l' ∧ Below W.heap.size W w') := Lib.hid fun W hW => by
              have := frameGet_any A3 _ c3 (n : Int) _ W hc3 (by omega) hmm3 (HR3.out.up hW)
              rw [hgA] at this
              refine this.mono ?_
              rintro e w' ⟨v, rfl, ho, hb⟩
              simp only [HL'.out] at ho
              obtain ⟨Ab, cb, rfl, _⟩ := own_shape ho
              exact ⟨Ab, cb, rfl, Rd.of_own ho, hb⟩
            generalize seekF (l ++ putF (kd, l')) fr.toNat = sk at *
            clear hgA hskb hll HR3 H H' Hk
            go_wp2_with fail
            refine (CS.out w3 (Below.refl _ _)).mono ?_
            rintro e w4 ⟨rfl, hb4⟩
            have Hb4 := Lib.hid hb4
            clear hb4 CS
            go_wp2_with fail
            refine (CG.out w4 Hb4.out).mono ?_
            rintro e w5 ⟨Ab, cb, rfl, hrb, hb5⟩
            have hbk : Bk (w5.alloc (.cells #[.int .u8 (kd.toNat : Int), .slice Ab n' cb] 37)) w5.heap.size 37 #[.int .u8 (kd.toNat : Int), .slice Ab n' cb] := Bk.new _ _ _
            have d0 := hbk.cell 0
            have d1 := hbk.cell 1
            simp only [List.getElem?_toArray, List.getElem?_cons_zero, List.getElem?_cons_succ] at d0 d1
            have Hb6 := Lib.hid ((below_then Hb4.out hb5).alloc (Nat.le_trans Hb4.out.size hb5.size) (.cells #[.int .u8 (kd.toNat : Int), .slice Ab n' cb] 37))
            have SM := same_any Ab A' n' n' cb c' _ _ l' l' (w5.alloc (.cells #[.int .u8 (kd.toNat : Int), .slice Ab n' cb] 37)) (hrb.alloc (Nat.le_refl _) _) (HR3'.out.up Hb6.out)
            have hll2 : (l' == l') = true := by simp
            rw [hll2] at SM
            have HSM := Lib.hid SM
            clear hrb hb5 hbk SM CG hll2 HR3'
            by_cases hfr : fr ≤ (n : Int)
            all_goals
              first
              | (have hskn := hska hfr; subst hskn)
              | skip
              go_wp2_with fail
              refine HSM.out.mono ?_
              rintro e w' ⟨rfl, rfl⟩
              go_wp2_with fail
              refine (CS2.out _ Hb6.out).mono ?_
              rintro e w7 ⟨rfl, hb7⟩
              have Hb7 := Lib.hid (below_then Hb6.out hb7)
              clear hb7
              go_wp2_with fail
              refine (KW.out _).mono ?_
              rintro e w8 ⟨rfl, hk8⟩
              have Hb8 := Lib.hid (below_then HB3.out (below_then Hb7.out hk8))
              clear hk8
              go_wp2
              go_ret
              exact ⟨rfl, Hb8.out⟩
        · rw [if_neg hlong] at CP
          have Cp := Lib.hid CP
          clear CP
          go_wp2_with fail
          refine Cp.out.mono ?_
          rintro e w1 ⟨v, rfl, ho, hb⟩
          obtain ⟨Ap, cp, rfl, _⟩ := own_shape ho
          have HB := Lib.hid hb
          clear ho hb Cp
          go_wp2_with fail
          refine (KW.out _).mono ?_
          rintro e w' ⟨rfl, hk⟩
          have := Lib.hid (below_then HB.out hk)
          clear hk
          go_wp2
          go_ret
          exact ⟨rfl, this.out⟩

namespace frameSeeks
set_option maxRecDepth 100000 in
theorem lifted (os : Os) (started : os.Started) (H : Type) (enc : TypeId × Value → H) :
    ReturnsInHanded {} Try.checked os 8 .any (Rows.frameSeeksSpec.pre6 enc Try.prog Try.f8 Rows.frameSeeksRow.domain false) (Rows.frameSeeksSpec.post enc Try.prog Try.f8 false true false false) := by
  refine law_lift started (by kernel_rfl) Try.func8
    (ChangeSpec.witness6 (enc := enc) (C := Try.checked) false ⟨#[], #[.slice none 0 0, .int .u8 0, .slice none 0 0, .int .i64 0], []⟩ 8 (by kernel_rfl) (by kernel_rfl) (by kernel_rfl) (by kernel_rfl))
    rfl ?_ (by kernel_rfl) (by kernel_rfl) ?_
  · intro ds h
    match ds, h with
    | [_, _, _, _], _ => rfl
  intro W base args ds p g
  have hA := g.trod
  have hval := g.val
  rw [Try.params8] at hA hval
  obtain ⟨v0, vs0, d0, ds0, p0, q0, hargs, rfl, rfl, h0, r0⟩ := trodAll_cons hA
  obtain ⟨v1, vs1, d1, ds1, p1, q1, rfl, rfl, rfl, h1, r1⟩ := trodAll_cons r0
  obtain ⟨v2, vs2, d2, ds2, p2, q2, rfl, rfl, rfl, h2, r2⟩ := trodAll_cons r1
  obtain ⟨v3, vs3, d3, ds3, p3, q3, rfl, rfl, rfl, h3, r3⟩ := trodAll_cons r2
  obtain ⟨rfl, rfl, rfl⟩ := trodAll_nil r3
  obtain rfl : args = #[v0, v1, v2, v3] := by cases args; simp_all
  obtain ⟨A0, n0, c0, l0, rfl, hc0, hm0, hr0⟩ := given_bytes (hval 0 22 v0 rfl rfl) h0
  obtain ⟨a1, rfl, _, _, w1⟩ := open_int Try.underlying5 (hval 1 5 v1 rfl rfl) h1
  have b1 := bounds_u8 w1
  obtain ⟨m1, rfl⟩ := Int.eq_ofNat_of_zero_le b1.1
  obtain ⟨k1, rfl⟩ : ∃ k : UInt8, m1 = k.toNat := ⟨UInt8.ofNat m1, by rw [UInt8.toNat_ofNat']; omega⟩
  obtain ⟨A2, n2, c2, l2, rfl, hc2, hm2, hr2⟩ := given_bytes (hval 2 22 v2 rfl rfl) h2
  obtain ⟨a3, rfl, _, _, w3⟩ := open_int Try.underlying3 (hval 3 3 v3 rfl rfl) h3
  have b3 := bounds_i64 w3
  exact frameSeeks_walk A0 n0 c0 l0 k1 A2 n2 c2 l2 a3 W hc0 hm0 hr0 hc2 hm2 hr2 b3.1 b3.2

theorem over : Rows.frameSeeksRow.holds Try.pinned (OpenSpec.ofChange Rows.frameSeeksSpec) :=
  OpenClaim.holds_of_wide 8 Try.f8 rfl rfl rfl rfl rfl rfl rfl ⟨rfl, rfl, rfl, rfl, rfl⟩ rfl rfl rfl rfl rfl (by kernel_rfl) Try.func8 (by kernel_rfl)
    (of_decide_eq_true (by kernel_rfl)) (by unfold Func.isWrapper; first | (rw [if_pos (by decide +kernel)]; kernel_rfl) | (rw [if_neg (by decide +kernel)]; exact ⟨rfl, rfl⟩))
    (fun os started H enc _ => lifted os started H enc)
end frameSeeks

theorem FrameSeeks_proved : Rows.FrameSeeksSaid := frameSeeks.over
#print axioms FrameSeeks_proved
end Go.Proofs.Ytbkbmmpcjpkkaaa
