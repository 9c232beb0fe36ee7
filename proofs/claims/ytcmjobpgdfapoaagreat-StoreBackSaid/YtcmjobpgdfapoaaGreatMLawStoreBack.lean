/- A batch that was written is read again as it was; bytes that are read are written as they were; with one byte more, or less, they are none: the law answers true at every input. No condition. -/
import Derived.Test.YtcmjobpgdfapoaaGreatMStoS
import Derived.Test.YtcmjobpgdfapoaaGreatM1StoL
import Derived.Test.YtcmjobpgdfapoaaGreatM1StoV
import Derived.Test.YtcmjobpgdfapoaaGreatM1StoX2
import Derived.Test.YtcmjobpgdfapoaaGreatMLent
namespace Go.Proofs.YtcmjobpgdfapoaaGreat
open Go.ChangeShapes Go.WideShapes Go.ChangeAt Go.RowKit

theorem decode_prefix {l l2 : List Chg} {b r : List UInt8} (h : encodeS l = (b, 0)) (h2 : encodeS l2 = (b ++ r, 0)) : r = [] := by
  obtain ⟨h1, _, h3⟩ := encodeS_ok h
  obtain ⟨g1, _, g3⟩ := encodeS_ok h2
  have hn1 : nextU (b ++ r) 0 = (l.length, bodyL l ++ r, 0) := by
    rw [h3]; unfold encL; rw [List.append_assoc]
    unfold rightL at h1
    simp only [Bool.and_eq_true, decide_eq_true_eq] at h1
    exact nextU_put _ _ (by omega)
  have hn2 : nextU (b ++ r) 0 = (l2.length, bodyL l2, 0) := by
    rw [g3]; unfold encL
    unfold rightL at g1
    simp only [Bool.and_eq_true, decide_eq_true_eq] at g1
    exact nextU_put _ _ (by omega)
  rw [hn1] at hn2
  simp only [Prod.mk.injEq, and_true] at hn2
  unfold rightL at h1 g1
  simp only [Bool.and_eq_true] at h1 g1
  have d1 := decN_fwd l r h1.2 l.length (Nat.le_refl _)
  have d2 := decN_fwd l2 [] g1.2 l2.length (Nat.le_refl _)
  rw [List.append_nil] at d2
  rw [hn2.2, hn2.1, d2] at d1
  simp only [List.drop_length, Prod.mk.injEq] at d1
  have h := d1.2.1.symm
  simp [bodyL] at h
  exact h.2
theorem decode_more {l : List Chg} {b : List UInt8} (h : encodeS l = (b, 0)) (x : UInt8) : decodeS (b ++ [x]) = ([], 50) := decode_none fun l2 h2 => by
  have := decode_prefix h h2
  simp at this
theorem decode_less {l : List Chg} {b : List UInt8} (h : encodeS l = (b, 0)) (hp : 0 < b.length) : decodeS (b.take (b.length - 1)) = ([], 50) := decode_none fun l2 h2 => by
  have hb : b = b.take (b.length - 1) ++ b.drop (b.length - 1) := (List.take_append_drop _ _).symm
  have h3 := decode_prefix (r := b.drop (b.length - 1)) h2 (by rw [← hb]; exact h)
  have := congrArg List.length h3
  rw [List.length_drop] at this
  simp at this
  omega
theorem encode_pos {l : List Chg} {b : List UInt8} (h : encodeS l = (b, 0)) : 0 < b.length := by
  obtain ⟨_, _, rfl⟩ := encodeS_ok h
  unfold encL
  have := uvarint_pos l.length
  rw [List.length_append]
  omega
set_option maxRecDepth 100000 in
set_option maxHeartbeats 4000000 in
theorem storeBack_walk (A0 : Option Addr) (n0 c0 : Nat) (l : List Chg) (A1 : Option Addr) (n1 c1 : Nat) (b : List UInt8) (k : UInt8) (W : World) (hc0 : n0 ≤ c0) (hm0 : c0 ≤ 9223372036854775807) (hl : ChRd W W.heap.size A0 n0 l)
    (_hc1 : n1 ≤ c1) (_hm1 : c1 ≤ 9223372036854775807) (hb : Rd W W.heap.size A1 n1 b) :
    Calls Tryz.prog 4 #[.slice A0 n0 c0, .slice A1 n1 c1, .int .u8 (k.toNat : Int)] W fun e W' => e = .returned (.bool true) ∧ Below W.heap.size W W' := by
  have HH := sheavy_any A0 n0 c0 l W (by omega) hl
  have HKn : Hid (∀ w, Below W.heap.size W w → Calls Tryz.prog 11 #[] w fun e W' => e = .returned (.bool true) ∧ Below W.heap.size W W') := by
    refine Lib.hid fun w hw => (sknown_any w).mono ?_
    rintro e w' ⟨rfl, h⟩
    exact ⟨rfl, below_then hw h⟩
  have HLr : Hid (∀ w, Below W.heap.size W w → ChRd w w.heap.size A0 n0 l ∧ Rd w w.heap.size A1 n1 b) := Lib.hid fun w hw => ⟨(hl.below hw).more hw.size, hb.up hw⟩
  have HH := Lib.hid HH
  have Hln := Lib.hid hl.1
  obtain ⟨i0, hi0, hz0, hz1, hz2⟩ := info_parts Tryz.infoU8
  clear hl hb
  by_cases hn : 8000 < n1
  · have hn' : (8000 : Int) < (n1 : Int) := by omega
    go_enter Tryz.func4, Tryz.ntmps4
    go_wp2_with fail
    refine HH.out.mono ?_
    clear HH
    rintro x w1 ⟨⟨bb, rfl⟩, hb1⟩
    have Hb1 := Lib.hid hb1
    clear hb1
    cases bb with
    | true =>
      go_wp2_with fail
      refine (HKn.out _ Hb1.out).mono ?_
      rintro x wk ⟨rfl, hbk⟩
      have Hbk := Lib.hid hbk
      clear hbk
      go_wp2
      go_ret
      exact ⟨rfl, Hbk.out⟩
    | false =>
      go_wp2_with fail
      refine (HKn.out _ Hb1.out).mono ?_
      rintro x wk ⟨rfl, hbk⟩
      have Hbk := Lib.hid hbk
      clear hbk
      go_wp2
      go_ret
      exact ⟨rfl, Hbk.out⟩
  · have hn' : ¬ (8000 : Int) < (n1 : Int) := by omega
    go_enter Tryz.func4, Tryz.ntmps4
    go_wp2_with fail
    refine HH.out.mono ?_
    clear HH
    rintro x w1 ⟨⟨bb, rfl⟩, hb1⟩
    have Hb1 := Lib.hid hb1
    clear hb1
    cases bb with
    | true =>
      go_wp2_with fail
      refine (HKn.out _ Hb1.out).mono ?_
      rintro x wk ⟨rfl, hbk⟩
      have Hbk := Lib.hid hbk
      clear hbk
      go_wp2
      go_ret
      exact ⟨rfl, Hbk.out⟩
    | false =>
      have HEn := encode_any A0 n0 c0 l w1 hc0 hm0 (HLr.out w1 Hb1.out).1
      rcases he : encodeS l with ⟨cb, ce⟩
      by_cases he0 : ce = 0
      · subst he0
        rw [he] at HEn
        have HEn := Lib.hid HEn
        have hpos := encode_pos he
        have hlen : cb.length ≤ 1024 := by have := encodeS_len l; rw [he] at this; exact this
        have Hd := Lib.hid (decode_of he)
        have Hm := Lib.hid (decode_more he k)
        have Hs := Lib.hid (decode_less he hpos)
        have hp1 : ((cb.length : Int) == 0) = false := by simp; intro h; rw [h] at hpos; simp at hpos
        have hp2 : IntKind.i64.wrap ((cb.length : Int) - 1) = ((cb.length - 1 : Nat) : Int) := by rw [IntKind.wrap_i64]; omega
        have hp3 : (0 : Int) ≤ ((cb.length - 1 : Nat) : Int) := by omega
        clear he
        go_wp2_with fail
        refine HEn.out.mono ?_
        clear HEn
        rintro x w2 ⟨v2, rfl, ho2, hb2⟩
        obtain ⟨A2, c2, rfl, hc2⟩ := own_shape ho2
        have Hb2 := Lib.hid (below_then Hb1.out hb2)
        obtain ⟨b2, o2, rfl, _, _⟩ := (Rd.of_own ho2).2 hpos
        have Hr2 := Lib.hid (Rd.of_own ho2)
        have hc20 : ¬ c2 = 0 := by omega
        have hc21 : ((cb.length - 1 : Nat) : Int) ≤ (c2 : Int) := by omega
        clear ho2 hb2
        have HDe := decode_any (some ⟨b2, o2, none⟩) cb.length c2 cb w2 (by omega) Hr2.out
        rw [Hd.out] at HDe
        have HDe := Lib.hid HDe
        go_wp2_with fail
        refine HDe.out.mono ?_
        clear HDe
        rintro x w3 ⟨v3, rfl, hd3, hb3⟩
        obtain ⟨A3, c3, rfl, hc3⟩ := own_shape hd3
        have Hb3 := Lib.hid (below_then Hb2.out hb3)
        have Hr3 := Lib.hid (Hr2.out.up hb3)
        have Hd3 := Lib.hid hd3
        clear hd3 hb3 Hr2
        have HCo := Lib.hid (copy_any (some ⟨b2, o2, none⟩) cb.length c2 _ cb w3 (by omega) Hr3.out)
        go_wp2_with fail
        refine HCo.out.mono ?_
        clear HCo
        rintro x w4 ⟨v4, rfl, ho4, hb4⟩
        have Hb4 := Lib.hid (below_then Hb3.out hb4)
        have Hr4 := Lib.hid (Hr3.out.up hb4)
        have Hd4 := Lib.hid (Hd3.out.below hb4)
        have hlt4 := fun g hg => (ho4.lt g hg).2
        have hz4 := hb4.size
        have ho5 := own_below ho4 ((Below.refl w4.heap.size w4).alloc (Nat.le_refl _) (.cells #[.int .u8 (k.toNat : Int)] 5)) hlt4
        have hb5 : Below w3.heap.size w3 (w4.alloc (.cells #[.int .u8 (k.toNat : Int)] 5)) := hb4.alloc hb4.size _
        obtain ⟨A4, c4, rfl, hc4⟩ := own_shape ho4
        clear ho4 hb4
        go_wp2_with (at_builtin; refine wpList_append_app _ rfl _ _ 23 rfl w3.heap.size 5 i0 (.int .u8 0) 1 1 Tryz.underlying23 hi0 hz0 hz1 hz2 rfl _ _ _ rfl ho5 (some ⟨w4.heap.size, 0, none⟩) 1 1 [.int .u8 (k.toNat : Int)] rfl rfl (by intro e; cases e) (one_new _ _ _ rfl) (by intro u hu; simp at hu; subst hu; rfl) (by unfold maxLen; omega) (by omega) hb5.size ?_)
        intro v6 w6 ha6
        have hb6 := ha6.below (B := w3.heap.size) hb5 hb5.size (own_block_ge ho5)
        have hB6 : Below w3.heap.size w3 w6 := hb6
        have Hb6 := Lib.hid (below_then Hb3.out hB6)
        have Hr6 := Lib.hid (Hr3.out.up hB6)
        have Hd6 := Lib.hid (Hd3.out.below hB6)
        have hown6 : w6.ownsRow w3.heap.size 5 1 v6 (cb ++ [k]).length (u8s (cb ++ [k])) := by rw [List.length_append, u8s_append]; exact ha6.own
        obtain ⟨A6, c6, rfl, hc6⟩ := own_shape hown6
        have hl6 : (cb ++ [k]).length ≤ 1025 := by simp; omega
        have HDm := decode_any A6 (cb ++ [k]).length c6 (cb ++ [k]) w6 (by omega) (Rd.of_own hown6)
        rw [Hm.out] at HDm
        have HDm := Lib.hid HDm
        have hlx : (cb ++ [k]).length = cb.length + 1 := by simp
        rw [hlx] at HDm
        clear ha6 hb6 hB6 hown6 Hr3 Hd3 Hr4 Hd4 ho5 hb5 hlt4 hl6 hc6
        go_wp2_with fail
        refine HDm.out.mono ?_
        clear HDm
        rintro x w7 ⟨v7, rfl, hd7, hb7⟩
        obtain ⟨A7, c7, rfl, hc7⟩ := own_shape hd7
        have Hb7 := Lib.hid (below_then Hb6.out hb7)
        have Hr7 := Lib.hid (Hr6.out.up hb7)
        have Hd7 := Lib.hid (Hd6.out.below hb7)
        clear hd7 hb7 Hr6 Hd6
        have hpr : Rd w7 w7.heap.size (some ⟨b2, o2, none⟩) (cb.length - 1) (cb.take (cb.length - 1)) := by
          have h2 := Hr7.out.part (i := 0) (k := cb.length - 1) (by omega)
          rwa [List.drop_zero, Nat.add_zero] at h2
        have HDs := decode_any (some ⟨b2, o2, none⟩) (cb.length - 1) c2 _ w7 (by omega) hpr
        rw [Hs.out] at HDs
        have HDs := Lib.hid HDs
        clear hpr
        go_wp2_with fail
        refine HDs.out.mono ?_
        clear HDs
        rintro x w8 ⟨v8, rfl, hd8, hb8⟩
        obtain ⟨A8, c8, rfl, hc8⟩ := own_shape hd8
        have Hb8 := Lib.hid (below_then Hb7.out hb8)
        have Hd8 := Lib.hid (Hd7.out.below hb8)
        clear hd8 hb8 Hr7 Hd7
        have hnl : l.length = n0 := Hln.out
        have HLs := lsame_any A3 A0 l.length c3 c0 _ _ l w8 (by omega) Hd8.out.rd (by rw [hnl]; exact (HLr.out w8 Hb8.out).1)
        rw [hnl] at HLs
        have HLs := Lib.hid HLs
        go_wp2_with fail
        refine HLs.out.mono ?_
        clear HLs
        rintro x w9 ⟨rfl, hb9⟩
        have Hb9 := Lib.hid (below_then Hb8.out hb9)
        clear hb9 Hd8
        have HDe := decode_any A1 n1 c1 b w9 (by omega) (HLr.out w9 Hb9.out).2
        rcases decode_cases b with ⟨dl, hd1, hd2⟩ | hd1
        · have hdl := decode_len b
          rw [hd1] at HDe hdl
          have HDe := Lib.hid HDe
          have Hd2 := Lib.hid hd2
          have hdl : dl.length ≤ 32 := hdl
          clear hd1 hd2
          go_wp2_with fail
          refine HDe.out.mono ?_
          clear HDe
          rintro x wt ⟨vt, rfl, ht, hbt⟩
          obtain ⟨At, ct, rfl, hct⟩ := own_shape ht
          have Hbt := Lib.hid (below_then Hb9.out hbt)
          have HEt := encode_any At dl.length ct dl wt hct.1 (by have := hct.2; unfold maxLen at this; omega) (Chs.rd ht)
          rw [Hd2.out] at HEt
          have HEt := Lib.hid HEt
          clear ht hbt
          go_wp2_with fail
          refine HEt.out.mono ?_
          clear HEt
          rintro x wu ⟨vu, rfl, hu, hbu⟩
          obtain ⟨Au, cu, rfl, hcu⟩ := own_shape hu
          have Hbu := Lib.hid (below_then Hbt.out hbu)
          have HSu := same_any Au A1 _ _ cu c1 _ _ _ _ wu (Rd.of_own hu) (HLr.out wu Hbu.out).2
          rw [beq_self_eq_true] at HSu
          have HSu := Lib.hid HSu
          clear hu hbu
          go_wp2_with fail
          refine HSu.out.mono ?_
          clear HSu
          rintro x wv ⟨rfl, rfl⟩
          go_wp2_with fail
          refine (HKn.out _ Hbu.out).mono ?_
          rintro x wk ⟨rfl, hbk⟩
          have Hbk := Lib.hid hbk
          clear hbk
          go_wp2
          go_ret
          exact ⟨rfl, Hbk.out⟩
        · rw [hd1] at HDe
          have HDe := Lib.hid HDe
          clear hd1
          go_wp2_with fail
          refine HDe.out.mono ?_
          clear HDe
          rintro x wt ⟨vt, rfl, ht, hbt⟩
          have Hbt := Lib.hid (below_then Hb9.out hbt)
          clear ht hbt
          go_wp2_with fail
          refine (HKn.out _ Hbt.out).mono ?_
          rintro x wk ⟨rfl, hbk⟩
          have Hbk := Lib.hid hbk
          clear hbk
          go_wp2
          go_ret
          exact ⟨rfl, Hbk.out⟩
      · rw [he] at HEn
        have HEn := Lib.hid HEn
        have he1 : (ce == 0) = false := by simpa using he0
        clear he
        go_wp2_with fail
        refine HEn.out.mono ?_
        clear HEn
        rintro x w2 ⟨v2, rfl, ho2, hb2⟩
        obtain ⟨A2, c2, rfl, hc2⟩ := own_shape ho2
        have Hb2 := Lib.hid (below_then Hb1.out hb2)
        clear ho2 hb2
        have HDe := decode_any A1 n1 c1 b w2 (by omega) (HLr.out w2 Hb2.out).2
        rcases decode_cases b with ⟨dl, hd1, hd2⟩ | hd1
        · have hdl := decode_len b
          rw [hd1] at HDe hdl
          have HDe := Lib.hid HDe
          have Hd2 := Lib.hid hd2
          have hdl : dl.length ≤ 32 := hdl
          clear hd1 hd2
          go_wp2_with fail
          refine HDe.out.mono ?_
          clear HDe
          rintro x wt ⟨vt, rfl, ht, hbt⟩
          obtain ⟨At, ct, rfl, hct⟩ := own_shape ht
          have Hbt := Lib.hid (below_then Hb2.out hbt)
          have HEt := encode_any At dl.length ct dl wt hct.1 (by have := hct.2; unfold maxLen at this; omega) (Chs.rd ht)
          rw [Hd2.out] at HEt
          have HEt := Lib.hid HEt
          clear ht hbt
          go_wp2_with fail
          refine HEt.out.mono ?_
          clear HEt
          rintro x wu ⟨vu, rfl, hu, hbu⟩
          obtain ⟨Au, cu, rfl, hcu⟩ := own_shape hu
          have Hbu := Lib.hid (below_then Hbt.out hbu)
          have HSu := same_any Au A1 _ _ cu c1 _ _ _ _ wu (Rd.of_own hu) (HLr.out wu Hbu.out).2
          rw [beq_self_eq_true] at HSu
          have HSu := Lib.hid HSu
          clear hu hbu
          go_wp2_with fail
          refine HSu.out.mono ?_
          clear HSu
          rintro x wv ⟨rfl, rfl⟩
          go_wp2_with fail
          refine (HKn.out _ Hbu.out).mono ?_
          rintro x wk ⟨rfl, hbk⟩
          have Hbk := Lib.hid hbk
          clear hbk
          go_wp2
          go_ret
          exact ⟨rfl, Hbk.out⟩
        · rw [hd1] at HDe
          have HDe := Lib.hid HDe
          clear hd1
          go_wp2_with fail
          refine HDe.out.mono ?_
          clear HDe
          rintro x wt ⟨vt, rfl, ht, hbt⟩
          have Hbt := Lib.hid (below_then Hb2.out hbt)
          clear ht hbt
          go_wp2_with fail
          refine (HKn.out _ Hbt.out).mono ?_
          rintro x wk ⟨rfl, hbk⟩
          have Hbk := Lib.hid hbk
          clear hbk
          go_wp2
          go_ret
          exact ⟨rfl, Hbk.out⟩

namespace storeBack
set_option maxRecDepth 100000 in
theorem lifted (os : Os) (started : os.Started) (H : Type) (enc : TypeId × Value → H) :
    ReturnsInHanded {} Tryz.checked os 4 .any (Rows.storeBackSpec.pre6 enc Tryz.prog Tryz.f4 Rows.storeBackRow.domain false) (Rows.storeBackSpec.post enc Tryz.prog Tryz.f4 false true false false) := by
  refine law_lift started (by kernel_rfl) Tryz.func4
    (ChangeSpec.witness6 (enc := enc) (C := Tryz.checked) false ⟨#[], #[.slice none 0 0, .slice none 0 0, .int .u8 0], []⟩ 8 (by kernel_rfl) (by kernel_rfl) (by kernel_rfl) (by kernel_rfl))
    rfl ?_ (by kernel_rfl) (by kernel_rfl) ?_
  · intro ds h
    match ds, h with
    | [_, _, _], _ => rfl
  intro W base args ds p g
  have hA := g.trod
  have hval := g.val
  rw [Tryz.params4] at hA hval
  obtain ⟨v0, vs0, d0, ds0, p0, q0, hargs, rfl, rfl, h0, r0⟩ := trodAll_cons hA
  obtain ⟨v1, vs1, d1, ds1, p1, q1, rfl, rfl, rfl, h1, r1⟩ := trodAll_cons r0
  obtain ⟨v2, vs2, d2, ds2, p2, q2, rfl, rfl, rfl, h2, r2⟩ := trodAll_cons r1
  obtain ⟨rfl, rfl, rfl⟩ := trodAll_nil r2
  obtain rfl : args = #[v0, v1, v2] := by cases args; simp_all
  obtain ⟨A0, n0, c0, l0, rfl, hc0, hm0, hr0⟩ := given_chgs (hval 0 22 v0 rfl rfl) h0
  obtain ⟨A1, n1, c1, l1, rfl, hc1, hm1, hr1⟩ := given_bytes (hval 1 23 v1 rfl rfl) h1
  obtain ⟨a2, rfl, _, _, w2⟩ := open_int Tryz.underlying5 (hval 2 5 v2 rfl rfl) h2
  have b2 := bounds_u8 w2
  obtain ⟨m2, rfl⟩ := Int.eq_ofNat_of_zero_le b2.1
  obtain ⟨k2, rfl⟩ : ∃ k : UInt8, m2 = k.toNat := ⟨UInt8.ofNat m2, by rw [UInt8.toNat_ofNat']; omega⟩
  exact storeBack_walk A0 n0 c0 l0 A1 n1 c1 l1 k2 W hc0 hm0 hr0 hc1 hm1 hr1

theorem over : Rows.storeBackRow.holds Tryz.pinned (OpenSpec.ofChange Rows.storeBackSpec) :=
  OpenClaim.holds_of_wide 4 Tryz.f4 rfl rfl rfl rfl rfl rfl rfl ⟨rfl, rfl, rfl, rfl, rfl⟩ rfl rfl rfl rfl rfl (by kernel_rfl) Tryz.func4 (by kernel_rfl)
    (of_decide_eq_true (by kernel_rfl)) (by unfold Func.isWrapper; first | (rw [if_pos (by decide +kernel)]; kernel_rfl) | (rw [if_neg (by decide +kernel)]; exact ⟨rfl, rfl⟩))
    (fun os started H enc _ => lifted os started H enc)
end storeBack

theorem StoreBack_proved : Rows.StoreBackSaid := storeBack.over
#print axioms StoreBack_proved
end Go.Proofs.YtcmjobpgdfapoaaGreat
