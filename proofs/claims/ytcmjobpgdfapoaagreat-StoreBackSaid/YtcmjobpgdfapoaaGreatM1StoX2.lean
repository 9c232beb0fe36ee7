/- Of the proofs of layer 4, merged: StoX2. -/
import Derived.Test.YtcmjobpgdfapoaaGreatM1StoX
import Derived.Test.YtcmjobpgdfapoaaGreatMPWal6

/- The document's Decode. -/
namespace Go.Proofs.YtcmjobpgdfapoaaGreat
open Go.RowKit

set_option maxRecDepth 100000 in
set_option maxHeartbeats 4000000 in
theorem refDecode_any (A : Option Addr) (n c : Nat) (b : List UInt8) (w : World) (hc : n ≤ c) (hm : c ≤ 9223372036854775807) (hn : n ≤ 1000000) (h : Rd w w.heap.size A n b) :
    Calls Tryz.prog 17 #[.slice A n c] w fun e w' => ∃ v, e = .returned (.tuple #[v, .int .i64 (decodeS b).2]) ∧ Chs w' w.heap.size v (decodeS b).1 ∧ Below w.heap.size w w' := by
  have hlen := h.1
  have HU := Lib.hid (refUint_any A n c w.heap.size 0 b w hc hm h)
  have HNo : Hid ((∀ l, encodeS l ≠ (b, 0)) → decodeS b = ([], 50)) := Lib.hid decode_none
  have HH := Lib.hid h
  have hu := uintAt_shift b 0 (by omega) (by omega)
  rw [List.drop_zero] at hu
  have HL := Lib.hid hlen
  by_cases hbad : (uintAt b 0).2.2 ≠ 0 ∨ 32 < (uintAt b 0).1
  · have HEE := Lib.hid (HNo.out (Mt.bad hbad))
    generalize uintAt b 0 = u at *
    obtain ⟨u1, u2, u3⟩ := u
    have hbad : u3 ≠ 0 ∨ 32 < u1 := hbad
    clear h hlen hu HNo
    by_cases h3 : u3 = 0
    · subst h3
      have h1 : (32 : Int) < u1 := by omega
      go_enter Tryz.func17, Tryz.ntmps17
      go_wp2_with fail
      refine HU.out.mono ?_
      rintro x w' ⟨rfl, rfl⟩
      go_wp2
      go_ret2
      rw [HEE.out]
      exact ⟨_, rfl, Chs.nil _ _, Below.refl _ _⟩
    · have h1 : (u3 != 0) = true := by simpa using h3
      go_enter Tryz.func17, Tryz.ntmps17
      go_wp2_with fail
      refine HU.out.mono ?_
      rintro x w' ⟨rfl, rfl⟩
      go_wp2
      go_ret2
      rw [HEE.out]
      exact ⟨_, rfl, Chs.nil _ _, Below.refl _ _⟩
  · rcases hu with ⟨N, p0, -, hu, hp1, hp2, -⟩ | ⟨e, -, hu, he, -⟩
    · rw [Nat.zero_add] at hu hp2
      have hu : uintAt b 0 = ((N : Int), (p0 : Int), 0) := hu
      rw [hu] at hbad HU
      have hN : ¬ (32 : Int) < (N : Int) := fun h => hbad (.inr h)
      have HM0 := Lib.hid (Mt.start hu)
      have hwi : IntKind.i64.wrap (N : Int) = N := by rw [IntKind.wrap_i64]; omega
      obtain ⟨i0, hi0, hz0, hz1, hz2⟩ := info_parts Tryz.infoChg
      have HBy : Hid (∀ W (p : Nat) (m : Int), 0 ≤ m → m ≤ 1000 → Below w.heap.size w W → Calls Tryz.prog 57 #[.slice A n c, .int .i64 p, .int .i64 m] W fun e w' => ∃ A1 n1 c1, e = .returned (.tuple #[.slice A1 n1 c1, .int .i64 (txtAt b p m).2.1, .int .i64 (txtAt b p m).2.2]) ∧
          (∀ W2, Below w'.heap.size w' W2 → (convert 23 9 (.slice A1 n1 c1)).run Tryz.prog W2 = .ok (sV (txtAt b p m).1) W2) ∧ Below W.heap.size W w') := by
        refine Lib.hid fun W p m h0 h1 hb => (refBytes_any A n c p m b W hc (by omega) hm (by omega) (by omega) ((HH.out.below hb).more hb.size)).mono ?_
        rintro e w' ⟨s, rfl, ho, hb2⟩
        obtain ⟨A1, c1, rfl, _⟩ := own_shape ho
        exact ⟨A1, _, c1, rfl, fun W2 hb => ((Rd.of_own ho).up hb).str Tryz.underlying23 Tryz.underlying5 Tryz.underlying9 c1, hb2⟩
      have HCell : Hid (∀ W (j : Nat) (hj : j < b.length), Below w.heap.size w W → ∃ bb o, A = some ⟨bb, o, none⟩ ∧ W.cell? ⟨bb, o + j, none⟩ = some (.int .u8 (b[j].toNat : Int)) ∧ W.drew.cell? ⟨bb, o + j, none⟩ = some (.int .u8 (b[j].toNat : Int))) := by
        refine Lib.hid fun W j hj hb => ?_
        obtain ⟨bb, o, he, _, hcell⟩ := (HH.out.below hb).2 (by omega)
        exact ⟨bb, o, he, hcell j hj, hcell j hj⟩
      have HEn : Hid (∀ W A n c (l : List Chg), n ≤ c → c ≤ 9223372036854775807 → ChRd W W.heap.size A n l → Calls Tryz.prog 16 #[.slice A n c] W fun e w' => ∃ A1 n1 c1, e = .returned (.tuple #[.slice A1 n1 c1, .int .i64 (encodeS l).2]) ∧ (convert 23 9 (.slice A1 n1 c1)).run Tryz.prog w' = .ok (sV (encodeS l).1) w' ∧ Below W.heap.size W w') := by
        refine Lib.hid fun W A n c l h0 h1 hr => (refEncode_any A n c l W h0 h1 hr).mono ?_
        rintro e w' ⟨s, rfl, ho, hb2⟩
        obtain ⟨A1, c1, rfl, _⟩ := own_shape ho
        exact ⟨A1, _, c1, rfl, (Rd.of_own ho).str Tryz.underlying23 Tryz.underlying5 Tryz.underlying9 c1, hb2⟩
      clear h hlen hu hbad
      go_enter Tryz.func17, Tryz.ntmps17
      go_wp2_with fail
      refine HU.out.mono ?_
      rintro x w' ⟨rfl, rfl⟩
      clear HU
      go_wp2
      go_loopg [5, 7, 8] N (fun g a v i wr => ∃ (vv : Value) (k p : Nat) (dl : List Chg), a = .int .i64 p ∧ v = vv ∧ i = .int .i64 k ∧ k + g = N ∧ p ≤ n ∧ dl.length = k ∧ Hid (Mt b N p k dl) ∧ Hid (Chs wr w.heap.size vv dl) ∧ Hid (Below w.heap.size w wr))
      case atStart => exact ⟨_, 0, p0, [], rfl, rfl, rfl, by omega, by rw [← HL.out]; exact hp2, rfl, HM0, Lib.hid (Chs.nil _ _), Lib.hid (Below.refl _ _)⟩
      case round =>
        obtain ⟨vv, k, p, dl, rfl, rfl, rfl, hk, hp, hdl, HM, Hc, Hb⟩ := hrel
        obtain ⟨Av, cv, rfl, hcv⟩ := own_shape Hc.out
        by_cases hkn : k < N
        · have hkn' : (k : Int) < N := by omega
          have HB1 := HBy.out wr p 16 (by omega) (by omega) Hb.out
          rcases txtAt_shift b p 16 (by rw [HL.out]; omega) (by rw [HL.out]; exact hp) with ⟨t, m, -, ht, hm1, hm2, -⟩ | ⟨e, -, ht, he, -⟩
          · rw [ht] at HB1
            have HB1 := Lib.hid HB1
            have Ht := Lib.hid ht
            have hm2 : p + m ≤ n := by rw [← HL.out]; exact hm2
            have HF2 : Hid (b.length ≤ p + m ∨ (∃ x, b[p + m]? = some x ∧ 1 < x.toNat) → decodeS b = ([], 50)) := Lib.hid fun hh => HNo.out (HM.out.fail2 hkn (by rw [HL.out]; exact hp) ht hh)
            clear ht
            by_cases hto : n ≤ p + m
            · have HEE := Lib.hid (HF2.out (.inl (by rw [HL.out]; exact hto)))
              have hto' : (n : Int) ≤ ((p + m : Nat) : Int) := by omega
              go_wp2_with fail
              refine HB1.out.mono ?_
              rintro x w3 ⟨A1, n1, c1, rfl, -, hb3⟩
              have Hb3 := Lib.hid (below_then Hb.out hb3)
              clear hb3 HB1
              go_wp2
              go_ret2
              rw [HEE.out]
              exact ⟨_, rfl, Chs.nil _ _, Hb3.out⟩
            · have hto' : ¬ (n : Int) ≤ ((p + m : Nat) : Int) := by omega
              have hj : p + m < b.length := by rw [HL.out]; omega
              have hbx : b[p + m]? = some b[p + m] := List.getElem?_eq_getElem hj
              obtain ⟨bb, o, hA, _, _⟩ := HCell.out wr (p + m) hj Hb.out
              subst hA
              have HC2 : Hid (∀ W, Below w.heap.size w W → W.cell? ⟨bb, o + (p + m), none⟩ = some (.int .u8 (b[p + m].toNat : Int)) ∧ W.drew.cell? ⟨bb, o + (p + m), none⟩ = some (.int .u8 (b[p + m].toNat : Int))) := by
                refine Lib.hid fun W hb => ?_
                obtain ⟨bb', o', he, h1, h2⟩ := HCell.out W (p + m) hj hb
                injection he with he
                injection he with he1 he2
                subst he1 he2
                exact ⟨h1, h2⟩
              generalize b[p + m] = x at *
              have hi1 : (0 : Int) ≤ ((p + m : Nat) : Int) := by omega
              have hi2 : ((p + m : Nat) : Int) < (n : Int) := by omega
              have hq : (((p + m : Nat) : Int)).toNat = p + m := by omega
              by_cases hx : 1 < x.toNat
              · have HEE := Lib.hid (HF2.out (.inr ⟨x, hbx, hx⟩))
                have hx' : (1 : Int) < (x.toNat : Int) := by omega
                clear hbx HF2
                generalize hpm : p + m = q at *
                go_wp2_with fail
                refine HB1.out.mono ?_
                rintro y w3 ⟨A1, n1, c1, rfl, -, hb3⟩
                have Hb3 := Lib.hid (below_then Hb.out hb3)
                obtain ⟨c0, _⟩ := HC2.out w3 Hb3.out
                clear hb3 HB1
                go_wp2
                go_ret2
                rw [HEE.out]
                exact ⟨_, rfl, Chs.nil _ _, Hb3.out⟩
              · have hx' : ¬ (1 : Int) < (x.toNat : Int) := by omega
                have Hbx := Lib.hid hbx
                clear hbx HF2
                generalize hpm : p + m = q at *
                have hwq : IntKind.i64.wrap ((q : Int) + 1) = ((q + 1 : Nat) : Int) := by rw [IntKind.wrap_i64]; omega
                by_cases hx1 : x.toNat = 1
                · have hxe : ((x.toNat : Int) == 1) = true := by rw [hx1]; rfl
                  have HMn := Lib.hid (HM.out.gone hkn (by rw [HL.out]; exact hp) Ht.out (by rw [Hbx.out]; congr 1; exact UInt8.toNat_inj.1 (by rw [hx1]; rfl)))
                  go_wp2_with fail
                  refine HB1.out.mono ?_
                  rintro y w3 ⟨A1, n1, c1, rfl, kc3, hb3⟩
                  have Hb3 := Lib.hid (below_then Hb.out hb3)
                  have Hc3 := Lib.hid (Hc.out.below hb3)
                  obtain ⟨c0, c0d⟩ := HC2.out w3 Hb3.out
                  clear hb3 HB1
                  go_upto_region 11 with (fail)
                  have HK : Hid (∀ W, Below w3.heap.size w3 W → W.cell? ⟨bb, o + q, none⟩ = some (.int .u8 (x.toNat : Int)) ∧ (convert 23 9 (.slice A1 n1 c1)).run Tryz.prog W = .ok (sV t) W ∧ Below w3.heap.size w3 W) := Lib.hid fun W hb => ⟨(HC2.out W (below_then Hb3.out hb)).1, kc3 W hb, hb⟩
                  clear kc3 c0 c0d
                  go_cut [12] (fun s w' => ∃ W g, W = w' ∧ s = .pointer (some ⟨g, 0, none⟩) ∧ Bk w' g 88 #[sV t, .string ⟨#[]⟩, .bool true] ∧ w3.heap.size ≤ g ∧ Below w3.heap.size w3 w')
                  case first =>
                    go_region_held3 (fun w' => w'.cell? ⟨bb, o + q, none⟩ = some (.int .u8 (x.toNat : Int)) ∧ (convert 23 9 (.slice A1 n1 c1)).run Tryz.prog w' = .ok (sV t) w' ∧ Below w3.heap.size w3 w') (first | (refine HK.out _ ?_; (repeat' (first | assumption | exact Below.refl _ _ | exact Nat.le_refl _ | apply Below.drew | (refine Below.alloc ?_ ?_ _) | (refine Below.setCell ?_ ?_ _) | (simp; done) | (simp; omega))); done) | go_keep)
                      (first | fail)
                    all_goals
                      have hbn := Bk.new w3 88 #[sV t, .string ⟨#[]⟩, .bool true]
                      go_wp2_with fail
                      go_meet
                      exact ⟨_, _, rfl, rfl, hbn, Nat.le_refl _, ((Below.refl _ _).alloc (Nat.le_refl _) _).drew⟩
                  case rest =>
                    obtain ⟨W4, g, rfl, rfl, hbk, hg, hb4⟩ := hcut
                    have Hb4 := Lib.hid (below_then Hb3.out hb4)
                    have Hc4 := Lib.hid (Hc3.out.below hb4)
                    have Hbk := Lib.hid hbk
                    clear hb4 hbk HK
                    have k0 := Hbk.out.cell 0
                    have k1 := Hbk.out.cell 1
                    have k2 := Hbk.out.cell 2
                    have hcc : W4.ownsRow w.heap.size 88 3 (.slice Av k cv) k (chCells dl) := by have := Hc4.out; unfold Chs at this; rwa [hdl] at this
                    have hca := own_below hcc ((Below.refl W4.heap.size W4).alloc (Nat.le_refl _) (.cells #[sV t, sV [], .bool true] 88)) (fun g hg => (hcc.lt g hg).2)
                    have hba : Below w.heap.size w (W4.alloc (.cells #[sV t, sV [], .bool true] 88)) := Hb4.out.alloc Hb4.out.size _
                    clear hcc
                    go_wp2_with (at_builtin; refine wpList_append_app _ rfl _ _ 22 rfl w.heap.size 88 i0 (.agg #[.string ByteArray.empty, .string ByteArray.empty, .bool false]) 3 40 Tryz.underlying22 hi0 hz0 hz1 hz2 rfl _ _ _ rfl hca (some ⟨W4.heap.size, 0, none⟩) 1 1 [sV t, sV [], .bool true] rfl rfl (by intro e; cases e) (three_at _ _ _ _ _ rfl) (by intro u hu; simp at hu; rcases hu with rfl | rfl | rfl <;> rfl) (by unfold maxLen; omega) (by omega) hba.size ?_)
                    intro v9 w9 ha
                    have HB9 := Lib.hid (ha.below hba hba.size (own_block_ge hca))
                    have HC9 : Hid (Chs w9 w.heap.size v9 (dl ++ [⟨t, [], true⟩])) := by
                      show w9.ownsRow _ _ _ _ _ _
                      have := ha.own
                      rw [List.length_append, hdl, chCells_snoc]
                      exact this
                    clear ha hba hca
                    go_wp2
                    go_roundg (gk - 1)
                    case measure => omega
                    case rel => exact ⟨_, k + 1, q + 1, _, by go_num, rfl, by go_num, by omega, by omega, by simp [hdl], HMn, HC9, HB9⟩
                · have hx0 : x.toNat = 0 := by omega
                  have hxe : ((x.toNat : Int) == 1) = false := by rw [hx0]; rfl
                  have hb0 : b[q]? = some 0 := by rw [Hbx.out]; congr 1; exact UInt8.toNat_inj.1 (by rw [hx0]; rfl)
                  have HF3 : Hid ((txtAt b ((q + 1 : Nat) : Int) 128).2.2 ≠ 0 → decodeS b = ([], 50)) := Lib.hid fun hh => HNo.out (HM.out.fail3 hkn (by rw [HL.out]; exact hp) Ht.out hb0 hh)
                  have HMv : Hid (∀ (v : List UInt8) (up : Nat), txtAt b ((q + 1 : Nat) : Int) 128 = (v, (up : Int), 0) → Mt b N up (k + 1) (dl ++ [⟨t, v, false⟩])) := Lib.hid fun v up hh => HM.out.live hkn (by rw [HL.out]; exact hp) Ht.out hb0 hh
                  have hsh := txtAt_shift b (q + 1) 128 (by rw [HL.out]; omega) (by rw [HL.out]; omega)
                  have Hsh := Lib.hid hsh
                  clear hb0 hsh
                  go_wp2_with fail
                  refine HB1.out.mono ?_
                  rintro y w3 ⟨A1, n1, c1, rfl, kc3, hb3⟩
                  have Hb3 := Lib.hid (below_then Hb.out hb3)
                  have Hc3 := Lib.hid (Hc.out.below hb3)
                  obtain ⟨c0, c0d⟩ := HC2.out w3 Hb3.out
                  clear hb3 HB1
                  go_upto_region 11 with (fail)
                  have HK : Hid (∀ W, Below w3.heap.size w3 W → W.cell? ⟨bb, o + q, none⟩ = some (.int .u8 (x.toNat : Int)) ∧ (convert 23 9 (.slice A1 n1 c1)).run Tryz.prog W = .ok (sV t) W ∧ Below w3.heap.size w3 W) := Lib.hid fun W hb => ⟨(HC2.out W (below_then Hb3.out hb)).1, kc3 W hb, hb⟩
                  clear kc3 c0 c0d
                  go_cut [12] (fun s w' => ∃ W g, W = w' ∧ s = .pointer (some ⟨g, 0, none⟩) ∧ Bk w' g 88 #[sV t, .string ⟨#[]⟩, .bool false] ∧ w3.heap.size ≤ g ∧ Below w3.heap.size w3 w')
                  case first =>
                    go_region_held3 (fun w' => w'.cell? ⟨bb, o + q, none⟩ = some (.int .u8 (x.toNat : Int)) ∧ (convert 23 9 (.slice A1 n1 c1)).run Tryz.prog w' = .ok (sV t) w' ∧ Below w3.heap.size w3 w') (first | (refine HK.out _ ?_; (repeat' (first | assumption | exact Below.refl _ _ | exact Nat.le_refl _ | apply Below.drew | (refine Below.alloc ?_ ?_ _) | (refine Below.setCell ?_ ?_ _) | (simp; done) | (simp; omega))); done) | go_keep)
                      (first | fail)
                    all_goals
                      have hbn := Bk.new w3 88 #[sV t, .string ⟨#[]⟩, .bool false]
                      go_wp2_with fail
                      go_meet
                      exact ⟨_, _, rfl, rfl, hbn, Nat.le_refl _, ((Below.refl _ _).alloc (Nat.le_refl _) _).drew⟩
                  case rest =>
                    obtain ⟨W4, g, rfl, rfl, hbk, hg, hb4⟩ := hcut
                    have Hb4 := Lib.hid (below_then Hb3.out hb4)
                    have Hc4 := Lib.hid (Hc3.out.below hb4)
                    have Hbk := Lib.hid hbk
                    clear hb4 hbk HK
                    have k2 := Hbk.out.cell 2
                    have HB2 := HBy.out W4 (q + 1) 128 (by omega) (by omega) Hb4.out
                    rcases Hsh.out with ⟨v, m2, -, htv, -, hm4, -⟩ | ⟨e, -, htv, he, -⟩
                    · have hm4 : q + 1 + m2 ≤ n := by rw [← HL.out]; exact hm4
                      have HMn := Lib.hid (HMv.out v (q + 1 + m2) htv)
                      rw [htv] at HB2
                      have HB2 := Lib.hid HB2
                      clear htv Hsh HMv HF3
                      go_wp2_with fail
                      refine HB2.out.mono ?_
                      rintro y w5 ⟨A2, n2, c2, rfl, kc5, hb5⟩
                      have Hb5 := Lib.hid (below_then Hb4.out hb5)
                      have Hc5 := Lib.hid (Hc4.out.below hb5)
                      have Hbk5 := Lib.hid (Hbk.out.below hb5 Hbk.out.lt)
                      have kc := kc5 _ (Below.refl _ _)
                      clear hb5 kc5 HB2
                      have f1 := Hbk5.out.frozen 1
                      have k1 : w5.cell? ⟨g, 1, none⟩ = some (.string ⟨#[]⟩) := Hbk5.out.cell 1
                      have Bs : Hid (Bk (w5.setCell ⟨g, 1, none⟩ (sV v)) g 88 #[sV t, sV v, .bool false]) := Lib.hid (Hbk5.out.set_ 1 (sV v))
                      have s0 := Bs.out.cell 0
                      have s1 := Bs.out.cell 1
                      have s2 := Bs.out.cell 2
                      have Hb6 : Hid (Below w.heap.size w (w5.setCell ⟨g, 1, none⟩ (sV v))) := Lib.hid (Hb5.out.setCell (by show w.heap.size ≤ g; have := Hb3.out.size; omega) _)
                      have Hc6 : Hid (Chs (w5.setCell ⟨g, 1, none⟩ (sV v)) w.heap.size (.slice Av dl.length cv) dl) := Lib.hid (own_below Hc5.out ((Below.refl w3.heap.size _).setCell (by show w3.heap.size ≤ g; exact hg) _) (fun g hg => (Hc3.out.lt g hg).2))
                      go_upto_region 19 with (fail)
                      generalize w5.setCell ⟨g, 1, none⟩ (sV v) = W6 at *
                      have hcc : W6.ownsRow w.heap.size 88 3 (.slice Av k cv) k (chCells dl) := by have := Hc6.out; unfold Chs at this; rwa [hdl] at this
                      have hca := own_below hcc ((Below.refl W6.heap.size W6).alloc (Nat.le_refl _) (.cells #[sV t, sV v, .bool false] 88)) (fun g hg => (hcc.lt g hg).2)
                      have hba : Below w.heap.size w (W6.alloc (.cells #[sV t, sV v, .bool false] 88)) := Hb6.out.alloc Hb6.out.size _
                      clear hcc
                      go_wp2_with (at_builtin; refine wpList_append_app _ rfl _ _ 22 rfl w.heap.size 88 i0 (.agg #[.string ByteArray.empty, .string ByteArray.empty, .bool false]) 3 40 Tryz.underlying22 hi0 hz0 hz1 hz2 rfl _ _ _ rfl hca (some ⟨W6.heap.size, 0, none⟩) 1 1 [sV t, sV v, .bool false] rfl rfl (by intro e; cases e) (three_at _ _ _ _ _ rfl) (by intro u hu; simp at hu; rcases hu with rfl | rfl | rfl <;> rfl) (by unfold maxLen; omega) (by omega) hba.size ?_)
                      intro v9 w9 ha
                      have HB9 := Lib.hid (ha.below hba hba.size (own_block_ge hca))
                      have HC9 : Hid (Chs w9 w.heap.size v9 (dl ++ [⟨t, v, false⟩])) := by
                        show w9.ownsRow _ _ _ _ _ _
                        have := ha.own
                        rw [List.length_append, hdl, chCells_snoc]
                        exact this
                      clear ha hba hca
                      go_wp2
                      go_roundg (gk - 1)
                      case measure => omega
                      case rel => exact ⟨_, k + 1, q + 1 + m2, _, by go_num, rfl, by go_num, by omega, by omega, by simp [hdl], HMn, HC9, HB9⟩
                    · have HEE := Lib.hid (HF3.out (by rw [htv]; show (e : Int) ≠ 0; omega))
                      rw [htv] at HB2
                      have HB2 := Lib.hid HB2
                      have he' : ((e : Int) != 0) = true := by simp; omega
                      clear htv Hsh HMv HF3
                      go_wp2_with fail
                      refine HB2.out.mono ?_
                      rintro y w5 ⟨A2, n2, c2, rfl, -, hb5⟩
                      have Hb5 := Lib.hid (below_then Hb4.out hb5)
                      clear hb5 HB2
                      go_wp2
                      go_ret2
                      rw [HEE.out]
                      exact ⟨_, rfl, Chs.nil _ _, Hb5.out⟩
          · rw [ht] at HB1
            have HB1 := Lib.hid HB1
            have HEE := Lib.hid (HNo.out (HM.out.fail1 hkn (by rw [HL.out]; exact hp) (by rw [ht]; show (e : Int) ≠ 0; omega)))
            have he' : ((e : Int) != 0) = true := by simp; omega
            clear ht
            go_wp2_with fail
            refine HB1.out.mono ?_
            rintro x w3 ⟨A1, n1, c1, rfl, -, hb3⟩
            have Hb3 := Lib.hid (below_then Hb.out hb3)
            clear hb3 HB1
            go_wp2
            go_ret2
            rw [HEE.out]
            exact ⟨_, rfl, Chs.nil _ _, Hb3.out⟩
        · have hkN : k = N := by omega
          subst hkN
          have HE1 := HEn.out wr Av dl.length cv dl hcv.1 (by have := hcv.2; unfold maxLen at this; omega) Hc.out.rd
          rw [hdl] at HE1
          have HDo : Hid (encodeS dl ≠ (b, 0) → decodeS b = ([], 50)) := Lib.hid fun hh => HNo.out (HM.out.done hh)
          have HYe : Hid (encodeS dl = (b, 0) → decodeS b = (dl, 0)) := Lib.hid decode_of
          have HSt : Hid (∀ W, Below w.heap.size w W → (convert 23 9 (.slice A n c)).run Tryz.prog W = .ok (sV b) W) := Lib.hid fun W hb => (HH.out.below hb).str Tryz.underlying23 Tryz.underlying5 Tryz.underlying9 c
          generalize encodeS dl = ee at *
          obtain ⟨e1, e2⟩ := ee
          have HE1 := Lib.hid HE1
          by_cases he2 : e2 = 0
          · subst he2
            by_cases he1 : e1 = b
            · have hcmp : (e1 == b) = true := by simpa using he1
              have HEE := Lib.hid (HYe.out (by rw [he1]))
              clear he1
              go_wp2_with fail
              refine HE1.out.mono ?_
              rintro y w5 ⟨A2, n2, c2, rfl, kc, hb5⟩
              have Hb5 := Lib.hid (below_then Hb.out hb5)
              have Hc5 := Lib.hid (Hc.out.below hb5)
              have kb := HSt.out _ Hb5.out
              clear hb5 HE1
              go_wp2
              go_ret2
              rw [HEE.out]
              refine ⟨_, rfl, ?_, Hb5.out⟩
              have := Hc5.out
              rwa [hdl] at this
            · have hcmp : (e1 == b) = false := by simpa using he1
              have HEE := Lib.hid (HDo.out (by intro h; exact he1 (Prod.mk.inj h).1))
              clear he1
              go_wp2_with fail
              refine HE1.out.mono ?_
              rintro y w5 ⟨A2, n2, c2, rfl, kc, hb5⟩
              have Hb5 := Lib.hid (below_then Hb.out hb5)
              have kb := HSt.out _ Hb5.out
              clear hb5 HE1
              go_wp2
              go_ret2
              rw [HEE.out]
              exact ⟨_, rfl, Chs.nil _ _, Hb5.out⟩
          · have he3 : (e2 != 0) = true := by simpa using he2
            have HEE := Lib.hid (HDo.out (by intro h; exact he2 (Prod.mk.inj h).2))
            clear he2
            go_wp2_with fail
            refine HE1.out.mono ?_
            rintro y w5 ⟨A2, n2, c2, rfl, kc, hb5⟩
            have Hb5 := Lib.hid (below_then Hb.out hb5)
            clear hb5 HE1
            go_wp2
            go_ret2
            rw [HEE.out]
            exact ⟨_, rfl, Chs.nil _ _, Hb5.out⟩
    · exfalso
      have hu : uintAt b 0 = (0, 0, (e : Int)) := hu
      rw [hu] at hbad
      have : ((e : Nat) : Int) ≠ 0 := by omega
      exact hbad (.inl this)
end Go.Proofs.YtcmjobpgdfapoaaGreat
