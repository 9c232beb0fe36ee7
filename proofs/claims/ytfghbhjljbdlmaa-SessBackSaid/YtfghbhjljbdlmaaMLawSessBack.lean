/- SessBack is true at every segment, all bytes and every byte. -/
import Derived.Test.YtfghbhjljbdlmaaM1SesF
import Derived.Test.YtfghbhjljbdlmaaM1Same
namespace Go.Proofs.Ytfghbhjljbdlmaa
open Go.ChangeShapes Go.WideShapes Go.ChangeAt Go.RowKit

theorem bytesS_len {s : Sg} (h : s.Ok) (hr : s.right = true) : (bytesS s).length ≤ 1030 := by
  have := packS_len h hr
  unfold bytesS
  rw [putF_len]
  show 10 + (packS s).length ≤ 1030
  omega

set_option maxHeartbeats 8000000 in
set_option maxRecDepth 100000 in
theorem sessBack_walk (x : Gs) (A : Option Addr) (n c : Nat) (l : List UInt8) (m : UInt8) (w : World) (hx : x.Ok w w.heap.size) (hc : n ≤ c) (hm : c ≤ 9223372036854775807) (hA : Rd w w.heap.size A n l) :
    Calls Try.prog 10 #[x.v, .slice A n c, .int .u8 (m.toNat : Int)] w fun e w' => e = .returned (.bool true) ∧ Below w.heap.size w w' := by
  have HKn := Lib.hid sknown_any
  obtain ⟨i0, hi0, hz0, hz1, hz2⟩ := info_parts Try.infoU8
  obtain ⟨S, SA, sn, sc⟩ := x
  have hok : S.Ok := hx.ok
  have hcap : sn ≤ sc ∧ sc ≤ 9223372036854775807 := hx.cap
  have hrs : Rd w w.heap.size SA sn S.body := hx.body
  have hv : Gs.v ⟨S, SA, sn, sc⟩ = sgV S (.slice SA sn sc) := rfl
  rw [hv]
  obtain ⟨w1, hw1⟩ : ∃ w1, w1 = w.alloc (.cells (sgA S (.slice SA sn sc)) 60) := ⟨_, rfl⟩
  have hb1 : Below w.heap.size w w1 := by rw [hw1]; exact (Below.refl _ _).alloc (Nat.le_refl _) _
  have hk1 : Bk w1 w.heap.size 60 (sgA S (.slice SA sn sc)) := by rw [hw1]; exact Bk.new w 60 _
  have HLo := Lib.hid (slong_any S SA sn sc w1)
  obtain ⟨P, pe, hP⟩ : ∃ P pe, parseS l = (P, pe) := ⟨_, _, rfl⟩
  have hln := hA.1
  have HPb : n ≤ 4000 → Hid (∀ W, Below w.heap.size w W → Calls Try.prog 38 #[.slice A n c] W fun e w' => ∃ A' n' c', e = .returned (.tuple #[sgV P (.slice A' n' c'), .int .i64 (pe : Int)]) ∧ n' ≤ c' ∧ c' ≤ 9223372036854775807 ∧ Rd w' w'.heap.size A' n' P.body ∧ Below W.heap.size W w') := by
    refine fun h4 => Lib.hid fun W hb => ?_
    have := sparse_any A n c l W hc (by omega) hm (hA.up hb)
    rw [hP] at this
    refine this.mono ?_
    rintro e w' ⟨A', n', c', rfl, a1, a2, a3, _, a5⟩
    exact ⟨A', n', c', rfl, a1, a2, a3, a5⟩
  have HBb : n ≤ 4000 → pe = 0 → Hid (∀ W A' n' c', n' ≤ c' → c' ≤ 9223372036854775807 → Rd W W.heap.size A' n' P.body → Calls Try.prog 36 #[sgV P (.slice A' n' c')] W fun e w' => ∃ v, e = .returned (.tuple #[v, .int .i64 0]) ∧ w'.ownsRow W.heap.size 5 1 v n (u8s l) ∧ Below W.heap.size W w') := by
    intro h4 hpe
    refine Lib.hid fun W A' n' c' a1 a2 a3 => ?_
    have hp := parse_back (l := l) (by rw [hP]; exact hpe)
    rw [hP] at hp
    have := sbytes_ok P hp.1 hp.2.1 A' n' c' W a1 a2 a3
    rwa [show bytesS P = l from hp.2.2, hln] at this
  have HSb : Hid (∀ W Ad nd cd, Below w.heap.size w W → Rd W W.heap.size Ad nd l → Calls Try.prog 40 #[.slice Ad nd cd, .slice A n c] W fun e w' => e = .returned (.bool true) ∧ W = w') := by
    refine Lib.hid fun W Ad nd cd hb hd => ?_
    have := same_any Ad A nd n cd c W.heap.size w.heap.size l l W hd (hA.below hb)
    rwa [show (l == l) = true by simp] at this
  have HPar : Hid (∀ W Ac nc cc bs, nc ≤ cc → cc ≤ 9223372036854775807 → nc ≤ 2000 → Rd W W.heap.size Ac nc bs → Calls Try.prog 38 #[.slice Ac nc cc] W fun e w' => ∃ A' n' c', e = .returned (.tuple #[sgV (parseS bs).1 (.slice A' n' c'), .int .i64 ((parseS bs).2 : Int)]) ∧ n' ≤ c' ∧ c' ≤ 9223372036854775807 ∧ Rd w' w'.heap.size A' n' (parseS bs).1.body ∧ Below W.heap.size W w') := by
    refine Lib.hid fun W Ac nc cc bs a1 a2 a3 a4 => ?_
    refine (sparse_any Ac nc cc bs W a1 (by omega) a2 a4).mono ?_
    rintro e w' ⟨A', n', c', rfl, a1, a2, a3, _, a5⟩
    exact ⟨A', n', c', rfl, a1, a2, a3, a5⟩
  have HSS : Hid (∀ W A1 n1 c1, Below w.heap.size w W → Rd W W.heap.size A1 n1 S.body → Calls Try.prog 41 #[sgV S (.slice A1 n1 c1), sgV S (.slice SA sn sc)] W fun e w' => e = .returned (.bool true) ∧ Below W.heap.size W w') := by
    refine Lib.hid fun W A1 n1 c1 hb h => ?_
    have := sSame_any S S A1 SA n1 c1 sn sc W h (hrs.up hb)
    rwa [sameSg_self] at this
  have HW1 := Lib.hid hw1
  have HB1 := Lib.hid hb1
  have HK1 : Hid (∀ W, Below w1.heap.size w1 W → W.cell? ⟨w.heap.size, 0, none⟩ = some (.int .u64 (S.life : Int)) ∧ W.cell? ⟨w.heap.size, 1, none⟩ = some (.int .u64 (S.seq : Int)) ∧ W.cell? ⟨w.heap.size, 2, none⟩ = some (.bool S.ack) ∧ W.cell? ⟨w.heap.size, 3, none⟩ = some (.slice SA sn sc)) := Lib.hid fun W hb =>
    ⟨(hk1.below hb hk1.lt).cell 0, (hk1.below hb hk1.lt).cell 1, (hk1.below hb hk1.lt).cell 2, (hk1.below hb hk1.lt).cell 3⟩
  have HBok : S.right = true → Hid (∀ W, Below w.heap.size w W → Calls Try.prog 36 #[sgV S (.slice SA sn sc)] W fun e w' => ∃ v, e = .returned (.tuple #[v, .int .i64 0]) ∧ w'.ownsRow W.heap.size 5 1 v (bytesS S).length (u8s (bytesS S)) ∧ Below W.heap.size W w') := fun hr =>
    Lib.hid fun W hb => sbytes_ok S hok hr SA sn sc W hcap.1 hcap.2 (hrs.up hb)
  have HBbad : S.right = false → Hid (∀ W, Below w.heap.size w W → Calls Try.prog 36 #[sgV S (.slice SA sn sc)] W fun e w' => e = .returned (.tuple #[.slice none 0 0, .int .i64 2]) ∧ Below W.heap.size W w') := fun hr =>
    Lib.hid fun W _ => sbytes_bad S hr SA sn sc W hrs.1
  have hpb : S.right = true → (bytesS S).length ≤ 1030 ∧ parseS (bytesS S) = (S, 0) ∧ parseS (bytesS S ++ [m]) = (Sg.zero, 11) := fun hr => ⟨bytesS_len hok hr, parse_bytes S hok hr, parse_more S m hok hr⟩
  generalize hBB : bytesS S = BB at *
  generalize hrr : S.right = rr at *
  unfold sgV at HPb HBb HLo HPar HSS HBok HBbad ⊢
  unfold sgA at HW1
  obtain ⟨sl, ss, sa, sb⟩ := S
  obtain ⟨pl, ps, pa, pb⟩ := P
  dsimp only at HPb HBb HLo HSS HBok HBbad HK1 HW1 hpb ⊢
  clear hx hok hcap hrs hv hb1 hk1 hw1 hA hP hBB hrr
  obtain ⟨k0, k1, k2, k3⟩ := HK1.out w1 (Below.refl _ _)
  by_cases hbig : 3000 < sn ∨ 4000 < n
  · by_cases hbig1 : 3000 < sn
    · rw [decide_eq_true hbig1] at HLo
      clear HPb HBb HBok HBbad hpb hbig
      go_enter Try.func10, Try.ntmps10
      go_wp2_with fail
      rw [← HW1.out]
      refine HLo.out.mono ?_
      rintro e w2 ⟨rfl, hb2⟩
      have HB2 := Lib.hid (below_then HB1.out hb2)
      clear hb2 k0 k1 k2 k3
      go_wp2_with fail
      refine (HKn.out w2).mono ?_
      rintro e w3 ⟨rfl, hb3⟩
      have HB3 := Lib.hid (below_then HB2.out hb3)
      clear hb3
      go_wp2
      go_ret
      exact ⟨rfl, HB3.out⟩
    · have hbig2 : (4000 : Int) < (n : Int) := by omega
      rw [decide_eq_false hbig1] at HLo
      clear HPb HBb HBok HBbad hpb hbig
      go_enter Try.func10, Try.ntmps10
      go_wp2_with fail
      rw [← HW1.out]
      refine HLo.out.mono ?_
      rintro e w2 ⟨rfl, hb2⟩
      have HB2 := Lib.hid (below_then HB1.out hb2)
      clear hb2 k0 k1 k2 k3
      go_wp2_with fail
      refine (HKn.out w2).mono ?_
      rintro e w3 ⟨rfl, hb3⟩
      have HB3 := Lib.hid (below_then HB2.out hb3)
      clear hb3
      go_wp2
      go_ret
      exact ⟨rfl, HB3.out⟩
  · have hs1 : ¬ 3000 < sn := fun h => hbig (.inl h)
    have hs2 : n ≤ 4000 := by omega
    have hs3 : ¬ (4000 : Int) < (n : Int) := by omega
    rw [decide_eq_false hs1] at HLo
    replace HPb := HPb hs2
    replace HBb := HBb hs2
    clear hbig hs1 hs2 hln
    cases rr with
    | true =>
      replace HBok := HBok (by first | rfl | trivial)
      obtain ⟨hlen, hp1, hp2⟩ := hpb (by first | rfl | trivial)
      clear HBbad hpb
      obtain ⟨bn, hbn⟩ : ∃ bn, bn = BB.length := ⟨_, rfl⟩
      rw [← hbn] at HBok hlen
      have Hbn := Lib.hid hbn
      have Hp1 := Lib.hid hp1
      have Hp2 := Lib.hid hp2
      clear hbn hp1 hp2
      have HCp : Hid (∀ W Ac cc, Rd W W.heap.size Ac bn BB → Calls Try.prog 35 #[.slice Ac bn cc] W fun e w' => ∃ v, e = .returned v ∧ w'.ownsRow W.heap.size 5 1 v bn (u8s BB) ∧ Below W.heap.size W w') :=
        Lib.hid fun W Ac cc h => copy_any Ac bn cc W.heap.size BB W (by omega) h
      go_enter Try.func10, Try.ntmps10
      go_wp2_with fail
      rw [← HW1.out]
      refine HLo.out.mono ?_
      rintro e w2 ⟨rfl, hb2⟩
      have HB2 := Lib.hid (below_then HB1.out hb2)
      have Hc2 := Lib.hid hb2
      replace ⟨k0, k1, k2, k3⟩ := HK1.out w2 hb2
      clear hb2
      go_wp2_with fail
      refine (HBok.out w2 HB2.out).mono ?_
      rintro e w3 ⟨vc, rfl, hoc, hb3⟩
      have HB3 := Lib.hid (below_then HB2.out hb3)
      have Hc3 := Lib.hid (below_then Hc2.out hb3)
      obtain ⟨Ac, cc, rfl, hcc1, hcc2⟩ := own_shape hoc
      have Hrc := Lib.hid (Rd.of_own hoc)
      have hcc3 : cc ≤ 9223372036854775807 := by unfold maxLen at hcc2; omega
      clear hoc hb3 k0 k1 k2 k3
      go_wp2_with fail
      have HPc := HPar.out w3 Ac bn cc BB hcc1 hcc3 (by omega) Hrc.out
      rw [Hp1.out] at HPc
      refine HPc.mono ?_
      rintro e w4 ⟨At, nt, ct, rfl, ht1, ht2, ht3, hb4⟩
      obtain ⟨w5, hw5⟩ : ∃ w5, w5 = w4.alloc (.cells #[.int .u64 (sl : Int), .int .u64 (ss : Int), .bool sa, .slice At nt ct] 60) := ⟨_, rfl⟩
      have hb5 : Below w4.heap.size w4 w5 := by rw [hw5]; exact (Below.refl _ _).alloc (Nat.le_refl _) _
      have hk5 : Bk w5 w4.heap.size 60 #[.int .u64 (sl : Int), .int .u64 (ss : Int), .bool sa, .slice At nt ct] := by rw [hw5]; exact Bk.new w4 60 _
      have hb45 := below_then hb4 hb5
      have HB5 := Lib.hid (below_then HB3.out hb45)
      have Hc5 := Lib.hid (below_then Hc3.out hb45)
      have Hrc5 := Lib.hid (Hrc.out.up hb45)
      have Hrt5 := Lib.hid (Rd.up ht3 hb5)
      have HW5 := Lib.hid hw5
      have HK5 := Lib.hid hk5
      clear ht3 hb4 hb5 hk5 hb45 hw5 HPc HB3 Hc3
      go_wp2_with fail
      rw [← HW5.out]
      refine (HCp.out w5 Ac cc Hrc5.out).mono ?_
      rintro e w6 ⟨vx, rfl, hox, hb6⟩
      have Hb6 := Lib.hid hb6
      have Hox := Lib.hid hox
      have hz6 : w5.heap.size ≤ w6.heap.size := hb6.size
      clear hox hb6 Hrc5 HW5
      go_wp2_with (at_builtin; refine wpList_append_app _ rfl _ _ 32 rfl w5.heap.size 5 i0 (.int .u8 0) 1 1 Try.underlying32 hi0 hz0 hz1 hz2 rfl _ _ _ rfl (Hox.out.alloc _) (some ⟨w6.heap.size, 0, none⟩) 1 1 [.int .u8 (m.toNat : Int)] rfl rfl (by intro e; cases e) (one_new _ _ _ rfl) (by intro u hu; simp at hu; subst hu; rfl) (by unfold maxLen; omega) (by omega) (by simp; omega) ?_)
      intro va w7 ha
      have ho7 : w7.ownsRow w5.heap.size 5 1 va (bn + 1) (u8s (BB ++ [m])) := by rw [u8s_append]; exact ha.own
      have hb57 : Below w5.heap.size w5 w7 := ha.below (Hb6.out.alloc Hb6.out.size _) (by simp; omega) (own_block_ge Hox.out)
      have HB7 := Lib.hid (below_then HB5.out hb57)
      have Hc7 := Lib.hid (below_then Hc5.out hb57)
      have Hrt7 := Lib.hid (Hrt5.out.up hb57)
      have HK7 := Lib.hid (HK5.out.below hb57 HK5.out.lt)
      obtain ⟨Ax, cx, rfl, hcx1, hcx2⟩ := own_shape ho7
      have hcx3 : cx ≤ 9223372036854775807 := by unfold maxLen at hcx2; omega
      have HPx := HPar.out w7 Ax (bn + 1) cx (BB ++ [m]) hcx1 hcx3 (by omega) (Rd.of_own ho7)
      rw [Hp2.out] at HPx
      replace HPx : Hid (Calls Try.prog 38 #[.slice Ax (bn + 1) cx] w7 fun e w' => ∃ A' n' c', e = .returned (.tuple #[.agg #[.int .u64 0, .int .u64 0, .bool false, .slice A' n' c'], .int .i64 11]) ∧ Below w7.heap.size w7 w') := by
        refine Lib.hid (HPx.mono ?_)
        rintro e w' ⟨A', n', c', rfl, _, _, _, a5⟩
        exact ⟨A', n', c', rfl, a5⟩
      clear ha ho7 hb57 HB5 Hc5 Hrt5 HK5 hz6 Hb6 Hox
      go_wp2_with fail
      refine HPx.out.mono ?_
      rintro e w8 ⟨A8, n8, c8, rfl, hb8⟩
      obtain ⟨w9, hw9⟩ : ∃ w9, w9 = w8.alloc (.cells #[.int .u64 0, .int .u64 0, .bool false, .slice A8 n8 c8] 60) := ⟨_, rfl⟩
      have hb9 : Below w8.heap.size w8 w9 := by rw [hw9]; exact (Below.refl _ _).alloc (Nat.le_refl _) _
      have hb79 := below_then hb8 hb9
      have HB9 := Lib.hid (below_then HB7.out hb79)
      have Hrt9 := Lib.hid (Hrt7.out.up hb79)
      have hk9 := HK7.out.below hb79 HK7.out.lt
      obtain ⟨k0, k1, k2, k3⟩ := HK1.out w9 (below_then Hc7.out hb79)
      have j0 : w9.cell? ⟨w4.heap.size, 0, none⟩ = some (.int .u64 (sl : Int)) := hk9.cell 0
      have j1 : w9.cell? ⟨w4.heap.size, 1, none⟩ = some (.int .u64 (ss : Int)) := hk9.cell 1
      have j2 : w9.cell? ⟨w4.heap.size, 2, none⟩ = some (.bool sa) := hk9.cell 2
      have j3 : w9.cell? ⟨w4.heap.size, 3, none⟩ = some (.slice At nt ct) := hk9.cell 3
      have HW9 := Lib.hid hw9
      clear hb8 hw9 hb9 hb79 hk9 HB7 Hc7 Hrt7 HK7
      go_upto_region 9 with (fail)
      rw [← HW9.out]
      go_wp2_with fail
      refine (HSS.out w9 At nt ct HB9.out Hrt9.out).mono ?_
      rintro e wz ⟨rfl, hbz⟩
      have HBz := Lib.hid (below_then HB9.out hbz)
      clear hbz HB9 Hrt9 HW9 k0 k1 k2 k3 j0 j1 j2 j3
      by_cases hpe : pe = 0
      · rw [hpe] at HPb
        have HBy := HBb hpe
        clear HBb hpe
        go_wp2_with fail
        refine (HPb.out wz HBz.out).mono ?_
        rintro e v1 ⟨Ab, nb, cb, rfl, hq1, hq2, hq3, hbv1⟩
        obtain ⟨v2, hv2⟩ : ∃ v2, v2 = v1.alloc (.cells #[.int .u64 (pl : Int), .int .u64 (ps : Int), .bool pa, .slice Ab nb cb] 60) := ⟨_, rfl⟩
        have hbv2 : Below v1.heap.size v1 v2 := by rw [hv2]; exact (Below.refl _ _).alloc (Nat.le_refl _) _
        have HBv2 := Lib.hid (below_then HBz.out (below_then hbv1 hbv2))
        have Hq3 := Lib.hid (Rd.up hq3 hbv2)
        have HV2 := Lib.hid hv2
        clear hq3 hbv1 hbv2 hv2
        go_wp2_with fail
        rw [← HV2.out]
        refine (HBy.out v2 Ab nb cb hq1 hq2 Hq3.out).mono ?_
        rintro e v3 ⟨vd, rfl, hod, hbv3⟩
        obtain ⟨Ad, cd, rfl, _, _⟩ := own_shape hod
        have HBv3 := Lib.hid (below_then HBv2.out hbv3)
        have Hrd := Lib.hid (Rd.of_own hod)
        clear hod hbv3
        go_wp2_with fail
        refine (HSb.out v3 Ad n cd HBv3.out Hrd.out).mono ?_
        rintro e v3' ⟨rfl, rfl⟩
        go_wp2_with fail
        refine (HKn.out v3).mono ?_
        rintro e v4 ⟨rfl, hbv4⟩
        have HBv4 := Lib.hid (below_then HBv3.out hbv4)
        clear hbv4
        go_wp2
        go_ret
        exact ⟨rfl, HBv4.out⟩
      · have hne : ((pe : Int) == 0) = false := by simpa using hpe
        have hne' : ¬ ((pe : Int) = 0) := by omega
        clear HBb hpe
        go_wp2_with fail
        refine (HPb.out wz HBz.out).mono ?_
        rintro e v1 ⟨Ab, nb, cb, rfl, _, _, _, hbv1⟩
        have HBv2 := Lib.hid ((below_then HBz.out hbv1).alloc (below_then HBz.out hbv1).size (.cells #[.int .u64 (pl : Int), .int .u64 (ps : Int), .bool pa, .slice Ab nb cb] 60))
        clear hbv1
        go_wp2_with fail
        refine (HKn.out _).mono ?_
        rintro e v4 ⟨rfl, hbv4⟩
        have HBv4 := Lib.hid (below_then HBv2.out hbv4)
        clear hbv4
        go_wp2
        go_ret
        exact ⟨rfl, HBv4.out⟩
    | false =>
      replace HBbad := HBbad (by first | rfl | trivial)
      clear HBok hpb
      go_enter Try.func10, Try.ntmps10
      go_wp2_with fail
      rw [← HW1.out]
      refine HLo.out.mono ?_
      rintro e w2 ⟨rfl, hb2⟩
      have HB2 := Lib.hid (below_then HB1.out hb2)
      replace ⟨k0, k1, k2, k3⟩ := HK1.out w2 hb2
      clear hb2
      go_wp2_with fail
      refine (HBbad.out w2 HB2.out).mono ?_
      rintro e wz ⟨rfl, hbz⟩
      have HBz := Lib.hid (below_then HB2.out hbz)
      clear hbz HB2 k0 k1 k2 k3
      by_cases hpe : pe = 0
      · rw [hpe] at HPb
        have HBy := HBb hpe
        clear HBb hpe
        go_wp2_with fail
        refine (HPb.out wz HBz.out).mono ?_
        rintro e v1 ⟨Ab, nb, cb, rfl, hq1, hq2, hq3, hbv1⟩
        obtain ⟨v2, hv2⟩ : ∃ v2, v2 = v1.alloc (.cells #[.int .u64 (pl : Int), .int .u64 (ps : Int), .bool pa, .slice Ab nb cb] 60) := ⟨_, rfl⟩
        have hbv2 : Below v1.heap.size v1 v2 := by rw [hv2]; exact (Below.refl _ _).alloc (Nat.le_refl _) _
        have HBv2 := Lib.hid (below_then HBz.out (below_then hbv1 hbv2))
        have Hq3 := Lib.hid (Rd.up hq3 hbv2)
        have HV2 := Lib.hid hv2
        clear hq3 hbv1 hbv2 hv2
        go_wp2_with fail
        rw [← HV2.out]
        refine (HBy.out v2 Ab nb cb hq1 hq2 Hq3.out).mono ?_
        rintro e v3 ⟨vd, rfl, hod, hbv3⟩
        obtain ⟨Ad, cd, rfl, _, _⟩ := own_shape hod
        have HBv3 := Lib.hid (below_then HBv2.out hbv3)
        have Hrd := Lib.hid (Rd.of_own hod)
        clear hod hbv3
        go_wp2_with fail
        refine (HSb.out v3 Ad n cd HBv3.out Hrd.out).mono ?_
        rintro e v3' ⟨rfl, rfl⟩
        go_wp2_with fail
        refine (HKn.out v3).mono ?_
        rintro e v4 ⟨rfl, hbv4⟩
        have HBv4 := Lib.hid (below_then HBv3.out hbv4)
        clear hbv4
        go_wp2
        go_ret
        exact ⟨rfl, HBv4.out⟩
      · have hne : ((pe : Int) == 0) = false := by simpa using hpe
        have hne' : ¬ ((pe : Int) = 0) := by omega
        clear HBb hpe
        go_wp2_with fail
        refine (HPb.out wz HBz.out).mono ?_
        rintro e v1 ⟨Ab, nb, cb, rfl, _, _, _, hbv1⟩
        have HBv2 := Lib.hid ((below_then HBz.out hbv1).alloc (below_then HBz.out hbv1).size (.cells #[.int .u64 (pl : Int), .int .u64 (ps : Int), .bool pa, .slice Ab nb cb] 60))
        clear hbv1
        go_wp2_with fail
        refine (HKn.out _).mono ?_
        rintro e v4 ⟨rfl, hbv4⟩
        have HBv4 := Lib.hid (below_then HBv2.out hbv4)
        clear hbv4
        go_wp2
        go_ret
        exact ⟨rfl, HBv4.out⟩

namespace sessBack
set_option maxRecDepth 100000 in
theorem lifted (os : Os) (started : os.Started) (H : Type) (enc : TypeId × Value → H) :
    ReturnsInHanded {} Try.checked os 10 .any (Rows.sessBackSpec.pre6 enc Try.prog Try.f10 Rows.sessBackRow.domain false) (Rows.sessBackSpec.post enc Try.prog Try.f10 false true false false) := by
  refine law_lift started (by kernel_rfl) Try.func10
    (ChangeSpec.witness6 (enc := enc) (C := Try.checked) false ⟨#[], #[.agg #[.int .u64 0, .int .u64 0, .bool false, .slice none 0 0], .slice none 0 0, .int .u8 0], []⟩ 8 (by kernel_rfl) (by kernel_rfl) (by kernel_rfl) (by kernel_rfl))
    rfl ?_ (by kernel_rfl) (by kernel_rfl) ?_
  · intro ds h
    match ds, h with
    | [_, _, _], _ => rfl
  intro W base args ds p g
  have hA := g.trod
  have hval := g.val
  rw [Try.params10] at hA hval
  obtain ⟨v0, vs0, d0, ds0, p0, q0, hargs, rfl, rfl, h0, r0⟩ := trodAll_cons hA
  obtain ⟨v1, vs1, d1, ds1, p1, q1, rfl, rfl, rfl, h1, r1⟩ := trodAll_cons r0
  obtain ⟨v2, vs2, d2, ds2, p2, q2, rfl, rfl, rfl, h2, r2⟩ := trodAll_cons r1
  obtain ⟨rfl, rfl, rfl⟩ := trodAll_nil r2
  obtain rfl : args = #[v0, v1, v2] := by cases args; simp_all
  obtain ⟨x0, hx0, rfl⟩ := given_sg (hval 0 60 v0 rfl rfl) h0
  obtain ⟨A1, n1, c1, l1, rfl, hc1, hm1, hr1⟩ := given_bytes (hval 1 32 v1 rfl rfl) h1
  obtain ⟨a2, rfl, _, _, w2⟩ := open_int Try.underlying5 (hval 2 5 v2 rfl rfl) h2
  have b2 := bounds_u8 w2
  obtain ⟨m2, rfl⟩ := Int.eq_ofNat_of_zero_le b2.1
  obtain ⟨k2, rfl⟩ : ∃ k : UInt8, m2 = k.toNat := ⟨UInt8.ofNat m2, by rw [UInt8.toNat_ofNat']; omega⟩
  exact sessBack_walk x0 A1 n1 c1 l1 k2 W hx0 hc1 hm1 hr1

theorem over : Rows.sessBackRow.holds Try.pinned (OpenSpec.ofChange Rows.sessBackSpec) :=
  OpenClaim.holds_of_wide 10 Try.f10 rfl rfl rfl rfl rfl rfl rfl ⟨rfl, rfl, rfl, rfl, rfl⟩ rfl rfl rfl rfl rfl (by kernel_rfl) Try.func10 (by kernel_rfl)
    (of_decide_eq_true (by kernel_rfl)) (by unfold Func.isWrapper; first | (rw [if_pos (by decide +kernel)]; kernel_rfl) | (rw [if_neg (by decide +kernel)]; exact ⟨rfl, rfl⟩))
    (fun os started H enc _ => lifted os started H enc)
end sessBack

theorem SessBack_proved : Rows.SessBackSaid := sessBack.over
#print axioms SessBack_proved
end Go.Proofs.Ytfghbhjljbdlmaa
