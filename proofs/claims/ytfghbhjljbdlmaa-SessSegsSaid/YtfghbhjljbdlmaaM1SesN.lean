/- Of the proofs of layer 4, merged: SesN. -/
import Derived.Test.YtfghbhjljbdlmaaM1SesF
import Derived.Test.YtfghbhjljbdlmaaMRefFramePut

/- The document's segments: Right, Bytes. -/
namespace Go.Proofs.Ytfghbhjljbdlmaa
open Go.RowKit Go.Maps

set_option maxRecDepth 100000 in
set_option maxHeartbeats 1000000 in
theorem rright_any (s : Sg) (A : Option Addr) (n c : Nat) (w : World) (hn : s.body.length = n) :
    Calls Try.prog 80 #[sgV s (.slice A n c)] w fun e w' => e = .returned (.bool s.right) ∧ Below w.heap.size w w' := by
  obtain ⟨life, seq, ack, body⟩ := s
  unfold sgV Sg.right
  have hn : body.length = n := hn
  dsimp only
  have HB : Hid (Below w.heap.size w (w.alloc (.cells #[.int .u64 (life : Int), .int .u64 (seq : Int), .bool ack, .slice A n c] 60))) := Lib.hid ((Below.refl _ _).alloc (Nat.le_refl _) _)
  cases ack with
  | true =>
    go_enter Try.func80, Try.ntmps80
    go_wp2
    go_ret
    refine ⟨?_, HB.out⟩
    show Ending.returned (Value.bool ((n : Int) == 0)) = Ending.returned (Value.bool (decide (n = 0)))
    congr 2
    rw [Bool.eq_iff_iff]
    simp only [beq_iff_eq, decide_eq_true_eq]
    omega
  | false =>
    by_cases hs : 0 < seq
    · have hs' : (1 : Int) ≤ (seq : Int) := by omega
      go_enter Try.func80, Try.ntmps80
      go_wp2
      go_ret
      refine ⟨?_, HB.out⟩
      show Ending.returned (Value.bool (decide ((n : Int) ≤ 1000))) = Ending.returned (Value.bool (decide (n ≤ 1000)))
      congr 2
      rw [Bool.eq_iff_iff]
      simp only [decide_eq_true_eq]
      omega
    · have hs' : ¬ (1 : Int) ≤ (seq : Int) := by omega
      go_enter Try.func80, Try.ntmps80
      go_wp2
      go_ret
      refine ⟨?_, HB.out⟩
      simp

set_option maxRecDepth 100000 in
set_option maxHeartbeats 1000000 in
theorem rbytes_bad (s : Sg) (hr : s.right = false) (A : Option Addr) (n c : Nat) (w : World) (hn : s.body.length = n) :
    Calls Try.prog 37 #[sgV s (.slice A n c)] w fun e w' => e = .returned (.tuple #[.slice none 0 0, .int .i64 2]) ∧ Below w.heap.size w w' := by
  obtain ⟨W1, hW1⟩ : ∃ W1, W1 = w.alloc (.cells (sgA s (.slice A n c)) 60) := ⟨_, rfl⟩
  have hb1 : Below w.heap.size w W1 := by rw [hW1]; exact (Below.refl _ _).alloc (Nat.le_refl _) _
  have hk1 : Bk W1 w.heap.size 60 (sgA s (.slice A n c)) := by rw [hW1]; exact Bk.new w 60 _
  have HR := rright_any s A n c W1 hn
  rw [hr] at HR
  have k0 : W1.cell? ⟨w.heap.size, 0, none⟩ = some (.int .u64 (s.life : Int)) := hk1.cell 0
  have k1 : W1.cell? ⟨w.heap.size, 1, none⟩ = some (.int .u64 (s.seq : Int)) := hk1.cell 1
  have k2 : W1.cell? ⟨w.heap.size, 2, none⟩ = some (.bool s.ack) := hk1.cell 2
  have k3 : W1.cell? ⟨w.heap.size, 3, none⟩ = some (.slice A n c) := hk1.cell 3
  have HB1 := Lib.hid hb1
  have HW1 := Lib.hid hW1
  have HR := Lib.hid HR
  unfold sgV at HR ⊢
  unfold sgA at HW1
  obtain ⟨sl, ss, sa, sb⟩ := s
  dsimp only at HR HW1 k0 k1 k2 k3 ⊢
  clear hb1 hk1 hW1 hr hn
  go_enter Try.func37, Try.ntmps37
  go_wp2_with fail
  rw [← HW1.out]
  refine HR.out.mono ?_
  rintro e w2 ⟨rfl, hb2⟩
  have HB2 := Lib.hid (below_then HB1.out hb2)
  clear hb2 k0 k1 k2 k3
  go_wp2
  go_ret2
  exact ⟨rfl, HB2.out⟩

set_option maxRecDepth 100000 in
set_option maxHeartbeats 2000000 in
theorem rbytes_ok (s : Sg) (hok : s.Ok) (hr : s.right = true) (A : Option Addr) (n c : Nat) (w : World) (hc : n ≤ c) (hm : c ≤ 9223372036854775807) (h : Rd w w.heap.size A n s.body) :
    Calls Try.prog 37 #[sgV s (.slice A n c)] w fun e w' => ∃ v, e = .returned (.tuple #[v, .int .i64 0]) ∧ w'.ownsRow w.heap.size 5 1 v (bytesS s).length (u8s (bytesS s)) ∧ Below w.heap.size w w' := by
  obtain ⟨i0, hi0, hz0, hz1, hz2⟩ := info_parts Try.infoU8
  have hpl := packS_len hok hr
  have hl := h.1
  obtain ⟨W1, hW1⟩ : ∃ W1, W1 = w.alloc (.cells (sgA s (.slice A n c)) 60) := ⟨_, rfl⟩
  have hb1 : Below w.heap.size w W1 := by rw [hW1]; exact (Below.refl _ _).alloc (Nat.le_refl _) _
  have hk1 : Bk W1 w.heap.size 60 (sgA s (.slice A n c)) := by rw [hW1]; exact Bk.new w 60 _
  have HR := rright_any s A n c W1 hl
  rw [hr] at HR
  have HK : Hid (∀ W, Below W1.heap.size W1 W → W.cell? ⟨w.heap.size, 0, none⟩ = some (.int .u64 (s.life : Int)) ∧ W.cell? ⟨w.heap.size, 1, none⟩ = some (.int .u64 (s.seq : Int)) ∧ W.cell? ⟨w.heap.size, 2, none⟩ = some (.bool s.ack) ∧ W.cell? ⟨w.heap.size, 3, none⟩ = some (.slice A n c)) := Lib.hid fun W hb =>
    ⟨(hk1.below hb hk1.lt).cell 0, (hk1.below hb hk1.lt).cell 1, (hk1.below hb hk1.lt).cell 2, (hk1.below hb hk1.lt).cell 3⟩
  obtain ⟨k0, k1, k2, k3⟩ := HK.out W1 (Below.refl _ _)
  have HPl : Hid (∀ W, Calls Try.prog 81 #[.int .u64 (s.life : Int)] W fun e w' => ∃ v, e = .returned v ∧ w'.ownsRow W.heap.size 5 1 v (Lib.uvarint s.life).length (u8s (Lib.uvarint s.life)) ∧ Below W.heap.size W w') := Lib.hid fun W => refPut_any s.life W hok.life
  have HPs : Hid (∀ W, Calls Try.prog 81 #[.int .u64 (s.seq : Int)] W fun e w' => ∃ v, e = .returned v ∧ w'.ownsRow W.heap.size 5 1 v (Lib.uvarint s.seq).length (u8s (Lib.uvarint s.seq)) ∧ Below W.heap.size W w') := Lib.hid fun W => refPut_any s.seq W hok.seq
  have hpk : packS s = Lib.uvarint s.life ++ Lib.uvarint s.seq ++ s.body := by simp [packS]
  have HPt : Hid (∀ W A3 n3 c3, n3 = (packS s).length → Rd W W.heap.size A3 n3 (packS s) → Calls Try.prog 82 #[.int .u8 ((kindS s).toNat : Int), .slice A3 n3 c3] W fun e w' => ∃ v, e = .returned (.tuple #[v, .int .i64 0]) ∧ w'.ownsRow W.heap.size 5 1 v (bytesS s).length (u8s (bytesS s)) ∧ Below W.heap.size W w') := by
    refine Lib.hid fun W A3 n3 c3 e3 h3 => ?_
    have hbl : (bytesS s).length = 10 + n3 := by unfold bytesS; rw [putF_len, e3]
    rw [hbl]
    exact refPutF_ok (kindS s) A3 n3 c3 (packS s) W (by omega) h3
  have Hbw : Hid (∀ W, Below W1.heap.size W1 W → Below w.heap.size w W) := Lib.hid fun W hb => below_then hb1 hb
  have HA : Hid (∀ W, Below W1.heap.size W1 W → Rd W W.heap.size A n s.body) := Lib.hid fun W hb => h.up (below_then hb1 hb)
  have HW1 := Lib.hid hW1
  have HR := Lib.hid HR
  have hplen : (packS s).length = (Lib.uvarint s.life).length + (Lib.uvarint s.seq).length + n := by rw [hpk, List.length_append, List.length_append, hl]
  obtain ⟨un, hun⟩ : ∃ un, un = (Lib.uvarint s.life).length := ⟨_, rfl⟩
  obtain ⟨us, hus⟩ : ∃ us, us = (Lib.uvarint s.seq).length := ⟨_, rfl⟩
  rw [← hun] at HPl
  rw [← hus] at HPs
  rw [← hun, ← hus] at hplen
  have Hpk := Lib.hid hpk
  have Hus := Lib.hid hus
  have Hl := Lib.hid hl
  unfold sgV at HR ⊢
  unfold sgA at HW1
  have hkind : kindS s = if s.ack then 4 else 3 := rfl
  generalize u8s (bytesS s) = BS at *
  generalize (bytesS s).length = bn at *
  generalize packS s = PK at *
  generalize Lib.uvarint s.life = UL at *
  generalize Lib.uvarint s.seq = US at *
  obtain ⟨sl, ss, sa, sb⟩ := s
  dsimp only at HPl HPs HK HR HW1 HA Hpk Hl k0 k1 k2 k3 hkind h ⊢
  generalize kindS ⟨sl, ss, sa, sb⟩ = KK at *
  obtain ⟨KI, hKI⟩ : ∃ KI : Int, KI = (KK.toNat : Int) := ⟨_, rfl⟩
  rw [← hKI] at HPt
  have hK2 : (sa = true ∧ KI = 4) ∨ (sa = false ∧ KI = 3) := by
    cases sa with
    | true => exact .inl ⟨rfl, by rw [hKI, hkind]; rfl⟩
    | false => exact .inr ⟨rfl, by rw [hKI, hkind]; rfl⟩
  clear h hb1 hk1 hW1 hpk hun hus hl hok hr hkind hKI
  rcases hK2 with ⟨rfl, rfl⟩ | ⟨rfl, rfl⟩
  all_goals
    go_enter Try.func37, Try.ntmps37
    go_wp2_with fail
    rw [← HW1.out]
    refine HR.out.mono ?_
    rintro e w2 ⟨rfl, hb2⟩
    have Hd2 := Lib.hid hb2
    replace ⟨k0, k1, k2, k3⟩ := HK.out w2 hb2
    clear hb2
    go_wp2_with fail
    refine (HPl.out w2).mono ?_
    rintro e w3 ⟨v3, rfl, ho3, hb3⟩
    have Hd3 := Lib.hid (below_then Hd2.out hb3)
    have Ho3 := Lib.hid ho3
    replace ⟨k0, k1, k2, k3⟩ := HK.out w3 Hd3.out
    have HB23 := Lib.hid hb3
    clear hb3 ho3
    go_wp2_with fail
    refine (HPs.out w3).mono ?_
    rintro e w4 ⟨v4, rfl, ho4, hb4⟩
    obtain ⟨A4, c4, rfl, _, _⟩ := own_shape ho4
    have R4 := Lib.hid (Rd.of_own ho4)
    have O4 := Lib.hid (own_below Ho3.out hb4 fun k hk => (Ho3.out.lt k hk).2)
    have HB24 := Lib.hid (below_then HB23.out hb4)
    have hz4 : w2.heap.size ≤ w4.heap.size := HB24.out.size
    clear hb4 ho4 k0 k1 k2 k3
    go_wp2_with (at_builtin; refine wpList_append_app _ rfl _ _ 32 rfl w2.heap.size 5 i0 (.int .u8 0) 1 1 Try.underlying32 hi0 hz0 hz1 hz2 rfl _ _ _ rfl O4.out A4 us c4 (u8s US) rfl (by rw [u8s_len, Hus.out, Nat.mul_one]) (R4.out.none_zero) R4.out.cells (u8s_one US) (by unfold maxLen; omega) (by omega) hz4 ?_)
    intro v5 w5 ha5
    have hO5 : w5.ownsRow w2.heap.size 5 1 v5 (un + us) (u8s (UL ++ US)) := by rw [u8s_append]; exact ha5.own
    have O5 := Lib.hid hO5
    have HB25 := Lib.hid (ha5.below HB24.out hz4 (own_block_ge O4.out))
    have hz5 : w2.heap.size ≤ w5.heap.size := HB25.out.size
    have Hd5 := Lib.hid (below_then Hd2.out HB25.out)
    replace ⟨k0, k1, k2, k3⟩ := HK.out w5 Hd5.out
    have RA := Lib.hid (HA.out w5 Hd5.out)
    clear ha5 hO5 hz4 O4 R4 HB24
    go_wp2_with (at_builtin; refine wpList_append_app _ rfl _ _ 32 rfl w2.heap.size 5 i0 (.int .u8 0) 1 1 Try.underlying32 hi0 hz0 hz1 hz2 rfl _ _ _ rfl O5.out A n c (u8s sb) rfl (by rw [u8s_len, Hl.out, Nat.mul_one]) (RA.out.none_zero) RA.out.cells (u8s_one sb) (by unfold maxLen; omega) (by omega) hz5 ?_)
    intro v6 w6 ha6
    have hO6 : w6.ownsRow w2.heap.size 5 1 v6 (un + us + n) (u8s PK) := by rw [Hpk.out, u8s_append]; exact ha6.own
    have HB26 := Lib.hid (ha6.below HB25.out hz5 (own_block_ge O5.out))
    have Hd6 := Lib.hid (below_then Hd2.out HB26.out)
    replace ⟨k0, k1, k2, k3⟩ := HK.out w6 Hd6.out
    obtain ⟨A6, c6, rfl, _, _⟩ := own_shape hO6
    have R6 := Lib.hid (Rd.of_own hO6)
    clear ha6 hO6 hz5 O5 RA
    go_wp2_with fail
    refine (HPt.out w6 A6 (un + us + n) c6 hplen.symm R6.out).mono ?_
    rintro e w7 ⟨v, rfl, ho7, hb7⟩
    have HF : Hid (w7.ownsRow w.heap.size 5 1 v bn BS ∧ Below w.heap.size w w7) := Lib.hid ⟨own_mono ho7 (Hbw.out w6 Hd6.out).size, below_then (Hbw.out w6 Hd6.out) hb7⟩
    clear ho7 hb7 k0 k1 k2 k3
    go_wp2
    go_ret2
    exact ⟨v, rfl, HF.out.1, HF.out.2⟩
end Go.Proofs.Ytfghbhjljbdlmaa
