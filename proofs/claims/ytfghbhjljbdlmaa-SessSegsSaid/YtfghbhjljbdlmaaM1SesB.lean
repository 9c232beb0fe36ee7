/- Of the proofs of layer 4, merged: SesB. -/
import Derived.Test.YtfghbhjljbdlmaaM1SesR
import Derived.Test.YtfghbhjljbdlmaaM1FrameGet
import Derived.Test.YtfghbhjljbdlmaaMRefFramePut

/- The program's segments as bytes: Bytes. -/
namespace Go.Proofs.Ytfghbhjljbdlmaa
open Go.RowKit Go.Maps

def kindS (s : Sg) : UInt8 := if s.ack then 4 else 3
def packS (s : Sg) : List UInt8 := Lib.uvarint s.life ++ (Lib.uvarint s.seq ++ s.body)
def bytesS (s : Sg) : List UInt8 := putF (kindS s, packS s)
theorem packS_len {s : Sg} (h : s.Ok) (hr : s.right = true) : (packS s).length ≤ 1020 := by
  have h1 := Lib.uvarint_length64 h.life
  have h2 := Lib.uvarint_length64 h.seq
  have h3 : s.body.length ≤ 1000 := by
    unfold Sg.right at hr
    split at hr
    · simp at hr; rw [hr]; simp
    · simp at hr; exact hr.2
  unfold packS
  simp only [List.length_append]
  omega

set_option maxRecDepth 100000 in
set_option maxHeartbeats 1000000 in
theorem sbytes_ok (s : Sg) (hok : s.Ok) (hr : s.right = true) (A : Option Addr) (n c : Nat) (w : World) (hc : n ≤ c) (hm : c ≤ 9223372036854775807) (h : Rd w w.heap.size A n s.body) :
    Calls Try.prog 36 #[sgV s (.slice A n c)] w fun e w' => ∃ v, e = .returned (.tuple #[v, .int .i64 0]) ∧ w'.ownsRow w.heap.size 5 1 v (bytesS s).length (u8s (bytesS s)) ∧ Below w.heap.size w w' := by
  have hpl := packS_len hok hr
  have hl := h.1
  obtain ⟨W1, hW1⟩ : ∃ W1, W1 = w.alloc (.cells (sgA s (.slice A n c)) 60) := ⟨_, rfl⟩
  have hb1 : Below w.heap.size w W1 := by rw [hW1]; exact (Below.refl _ _).alloc (Nat.le_refl _) _
  have hk1 : Bk W1 w.heap.size 60 (sgA s (.slice A n c)) := by rw [hW1]; exact Bk.new w 60 _
  have HR := right_any s A n c W1 hl
  rw [hr] at HR
  have HK : Hid (∀ W, Below W1.heap.size W1 W → W.cell? ⟨w.heap.size, 0, none⟩ = some (.int .u64 (s.life : Int)) ∧ W.cell? ⟨w.heap.size, 1, none⟩ = some (.int .u64 (s.seq : Int)) ∧ W.cell? ⟨w.heap.size, 2, none⟩ = some (.bool s.ack) ∧ W.cell? ⟨w.heap.size, 3, none⟩ = some (.slice A n c)) := Lib.hid fun W hb =>
    ⟨(hk1.below hb hk1.lt).cell 0, (hk1.below hb hk1.lt).cell 1, (hk1.below hb hk1.lt).cell 2, (hk1.below hb hk1.lt).cell 3⟩
  obtain ⟨k0, k1, k2, k3⟩ := HK.out W1 (Below.refl _ _)
  have HPl : Hid (∀ W, Calls Try.prog 79 #[.int .u64 (s.life : Int)] W fun e w' => ∃ A1 c1, e = .returned (.slice A1 (Lib.uvarint s.life).length c1) ∧ (Lib.uvarint s.life).length ≤ c1 ∧ c1 ≤ 9223372036854775807 ∧ Rd w' w'.heap.size A1 (Lib.uvarint s.life).length (Lib.uvarint s.life) ∧ Below W.heap.size W w') := Lib.hid fun W => by
    refine (binPut_any s.life W hok.life).mono ?_
    rintro e w' ⟨v, rfl, ho, hb⟩
    obtain ⟨A1, c1, rfl, h1, h2⟩ := own_shape ho
    exact ⟨A1, c1, rfl, h1, by unfold maxLen at h2; omega, Rd.of_own ho, hb⟩
  have HPs : Hid (∀ W, Calls Try.prog 79 #[.int .u64 (s.seq : Int)] W fun e w' => ∃ A1 c1, e = .returned (.slice A1 (Lib.uvarint s.seq).length c1) ∧ (Lib.uvarint s.seq).length ≤ c1 ∧ c1 ≤ 9223372036854775807 ∧ Rd w' w'.heap.size A1 (Lib.uvarint s.seq).length (Lib.uvarint s.seq) ∧ Below W.heap.size W w') := Lib.hid fun W => by
    refine (binPut_any s.seq W hok.seq).mono ?_
    rintro e w' ⟨v, rfl, ho, hb⟩
    obtain ⟨A1, c1, rfl, h1, h2⟩ := own_shape ho
    exact ⟨A1, c1, rfl, h1, by unfold maxLen at h2; omega, Rd.of_own ho, hb⟩
  have hpk : packS s = [Lib.uvarint s.life, Lib.uvarint s.seq, s.body].flatten := by simp [packS]
  have HCc : Hid (∀ W A1 n1 c1 A2 n2 c2, n1 ≤ c1 → c1 ≤ 9223372036854775807 → Rd W W.heap.size A1 n1 (Lib.uvarint s.life) → n2 ≤ c2 → c2 ≤ 9223372036854775807 → Rd W W.heap.size A2 n2 (Lib.uvarint s.seq) → Below W1.heap.size W1 W →
      Calls Try.prog 78 #[.slice (some ⟨W.heap.size, 0, none⟩) 3 3] (W.alloc (.cells #[.slice A1 n1 c1, .slice A2 n2 c2, .slice A n c] 32)) fun e w' => ∃ A3 c3, e = .returned (.slice A3 (packS s).length c3) ∧ (packS s).length ≤ c3 ∧ c3 ≤ 9223372036854775807 ∧ Rd w' w'.heap.size A3 (packS s).length (packS s) ∧ Below W.heap.size W w') := by
    refine Lib.hid fun W A1 n1 c1 A2 n2 c2 a1 a2 a3 b1 b2 b3 hb => ?_
    have hbw := below_then hb1 hb
    have hp := Parts.lit (w := W) (t := 32) (k := 3) (g := W.heap.size) [(A1, n1, c1), (A2, n2, c2), (A, n, c)] [Lib.uvarint s.life, Lib.uvarint s.seq, s.body] rfl rfl rfl rfl (by
      intro i hi1 hi2
      match i, hi1 with
      | 0, _ => exact ⟨a1, a2, a3⟩
      | 1, _ => exact ⟨b1, b2, b3⟩
      | 2, _ => exact ⟨hc, hm, h.up hbw⟩)
    have hba : Below W.heap.size W (W.alloc (.cells #[.slice A1 n1 c1, .slice A2 n2 c2, .slice A n c] 32)) := (Below.refl _ _).alloc (Nat.le_refl _) _
    refine (concat_any _ 3 3 _ _ (by omega) (by rw [← hpk]; omega) (by rw [show (W.alloc (.cells #[.slice A1 n1 c1, .slice A2 n2 c2, .slice A n c] 32)).heap.size = W.heap.size + 1 by simp]; exact hp)).mono ?_
    rintro e w' ⟨v, rfl, ho, hb2⟩
    rw [← hpk] at ho
    obtain ⟨A3, c3, rfl, h1, h2⟩ := own_shape ho
    exact ⟨A3, c3, rfl, h1, by unfold maxLen at h2; omega, Rd.of_own ho, below_then hba hb2⟩
  have HPt : Hid (∀ W A3 n3 c3, n3 = (packS s).length → n3 ≤ c3 → c3 ≤ 9223372036854775807 → Rd W W.heap.size A3 n3 (packS s) → Calls Try.prog 77 #[.int .u8 ((kindS s).toNat : Int), .slice A3 n3 c3] W fun e w' => ∃ v, e = .returned (.tuple #[v, .int .i64 0]) ∧ w'.ownsRow W.heap.size 5 1 v (bytesS s).length (u8s (bytesS s)) ∧ Below W.heap.size W w') := by
    refine Lib.hid fun W A3 n3 c3 e3 h1 h2 h3 => ?_
    have hbl : (bytesS s).length = 10 + n3 := by unfold bytesS; rw [putF_len, e3]
    rw [hbl]
    exact framePut_ok (kindS s) A3 n3 c3 (packS s) W (by omega) h1 h2 h3
  have Hbw : Hid (∀ W, Below W1.heap.size W1 W → Below w.heap.size w W) := Lib.hid fun W hb => below_then hb1 hb
  have HW1 := Lib.hid hW1
  have HR := Lib.hid HR
  obtain ⟨pn, hpn⟩ : ∃ pn, pn = (packS s).length := ⟨_, rfl⟩
  have Hpn := Lib.hid hpn
  rw [← hpn] at HCc
  obtain ⟨un, hun⟩ : ∃ un, un = (Lib.uvarint s.life).length := ⟨_, rfl⟩
  obtain ⟨us, hus⟩ : ∃ us, us = (Lib.uvarint s.seq).length := ⟨_, rfl⟩
  rw [← hun] at HPl
  rw [← hus] at HPs
  unfold sgV at HR ⊢
  unfold sgA at HW1
  have hkind : kindS s = if s.ack then 4 else 3 := rfl
  have hbd : ∃ B, B = u8s (bytesS s) := ⟨_, rfl⟩
  obtain ⟨BS, hBS⟩ := hbd
  rw [← hBS] at HPt ⊢
  obtain ⟨bn, hbn⟩ : ∃ bn, bn = (bytesS s).length := ⟨_, rfl⟩
  rw [← hbn] at HPt ⊢
  generalize packS s = PK at *
  generalize Lib.uvarint s.life = UL at *
  generalize Lib.uvarint s.seq = US at *
  clear hBS hbn
  obtain ⟨sl, ss, sa, sb⟩ := s
  dsimp only at HPl HPs HK HR HW1 k0 k1 k2 k3 hkind h ⊢
  generalize hkk : kindS ⟨sl, ss, sa, sb⟩ = KK at *
  clear h hb1 hk1 hW1 hpk hpl hpn hun hus hl hkk hok hr
  cases ha : sa with
  | false =>
    rw [ha] at HR HW1 HK k2 hkind
    have hki : (KK.toNat : Int) = 3 := by rw [hkind]; rfl
    rw [hki] at HPt
    clear hkind hki ha
    go_enter Try.func36, Try.ntmps36
    go_wp2_with fail
    rw [← HW1.out]
    refine HR.out.mono ?_
    rintro e w2 ⟨rfl, hb2⟩
    have hd2 := hb2
    obtain ⟨y0, y1, y2, y3⟩ := HK.out w2 hb2
    clear hb2 k0 k1 k2 k3
    go_wp2_with fail
    go_region_held3 (fun w' => w'.cell? ⟨w.heap.size, 0, none⟩ = some (.int .u64 (sl : Int)) ∧ w'.cell? ⟨w.heap.size, 1, none⟩ = some (.int .u64 (ss : Int)) ∧ w'.cell? ⟨w.heap.size, 3, none⟩ = some (.slice A n c)) (first | exact ⟨y0, y1, y3⟩ | exact ⟨p0, p1, p3⟩ | exact ⟨q0, q1, q3⟩ | exact ⟨r0, r1, r3⟩ | exact ⟨s0, s1, s3⟩ | go_keep)
      (first
        | (go_at_call 79; (with_reducible refine (HPl.out _).mono ?_); rintro e w3 ⟨A1, c1, rfl, a1, a2, a3, hb3⟩; (have hd3 : Below W1.heap.size W1 w3 := below_then (by (repeat' (first | assumption | exact Below.refl _ _ | apply Below.drew))) hb3); (obtain ⟨p0, p1, _, p3⟩ := HK.out w3 hd3))
        | (go_at_call 79; (with_reducible refine (HPs.out _).mono ?_); rintro e w4 ⟨A2, c2, rfl, b1, b2, b3, hb4⟩; (have hd4 : Below W1.heap.size W1 w4 := below_then (by (repeat' (first | assumption | exact Below.refl _ _ | apply Below.drew))) hb4); (obtain ⟨q0, q1, _, q3⟩ := HK.out w4 hd4))
        | (go_at_call 78; (first | (with_reducible refine (HCc.out w4 A1 un c1 A2 us c2 a1 a2 (a3.up hb4) b1 b2 b3 hd4).mono ?_) | (with_reducible refine (HCc.out w3 A1 un c1 A2 us c2 a1 a2 a3 b1 b2 (b3.up hb3) hd3).mono ?_)); rintro e w5 ⟨A3, c3, rfl, d1, d2, d3, hb5⟩; (have hd5 : Below W1.heap.size W1 w5 := by first | exact below_then hd4 hb5 | exact below_then hd3 hb5); (obtain ⟨r0, r1, _, r3⟩ := HK.out w5 hd5))
        | (go_at_call 77; (with_reducible refine (HPt.out w5 A3 pn c3 Hpn.out d1 d2 d3).mono ?_); rintro e w6 ⟨v, rfl, ho, hb6⟩; (have hd6 : Below W1.heap.size W1 w6 := below_then hd5 hb6); (obtain ⟨s0, s1, _, s3⟩ := HK.out w6 hd6)))
    all_goals
      have HF : Hid (w6.ownsRow w.heap.size 5 1 v bn BS ∧ Below w.heap.size w w6) := Lib.hid ⟨own_mono ho (by have := (Hbw.out w5 hd5).size; exact this), Hbw.out w6 hd6⟩
      clear p0 p1 p3 q0 q1 q3 r0 r1 r3 s0 s1 s3 y0 y1 y2 y3 ho hb6 hd6
      go_wp2
      go_ret2
      exact ⟨v, rfl, HF.out.1, HF.out.2⟩
  | true =>
    rw [ha] at HR HW1 HK k2 hkind
    have hki : (KK.toNat : Int) = 4 := by rw [hkind]; rfl
    rw [hki] at HPt
    clear hkind hki ha
    go_enter Try.func36, Try.ntmps36
    go_wp2_with fail
    rw [← HW1.out]
    refine HR.out.mono ?_
    rintro e w2 ⟨rfl, hb2⟩
    have hd2 := hb2
    obtain ⟨y0, y1, y2, y3⟩ := HK.out w2 hb2
    clear hb2 k0 k1 k2 k3
    go_wp2_with fail
    go_region_held3 (fun w' => w'.cell? ⟨w.heap.size, 0, none⟩ = some (.int .u64 (sl : Int)) ∧ w'.cell? ⟨w.heap.size, 1, none⟩ = some (.int .u64 (ss : Int)) ∧ w'.cell? ⟨w.heap.size, 3, none⟩ = some (.slice A n c)) (first | exact ⟨y0, y1, y3⟩ | exact ⟨p0, p1, p3⟩ | exact ⟨q0, q1, q3⟩ | exact ⟨r0, r1, r3⟩ | exact ⟨s0, s1, s3⟩ | go_keep)
      (first
        | (go_at_call 79; (with_reducible refine (HPl.out _).mono ?_); rintro e w3 ⟨A1, c1, rfl, a1, a2, a3, hb3⟩; (have hd3 : Below W1.heap.size W1 w3 := below_then (by (repeat' (first | assumption | exact Below.refl _ _ | apply Below.drew))) hb3); (obtain ⟨p0, p1, _, p3⟩ := HK.out w3 hd3))
        | (go_at_call 79; (with_reducible refine (HPs.out _).mono ?_); rintro e w4 ⟨A2, c2, rfl, b1, b2, b3, hb4⟩; (have hd4 : Below W1.heap.size W1 w4 := below_then (by (repeat' (first | assumption | exact Below.refl _ _ | apply Below.drew))) hb4); (obtain ⟨q0, q1, _, q3⟩ := HK.out w4 hd4))
        | (go_at_call 78; (first | (with_reducible refine (HCc.out w4 A1 un c1 A2 us c2 a1 a2 (a3.up hb4) b1 b2 b3 hd4).mono ?_) | (with_reducible refine (HCc.out w3 A1 un c1 A2 us c2 a1 a2 a3 b1 b2 (b3.up hb3) hd3).mono ?_)); rintro e w5 ⟨A3, c3, rfl, d1, d2, d3, hb5⟩; (have hd5 : Below W1.heap.size W1 w5 := by first | exact below_then hd4 hb5 | exact below_then hd3 hb5); (obtain ⟨r0, r1, _, r3⟩ := HK.out w5 hd5))
        | (go_at_call 77; (with_reducible refine (HPt.out w5 A3 pn c3 Hpn.out d1 d2 d3).mono ?_); rintro e w6 ⟨v, rfl, ho, hb6⟩; (have hd6 : Below W1.heap.size W1 w6 := below_then hd5 hb6); (obtain ⟨s0, s1, _, s3⟩ := HK.out w6 hd6)))
    all_goals
      have HF : Hid (w6.ownsRow w.heap.size 5 1 v bn BS ∧ Below w.heap.size w w6) := Lib.hid ⟨own_mono ho (by have := (Hbw.out w5 hd5).size; exact this), Hbw.out w6 hd6⟩
      clear p0 p1 p3 q0 q1 q3 r0 r1 r3 s0 s1 s3 y0 y1 y2 y3 ho hb6 hd6
      go_wp2
      go_ret2
      exact ⟨v, rfl, HF.out.1, HF.out.2⟩
end Go.Proofs.Ytfghbhjljbdlmaa
