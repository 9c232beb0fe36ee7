/- RlogPlays: for every input law12.RlogPlays answers true: whatever is learned, applied, trimmed and installed, each answer, the slots, the holes, and what another one may catch up with, are what the chapter says. Conditions: none. -/
import Derived.Test.YtnomddhgcdoifaaRlPz
import Derived.Test.YtnomddhgcdoifaaRlPx
import Derived.Test.YtnomddhgcdoifaaRlV
namespace Go.Proofs.Ytnomddhgcdoifaa
open Go.ChangeShapes Go.WideShapes Go.ChangeAt Go.RowKit

set_option maxRecDepth 100000 in
set_option maxHeartbeats 8000000 in
theorem rlogPlays_walk (A : Option Addr) (n c : Nat) (f : Nat → Gl) (from_ : Nat) (most : Int) (w : World) (hc1 : n ≤ c) (hc2 : c ≤ 9223372036854775807) (hA : As12 w w.heap.size A n f) (hf64 : from_ < 18446744073709551616) (_ : -9223372036854775808 ≤ most) (hmost : most ≤ 9223372036854775807) :
    Calls Try.prog 3 #[.slice A n c, .int .u64 (from_ : Int), .int .i64 most] w fun e w' => e = .returned (.bool true) ∧ Below w.heap.size w w' := by
  have HL := Lib.hid (long12_any hA ⟨hc1, hc2⟩)
  have HKn := Lib.hid (fun w => known12_any w)
  have HN := Lib.hid (ol_new w)
  have HAc : Hid (∀ w1, Below w.heap.size w w1 → ∀ k, k < n → ∃ b o, A = some ⟨b, o, none⟩ ∧ w1.cell? ⟨b, o + k * 3, none⟩ = some (.int .i64 (f k).kind) ∧ w1.cell? ⟨b, o + k * 3 + 1, none⟩ = some (.int .u64 ((f k).slot : Int)) ∧ w1.cell? ⟨b, o + k * 3 + 2, none⟩ = some (.slice (f k).A (f k).n (f k).c) ∧ (f k).Ok w w.heap.size) := Lib.hid fun w1 hb k hk => by
    obtain ⟨b, o, e, _, hi⟩ := (hA.below hb) (by omega)
    obtain ⟨q0, q1, q2, q3⟩ := hi k hk
    obtain ⟨_, _, _, _, hi'⟩ := hA (by omega)
    exact ⟨b, o, e, q1, q2, q3, (hi' k hk).1⟩
  obtain ⟨M, hM⟩ : ∃ M : Int, M = min most 200 := ⟨_, rfl⟩
  have HM := Lib.hid hM
  have HF64 := Lib.hid hf64
  have HMo := Lib.hid hmost
  clear hA hM hf64 hmost
  go_enter Try.func3, Try.ntmps3
  go_wp2_with fail
  refine HL.out.mono ?_
  rintro e w1 ⟨lb, rfl, rfl, hlong⟩
  cases lb with
  | true =>
    go_wp2_with fail
    refine (HKn.out _).mono ?_
    rintro e w4 ⟨rfl, hb4⟩
    go_wp2
    go_ret
    exact ⟨rfl, hb4⟩
  | false =>
  have Hlong := Lib.hid (hlong rfl)
  clear hlong HL
  go_wp2_with fail
  refine HN.out.mono ?_
  rintro e w2 ⟨g, F, rfl, HO⟩
  clear HN
  go_upto_region 5 with (fail)
  obtain ⟨w3, hw3⟩ : ∃ w3, w3 = w2.alloc (.cells #[.int .u64 0, .slice none 0 0] 31) := ⟨_, rfl⟩
  obtain ⟨g2, hg2⟩ : ∃ g2, g2 = w2.heap.size := ⟨_, rfl⟩
  have HS0 : Hid (SL w g g2 0 w3) := Lib.hid (by rw [hw3, hg2]; exact SL.first HO.out)
  rw [← hw3, ← hg2]
  clear HO hw3 hg2
  go_wp2_with fail
  go_loopg [9] (min n 120) (fun gk d wr => ∃ i : Nat, d = .int .i64 (i : Int) ∧ i + gk = min n 120 ∧ Hid (SL w g g2 i wr))
  case atStart => exact ⟨0, rfl, by omega, HS0⟩
  case round =>
    obtain ⟨i, rfl, hig, HI⟩ := hrel
    by_cases hin : i < min n 120
    · have m1 : (i : Int) < (n : Int) := by omega
      have m2 : (i : Int) < 120 := by omega
      have m0 : ¬ (i : Int) < 0 := by omega
      have HIN : Hid (i < min n 120 ∧ i + gk = min n 120) := Lib.hid ⟨hin, hig⟩
      have e5 : IntKind.i64.wrap ((i : Int) + 1) = ((i + 1 : Nat) : Int) := by rw [IntKind.wrap_i64]; omega
      obtain ⟨b, o, rfl, a0, a1, a2, hok⟩ := HAc.out wr HI.out.bel i (by omega)
      have HP := Lib.hid (play12_any HI.out (f i) hok (Hlong.out i (by omega) (by omega)))
      generalize (f i).kind = vk at a0 HP
      generalize (f i).slot = vs at a1 HP
      generalize (f i).A = vA at a2 HP
      generalize (f i).n = vn at a2 HP
      generalize (f i).c = vc at a2 HP
      obtain ⟨gko, hgko⟩ : ∃ z, z = gk := ⟨_, rfl⟩
      subst hgko
      clear hok hin hig
      go_wp2_with fail
      refine HP.out.mono ?_
      rintro e wy ⟨rfl, HS⟩
      clear HP a0 a1 a2 HI
      obtain ⟨F2, G2, p, h2, hp⟩ := HS.out
      have HFin : Hid (∀ W', Below wy.heap.size wy W' → SL w g g2 (i + 1) W') := Lib.hid fun W' hb => HS.out.below hb
      have HCa := Lib.hid h2.apP
      have HCc := Lib.hid h2.apD
      have HNp := Lib.hid h2.nxP
      have HNd := Lib.hid (h2.nxD (by have := HIN.out; omega))
      have HTp := Lib.hid h2.tpP
      have HTd := Lib.hid h2.tpD
      have HKp := Lib.hid (h2.caP from_ HF64.out most HMo.out)
      have HKd := Lib.hid (h2.caD from_ HF64.out most HMo.out)
      have HSm := Lib.hid (sameX (w := wy) (L := p.run from_ most.toNat) rfl (h2.run_le _ _))
      have HHp := Lib.hid (h2.hoP M (by have := HM.out; omega))
      have HHd := Lib.hid (h2.hoD M (by have := HM.out; omega))
      obtain ⟨L, hL⟩ : ∃ L, L = p.run from_ most.toNat := ⟨_, rfl⟩
      rw [← hL] at HKp HKd HSm
      obtain ⟨N, hN⟩ : ∃ N, N = L.length := ⟨_, rfl⟩
      rw [← hN] at HKp HKd HSm
      obtain ⟨H, hH⟩ : ∃ H, H = p.hol M.toNat p.top := ⟨_, rfl⟩
      rw [← hH] at HHp HHd
      obtain ⟨K, hK⟩ : ∃ K, K = H.length := ⟨_, rfl⟩
      rw [← hK] at HHp HHd
      have HK5 : Hid (K ≤ 200) := Lib.hid (by
        rw [hK, hH]
        unfold Rl.hol
        rw [List.length_take]
        have := HM.out
        omega)
      generalize p.ap = AP at HCa HCc
      generalize p.next = NX at HNp HNd
      generalize p.top = TP at HTp HTd
      have hcc := HCc.out wy (Below.refl _ _)
      have p1 : ((AP : Int) != (AP : Int)) = false := by simp
      have p2 : ((NX : Int) != (NX : Int)) = false := by simp
      have p3 : ((TP : Int) != (TP : Int)) = false := by simp
      clear HS h2 hp hL hN hH hK
      go_upto_if 76 with (fail)
      go_cut [10, 76] from 40 to 75 (fun r d wx => r = .bool true ∧ d = .bool false ∧ Hid (Below wy.heap.size wy wx))
      case first =>
        go_wp2_with fail
        go_region_held3 (fun W' => W'.cell? ⟨g2, 0, none⟩ = some (.int .u64 (AP : Int)) ∧ Below wy.heap.size wy W') (first | (refine HCc.out _ ?_; (repeat' (first | assumption | exact Below.refl _ _ | exact Nat.le_refl _ | apply Below.drew)); done) | go_keep)
          (first
            | (go_at_call 8; (with_reducible refine (HCa.out _ (by (repeat' (first | assumption | exact Below.refl _ _ | exact Nat.le_refl _ | apply Below.drew | exact bel_drewN (Below.refl _ _) _)))).mono ?_); (rintro e V1 ⟨rfl, hd1⟩); (have hk1 := HCc.out V1 hd1))
            | (go_at_call 9; (with_reducible refine (HNp.out _ (by (repeat' (first | assumption | exact Below.refl _ _ | exact Nat.le_refl _ | apply Below.drew | exact bel_drewN (Below.refl _ _) _)))).mono ?_); (rintro e V2 ⟨rfl, hd2⟩); (have hk2 := HCc.out V2 hd2))
            | (go_at_call 10; (with_reducible refine (HNd.out _ (by (repeat' (first | assumption | exact Below.refl _ _ | exact Nat.le_refl _ | apply Below.drew | exact bel_drewN (Below.refl _ _) _)))).mono ?_); (rintro e V3 ⟨rfl, hd3⟩); (have hk3 := HCc.out V3 hd3))
            | (go_at_call 11; (with_reducible refine (HTp.out _ (by (repeat' (first | assumption | exact Below.refl _ _ | exact Nat.le_refl _ | apply Below.drew | exact bel_drewN (Below.refl _ _) _)))).mono ?_); (rintro e V4 ⟨rfl, hd4⟩); (have hk4 := HCc.out V4 hd4))
            | (go_at_call 12; (with_reducible refine (HTd.out _ (by (repeat' (first | assumption | exact Below.refl _ _ | exact Nat.le_refl _ | apply Below.drew | exact bel_drewN (Below.refl _ _) _)))).mono ?_); (rintro e V5 ⟨rfl, hd5⟩); (have hk5 := HCc.out V5 hd5))
            | (go_at_call 14; (with_reducible refine (HKp.out _ (by (repeat' (first | assumption | exact Below.refl _ _ | exact Nat.le_refl _ | apply Below.drew | exact bel_drewN (Below.refl _ _) _)))).mono ?_); (rintro e V6 ⟨A6, c6, rfl, hd6, hs6, HE6⟩); (have hk6 := HCc.out V6 hd6))
            | (go_at_call 15; (with_reducible refine (HKd.out _ (by (repeat' (first | assumption | exact Below.refl _ _ | exact Nat.le_refl _ | apply Below.drew | exact bel_drewN (Below.refl _ _) _)))).mono ?_); (rintro e V7 ⟨A7, c7, rfl, hd7, hs7, HE7⟩); (have hk7 := HCc.out V7 hd7))
            | (go_at_call 13; (with_reducible refine (HSm.out _ _ _ _ _ (HE6.out _ (by (repeat' (first | assumption | exact bel_undrew1 (by assumption) | exact bel_undrewN1 (by assumption) | exact Below.refl _ _ | exact Nat.le_refl _ | apply Below.drew | exact bel_drewN (Below.refl _ _) _)))) (HE7.out _ (by (repeat' (first | assumption | exact bel_undrew1 (by assumption) | exact bel_undrewN1 (by assumption) | exact Below.refl _ _ | exact Nat.le_refl _ | apply Below.drew | exact bel_drewN (Below.refl _ _) _)))) (by (repeat' (first | assumption | exact Below.refl _ _ | exact Nat.le_refl _ | apply Below.drew | exact bel_drewN (Below.refl _ _) _)))).mono ?_); (rintro e V8 ⟨rfl, hd8⟩); (have hk8 := HCc.out V8 hd8)))
        all_goals
          rename_i hH
          obtain ⟨_, hbW⟩ := hH
          have HBW := Lib.hid hbW
          clear HCa HCc HNp HNd HTp HTd HKp HKd HSm HHp HHd HFin
          go_wp2
          go_meet
          exact ⟨rfl, rfl, HBW⟩
      case rest =>
        obtain ⟨rfl, rfl, HBW⟩ := hcut
        clear HCa HCc HNp HNd HTp HTd HKp HKd HSm p1 p2 p3 hcc
        go_upto_region 13 with (fail)
        go_cut [11] (fun v wx => v = .int .i64 M ∧ wx = wc)
        case first =>
          by_cases k1 : most ≤ 200
          · have E : Hid (M = most) := Lib.hid (by have := HM.out; omega)
            go_wp2_with fail
            go_meet
            exact ⟨by rw [E.out], rfl⟩
          · have E : Hid (M = 200) := Lib.hid (by have := HM.out; omega)
            go_wp2_with fail
            go_meet
            exact ⟨by rw [E.out], rfl⟩
        case rest =>
          obtain ⟨rfl, rfl⟩ := hcut
          have HC5 := Lib.hid (HHp.out _ HBW.out)
          go_wp2_with fail
          refine HC5.out.mono ?_
          clear HC5
          rintro e w5 ⟨A5, c5, rfl, hb5, HX5⟩
          have HB5 := Lib.hid (below_then HBW.out hb5.out)
          have HC6 := Lib.hid (HHd.out _ HB5.out)
          go_wp2_with fail
          refine HC6.out.mono ?_
          clear HC6
          rintro e w6 ⟨A6, c6, rfl, hb6, HX6⟩
          have HB6 := Lib.hid (below_then HB5.out hb6.out)
          have HXc : Hid (∀ k, k < K → ∃ R R2 z, A5 = some ⟨R, 0, none⟩ ∧ A6 = some ⟨R2, 0, none⟩ ∧ w6.cell? ⟨R, k, none⟩ = some (.int .u64 z) ∧ w6.cell? ⟨R2, k, none⟩ = some (.int .u64 z)) := Lib.hid fun k hk => by
            obtain ⟨R, e1, q1⟩ := HX5.out w6 hb6.out k hk
            obtain ⟨R2, e2, q2⟩ := HX6.out w6 (Below.refl _ _) k hk
            exact ⟨R, R2, _, e1, e2, q1, q2⟩
          have eK : ((K : Int) != (K : Int)) = false := by simp
          have hK5 := HK5.out
          clear HHp HHd HX5 HX6 hb5 hb6 HB5 HBW
          go_wp2_with fail
          go_loopg [14] K (fun gk2 d wr2 => ∃ k : Nat, d = .int .i64 (k : Int) ∧ k + gk2 = K ∧ Hid (∃ q, wr2 = w6.drewN q))
          case atStart => exact ⟨0, rfl, by omega, Lib.hid ⟨0, rfl⟩⟩
          case round =>
            obtain ⟨k, rfl, hkg, HQ⟩ := hrel
            obtain ⟨q, rfl⟩ := HQ.out
            by_cases hk : k < K
            · have j1 : (k : Int) < (K : Int) := by omega
              have j0 : ¬ (k : Int) < 0 := by omega
              have e6 : IntKind.i64.wrap ((k : Int) + 1) = ((k + 1 : Nat) : Int) := by rw [IntKind.wrap_i64]; omega
              obtain ⟨R, R2, z, rfl, rfl, q1, q2⟩ := HXc.out k hk
              have ez : (z != z) = false := by simp
              go_wp2_with fail
              go_quiet (fail)
              go_wp2
              go_roundg (gk - 1)
              case measure => omega
              case rel => exact ⟨k + 1, by go_num, by omega, Lib.hid ⟨_, rfl⟩⟩
            · obtain rfl : k = K := by omega
              have j1 : ¬ (k : Int) < (k : Int) := by omega
              have HEnd := Lib.hid (HFin.out _ (bel_drewN HB6.out q))
              clear HXc HFin eK
              go_wp2
              go_roundg (gko - 1)
              case measure => have := HIN.out; omega
              case rel => exact ⟨i + 1, by go_num, by have := HIN.out; omega, HEnd⟩
    · have HK := Lib.hid (HKn.out wr)
      have hcase : (¬ (i : Int) < (n : Int)) ∨ ((i : Int) < (n : Int) ∧ ¬ (i : Int) < 120) := by omega
      clear hin hig
      rcases hcase with m1 | ⟨m1, m4⟩
      all_goals
        go_wp2_with fail
        refine HK.out.mono ?_
        rintro e w5 ⟨rfl, hb⟩
        have HB : Hid (Below w.heap.size w w5) := Lib.hid (below_then HI.out.bel hb)
        clear hb
        go_wp2
        go_ret
        exact ⟨rfl, HB.out⟩

namespace rlogPlays
set_option maxRecDepth 100000 in
theorem lifted (os : Os) (started : os.Started) (H : Type) (enc : TypeId × Value → H) :
    ReturnsInHanded {} Try.checked os 3 .any (Rows.rlogPlaysSpec.pre6 enc Try.prog Try.f3 Rows.rlogPlaysRow.domain false) (Rows.rlogPlaysSpec.post enc Try.prog Try.f3 false true false false) := by
  refine law_lift started (by kernel_rfl) Try.func3
    (ChangeSpec.witness6 (enc := enc) (C := Try.checked) false ⟨#[], #[.slice none 0 0, .int .u64 0, .int .i64 0], []⟩ 8 (by kernel_rfl) (by kernel_rfl) (by kernel_rfl) (by kernel_rfl))
    rfl ?_ (by kernel_rfl) (by kernel_rfl) ?_
  · intro ds h
    match ds, h with
    | [_, _, _], _ => rfl
  intro W base args ds p g
  have hA := g.trod
  have hval := g.val
  rw [Try.params3] at hA hval
  obtain ⟨v0, vs0, d0, ds0, p0, q0, hargs, rfl, rfl, h0, r0⟩ := trodAll_cons hA
  obtain ⟨v1, vs1, d1, ds1, p1, q1, rfl, rfl, rfl, h1, r1⟩ := trodAll_cons r0
  obtain ⟨v2, vs2, d2, ds2, p2, q2, rfl, rfl, rfl, h2, r2⟩ := trodAll_cons r1
  obtain ⟨rfl, rfl, rfl⟩ := trodAll_nil r2
  obtain rfl : args = #[v0, v1, v2] := by cases args; simp_all
  obtain ⟨A0, n0, c0, f0, rfl, hc0, hm0, hr0⟩ := given_as12 (hval 0 22 v0 rfl rfl) h0
  obtain ⟨a1, rfl, _, _, w1⟩ := open_int Try.underlying23 (hval 1 23 v1 rfl rfl) h1
  have b1 := bounds_u64 w1
  obtain ⟨m1, rfl⟩ := Int.eq_ofNat_of_zero_le b1.1
  obtain ⟨a2, rfl, _, _, w2⟩ := open_int Try.underlying3 (hval 2 3 v2 rfl rfl) h2
  have b2 := bounds_i64 w2
  exact rlogPlays_walk A0 n0 c0 f0 m1 a2 W hc0 hm0 hr0 (by omega) b2.1 b2.2

theorem over : Rows.rlogPlaysRow.holds Try.pinned (OpenSpec.ofChange Rows.rlogPlaysSpec) :=
  OpenClaim.holds_of_wide 3 Try.f3 rfl rfl rfl rfl rfl rfl rfl ⟨rfl, rfl, rfl, rfl, rfl⟩ rfl rfl rfl rfl rfl (by kernel_rfl) Try.func3 (by kernel_rfl)
    (of_decide_eq_true (by kernel_rfl)) (by unfold Func.isWrapper; first | (rw [if_pos (by decide +kernel)]; kernel_rfl) | (rw [if_neg (by decide +kernel)]; exact ⟨rfl, rfl⟩))
    (fun os started H enc _ => lifted os started H enc)
end rlogPlays

theorem RlogPlays_proved : Rows.RlogPlaysSaid := rlogPlays.over
#print axioms RlogPlays_proved
end Go.Proofs.Ytnomddhgcdoifaa
