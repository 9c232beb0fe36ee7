/- OnceSaves: a table that was saved and loaded answers all that comes then as the one that was not. -/
import Derived.Test.YtonkohbmknopmaaOnY
import Derived.Test.YtonkohbmknopmaaLaw
import Derived.Test.YtonkohbmknopmaaOnGv
namespace Go.Proofs.Ytonkohbmknopmaa
open Go.ChangeShapes Go.WideShapes Go.ChangeAt Go.RowKit Go.Maps

theorem rem_to (d : Nat) (x : Int) (hd : 0 < d) (hd2 : d < 1000) : ∃ C : Nat, C < d ∧ (IntKind.u64.wrap x).tmod (d : Int) = (C : Int) ∧ IntKind.u64.wrap x % (d : Int) = (C : Int) ∧ IntKind.u64.wrap (C : Int) = (C : Int) ∧ IntKind.i64.wrap (C : Int) = (C : Int) ∧ IntKind.i64.wrap (1 + (C : Int)) = ((1 + C : Nat) : Int) := by
  have h0 : 0 ≤ IntKind.u64.wrap x := by rw [IntKind.wrap_u64]; omega
  obtain ⟨U, hU⟩ := Int.eq_ofNat_of_zero_le h0
  rw [hU]
  have hC := Nat.mod_lt U hd
  refine ⟨U % d, hC, by rw [Int.tmod_eq_emod_of_nonneg (by omega)]; rfl, rfl, by rw [IntKind.wrap_u64]; omega, by rw [IntKind.wrap_i64]; omega, by rw [IntKind.wrap_i64]; omega⟩
set_option maxHeartbeats 8000000 in
set_option maxRecDepth 100000 in
theorem onceSaves_walk (a0 : Int) (A1 : Option Addr) (n1 c1 : Nat) (f1 : Nat → Gl) (A2 : Option Addr) (n2 c2 : Nat) (f2 : Nat → Gl) (W : World) (_h0 : -9223372036854775808 ≤ a0) (_h1 : a0 ≤ 9223372036854775807) (hc1 : n1 ≤ c1) (hm1 : c1 ≤ 9223372036854775807) (hr1 : As13 W W.heap.size A1 n1 f1) (hc2 : n2 ≤ c2) (hm2 : c2 ≤ 9223372036854775807) (hr2 : As13 W W.heap.size A2 n2 f2) :
    Calls Try.prog 7 #[.int .i64 a0, .slice A1 n1 c1, .slice A2 n2 c2] W fun e w' => e = .returned (.bool true) ∧ Below W.heap.size W w' := by
  have HLg1 := Lib.hid (long13_any hr1 ⟨hc1, hm1⟩)
  have HLg2 := Lib.hid (long13_any hr2 ⟨hc2, hm2⟩)
  have HKn := Lib.hid (fun w => known13_any w)
  have HAs : ∀ {A : Option Addr} {n : Nat} {f : Nat → Gl}, As13 W W.heap.size A n f → (∀ w, Below W.heap.size W w → ∀ i, i < n → ∃ b o, A = some ⟨b, o, none⟩ ∧ (f i).Ok W W.heap.size ∧ w.cell? ⟨b, o + i * 4, none⟩ = some (.int .i64 (f i).kind) ∧ w.cell? ⟨b, o + i * 4 + 1, none⟩ = some (.int .u64 ((f i).id : Int)) ∧ w.cell? ⟨b, o + i * 4 + 2, none⟩ = some (.int .u64 ((f i).num : Int)) ∧ w.cell? ⟨b, o + i * 4 + 3, none⟩ = some (.slice (f i).A (f i).n (f i).c)) := fun {A n f} hr w hb i hi => by
    obtain ⟨b, o, e, _, h⟩ := (hr.below hb) (by omega)
    obtain ⟨_, h1, h2, h3, h4⟩ := h i hi
    obtain ⟨_, _, _, _, h'⟩ := hr (by omega)
    exact ⟨b, o, e, (h' i hi).1, h1, h2, h3, h4⟩
  have HA1 := Lib.hid (HAs hr1)
  have HA2 := Lib.hid (HAs hr2)
  obtain ⟨C, hC6, r1, r2, r3, r4, r5⟩ := rem_to 6 a0 (by decide) (by decide)
  have r1' : (IntKind.u64.wrap a0).tmod 6 = (C : Int) := r1
  have r2' : IntKind.u64.wrap a0 % 6 = (C : Int) := r2
  have HNew := Lib.hid (ow_new (1 + C) W (by omega))
  clear hr1 hc1 hm1 hr2 hc2 hm2 HAs r1 r2
  go_enter Try.func7, Try.ntmps7
  go_wp2_with fail
  refine HLg1.out.mono ?_
  clear HLg1
  rintro e w1 ⟨bl, rfl, rfl, hsmall1⟩
  cases bl with
  | true =>
    go_wp2_with fail
    refine (HKn.out _).mono ?_
    rintro e w2 ⟨rfl, hb2⟩
    have HB2 := Lib.hid hb2
    clear hb2
    go_wp2
    go_ret
    exact ⟨rfl, HB2.out⟩
  | false =>
  have HSm1 := Lib.hid (hsmall1 rfl)
  clear hsmall1
  go_wp2_with fail
  refine HLg2.out.mono ?_
  clear HLg2
  rintro e w1 ⟨bl, rfl, rfl, hsmall2⟩
  cases bl with
  | true =>
    go_wp2_with fail
    refine (HKn.out _).mono ?_
    rintro e w2 ⟨rfl, hb2⟩
    have HB2 := Lib.hid hb2
    clear hb2
    go_wp2
    go_ret
    exact ⟨rfl, HB2.out⟩
  | false =>
  have HSm2 := Lib.hid (hsmall2 rfl)
  clear hsmall2
  go_wp2_with fail
  refine HNew.out.mono ?_
  clear HNew
  rintro e w2 ⟨g, F, rfl, HO⟩
  have HS0 : Hid (SvA W g w2) := Lib.hid ⟨F, _, HO.out⟩
  clear HO r1' r2' r3 r4 r5
  obtain ⟨wz, hwz⟩ : ∃ z, z = W := ⟨_, rfl⟩
  go_upto_block 0 with (fail)
  go_cut [9] from 45 (fun _a wx => Hid (SvA wz g wx))
  case first =>
    subst hwz
    go_wp2
    go_loopg [9] n1 (fun gk a wr => ∃ i : Nat, a = .int .i64 (i : Int) ∧ i + gk = n1 ∧ Hid (SvA wz g wr))
    case atStart => exact ⟨0, rfl, by omega, HS0⟩
    case round =>
      obtain ⟨i, rfl, hig, HS⟩ := hrel
      by_cases hlt : i < n1 ∧ i < 80
      · obtain ⟨hin, hi2⟩ := hlt
        have m1 : (i : Int) < (n1 : Int) := by omega
        have m2 : (i : Int) < 80 := by omega
        have m0 : ¬ (i : Int) < 0 := by omega
        have e5 : IntKind.i64.wrap ((i : Int) + 1) = ((i + 1 : Nat) : Int) := by rw [IntKind.wrap_i64]; omega
        obtain ⟨b, o, rfl, hOk, q0, q1, q2, q3⟩ := HA1.out wr HS.out.bel i hin
        have hsm := HSm1.out i hin (by omega)
        obtain ⟨⟨kind, id, num, val, vA, vn, vc⟩, hx⟩ : ∃ x, x = f1 i := ⟨_, rfl⟩
        rw [← hx] at hOk q0 q1 q2 q3 hsm
        obtain ⟨hk64, hid64, hnum64, hcap, hval⟩ := hOk
        dsimp only at q0 q1 q2 q3 hsm hk64 hid64 hnum64 hcap hval
        clear hx
        obtain ⟨wx, hwx⟩ : ∃ wx, wx = wr.alloc (.cells #[.int .i64 kind, .int .u64 (id : Int), .int .u64 (num : Int), .slice vA vn vc] 35) := ⟨_, rfl⟩
        obtain ⟨bx, hbx⟩ : ∃ bx, bx = wr.heap.size := ⟨_, rfl⟩
        have hkx : Bk wx bx 35 #[.int .i64 kind, .int .u64 (id : Int), .int .u64 (num : Int), .slice vA vn vc] := by rw [hwx, hbx]; exact Bk.new wr _ _
        have HBg := Lib.hid (HS.out.begin id num hid64 hnum64 35 #[.int .i64 kind, .int .u64 (id : Int), .int .u64 (num : Int), .slice vA vn vc])
        have HEn := Lib.hid (HS.out.ended id num hid64 vA vn vc val hval ⟨hcap.1, by unfold maxLen; omega⟩ (by omega) 35 #[.int .i64 kind, .int .u64 (id : Int), .int .u64 (num : Int), .slice vA vn vc])
        rw [← hwx] at HBg HEn
        try rw [← hbx] at HBg
        try rw [← hbx] at HEn
        have x0 : wx.cell? ⟨bx, 0, none⟩ = some (.int .i64 kind) := hkx.cell 0
        have x1 : wx.cell? ⟨bx, 1, none⟩ = some (.int .u64 (id : Int)) := hkx.cell 1
        have x2 : wx.cell? ⟨bx, 2, none⟩ = some (.int .u64 (num : Int)) := hkx.cell 2
        have x3 : wx.cell? ⟨bx, 3, none⟩ = some (.slice vA vn vc) := hkx.cell 3
        have HWx := Lib.hid hwx
        have HBx := Lib.hid hbx
        clear hwx hbx hkx hval hcap HS hk64
        go_upto_region 10 with (fail)
        rw [← HWx.out]
        try rw [← HBx.out]
        clear q0 q1 q2 q3
        by_cases hkind : kind ≤ 2
        · clear HEn
          go_wp2_with fail
          refine HBg.out.mono ?_
          clear HBg
          rintro e w5 ⟨v5, rfl, HS5⟩
          clear x0 x1 x2 x3
          go_wp2
          go_roundg (gk - 1)
          case measure => omega
          case rel => exact ⟨i + 1, by go_num, by omega, HS5⟩
        · have hkind' : ¬ kind ≤ 2 := hkind
          clear HBg
          go_wp2_with fail
          refine HEn.out.mono ?_
          clear HEn
          rintro e w5 ⟨v5, rfl, HS5⟩
          clear x0 x1 x2 x3
          go_wp2
          go_roundg (gk - 1)
          case measure => omega
          case rel => exact ⟨i + 1, by go_num, by omega, HS5⟩
      · have hlt' : ¬ i < n1 ∨ (i < n1 ∧ ¬ i < 80) := by omega
        clear hlt
        rcases hlt' with h | ⟨h, h'⟩
        · have m1 : ¬ (i : Int) < (n1 : Int) := by omega
          go_wp2_with fail
          go_meet
          exact HS
        · have m1 : (i : Int) < (n1 : Int) := by omega
          have m2 : ¬ (i : Int) < 80 := by omega
          go_wp2_with fail
          go_meet
          exact HS
  case rest =>
  have HSv := Lib.hid hcut.out.saves
  clear hcut HS0 HA1 HSm1
  subst hwz
  go_wp2_with fail
  refine HSv.out.mono ?_
  clear HSv
  rintro e w3 ⟨A3, m3, c3, rfl, HLd⟩
  go_wp2_with fail
  refine HLd.out.mono ?_
  clear HLd
  rintro e w4 ⟨g2, rfl, HS4⟩
  go_wp2_with fail
  go_loopg [13] n2 (fun gk a wr => ∃ i : Nat, a = .int .i64 (i : Int) ∧ i + gk = n2 ∧ Hid (SvB wz g g2 wr))
  case atStart => exact ⟨0, rfl, by omega, HS4⟩
  case round =>
    obtain ⟨i, rfl, hig, HS⟩ := hrel
    by_cases hlt : i < n2 ∧ i < 80
    · obtain ⟨hin, hi2⟩ := hlt
      have m1 : (i : Int) < (n2 : Int) := by omega
      have m2 : (i : Int) < 80 := by omega
      have m0 : ¬ (i : Int) < 0 := by omega
      have e5 : IntKind.i64.wrap ((i : Int) + 1) = ((i + 1 : Nat) : Int) := by rw [IntKind.wrap_i64]; omega
      obtain ⟨b, o, rfl, hOk, q0, q1, q2, q3⟩ := HA2.out wr HS.out.bel i hin
      have hsm := HSm2.out i hin (by omega)
      obtain ⟨⟨kind, id, num, val, vA, vn, vc⟩, hx⟩ : ∃ x, x = f2 i := ⟨_, rfl⟩
      rw [← hx] at hOk q0 q1 q2 q3 hsm
      obtain ⟨hk64, hid64, hnum64, hcap, hval⟩ := hOk
      dsimp only at q0 q1 q2 q3 hsm hk64 hid64 hnum64 hcap hval
      clear hx
      obtain ⟨wx, hwx⟩ : ∃ wx, wx = wr.alloc (.cells #[.int .i64 kind, .int .u64 (id : Int), .int .u64 (num : Int), .slice vA vn vc] 35) := ⟨_, rfl⟩
      obtain ⟨bx, hbx⟩ : ∃ bx, bx = wr.heap.size := ⟨_, rfl⟩
      have hkx : Bk wx bx 35 #[.int .i64 kind, .int .u64 (id : Int), .int .u64 (num : Int), .slice vA vn vc] := by rw [hwx, hbx]; exact Bk.new wr _ _
      have HBg := Lib.hid (HS.out.begin id num hid64 hnum64 35 #[.int .i64 kind, .int .u64 (id : Int), .int .u64 (num : Int), .slice vA vn vc])
      have HEn := Lib.hid (HS.out.ended id num hid64 vA vn vc val hval ⟨hcap.1, by unfold maxLen; omega⟩ (by omega) 35 #[.int .i64 kind, .int .u64 (id : Int), .int .u64 (num : Int), .slice vA vn vc])
      rw [← hwx] at HBg HEn
      try rw [← hbx] at HBg
      try rw [← hbx] at HEn
      have x0 : wx.cell? ⟨bx, 0, none⟩ = some (.int .i64 kind) := hkx.cell 0
      have x1 : wx.cell? ⟨bx, 1, none⟩ = some (.int .u64 (id : Int)) := hkx.cell 1
      have x2 : wx.cell? ⟨bx, 2, none⟩ = some (.int .u64 (num : Int)) := hkx.cell 2
      have x3 : wx.cell? ⟨bx, 3, none⟩ = some (.slice vA vn vc) := hkx.cell 3
      have HWx := Lib.hid hwx
      have HBx := Lib.hid hbx
      clear hwx hbx hkx hval hcap HS hk64
      go_upto_region 20 with (fail)
      rw [← HWx.out]
      try rw [← HBx.out]
      clear q0 q1 q2 q3
      by_cases hkind : kind ≤ 2
      · clear HEn
        go_wp2_with fail
        refine HBg.out.mono ?_
        clear HBg
        rintro e w5 ⟨A5, c5, k5, er5, m5, rfl, HK5, HP5⟩
        clear x0 x1 x2 x3
        have y1 : w5.cell? ⟨bx, 1, none⟩ = some (.int .u64 (id : Int)) := HK5.out.cell 1
        have y2 : w5.cell? ⟨bx, 2, none⟩ = some (.int .u64 (num : Int)) := HK5.out.cell 2
        go_wp2_with fail
        refine HP5.out.mono ?_
        clear HP5
        rintro e w6 ⟨A6, c6, rfl, HX6⟩
        obtain ⟨hS6, l6, hra, hrb⟩ := HX6.out
        have HS6 := Lib.hid hS6
        have HSm : Hid (Calls Try.prog 15 #[.slice A5 m5 c5, .slice A6 m5 c6] w6 fun e w' => e = .returned (.bool true) ∧ w' = w6) := Lib.hid (by
          refine (same_any A5 A6 m5 m5 c5 c6 _ _ l6 l6 w6 hra hrb).mono ?_
          rintro e w' ⟨rfl, rfl⟩
          exact ⟨by simp, rfl⟩)
        clear HX6 hS6 hra hrb y1 y2 HK5
        go_wp2_with (go_at_call 15; refine HSm.out.mono ?_; rintro e w' ⟨rfl, rfl⟩)
        go_wp2
        go_roundg (gk - 1)
        case measure => omega
        case rel => exact ⟨i + 1, by go_num, by omega, HS6⟩
      · have hkind' : ¬ kind ≤ 2 := hkind
        clear HBg
        go_wp2_with fail
        refine HEn.out.mono ?_
        clear HEn
        rintro e w5 ⟨er5, rfl, HK5, HP5⟩
        clear x0 x1 x2 x3
        have y1 : w5.cell? ⟨bx, 1, none⟩ = some (.int .u64 (id : Int)) := HK5.out.cell 1
        have y2 : w5.cell? ⟨bx, 2, none⟩ = some (.int .u64 (num : Int)) := HK5.out.cell 2
        have y3 : w5.cell? ⟨bx, 3, none⟩ = some (.slice vA vn vc) := HK5.out.cell 3
        go_wp2_with fail
        refine HP5.out.mono ?_
        clear HP5
        rintro e w6 ⟨rfl, HS6⟩
        clear y1 y2 y3 HK5
        go_wp2
        go_roundg (gk - 1)
        case measure => omega
        case rel => exact ⟨i + 1, by go_num, by omega, HS6⟩
    · have hlt' : ¬ i < n2 ∨ (i < n2 ∧ ¬ i < 80) := by omega
      clear hlt
      have HSq := Lib.hid HS.out.saves
      clear HS
      rcases hlt' with h | ⟨h, h'⟩
      · have m1 : ¬ (i : Int) < (n2 : Int) := by omega
        go_wp2_with fail
        refine HSq.out.mono ?_
        clear HSq
        rintro e w7 ⟨A7, m7, c7, rfl, HP7⟩
        go_wp2_with fail
        refine HP7.out.mono ?_
        clear HP7
        rintro e w8 ⟨A8, c8, rfl, HX8⟩
        obtain ⟨hb8, l8, hra, hrb⟩ := HX8.out
        have HB8 := Lib.hid hb8
        have HSm : Hid (Calls Try.prog 15 #[.slice A7 m7 c7, .slice A8 m7 c8] w8 fun e w' => e = .returned (.bool true) ∧ w' = w8) := Lib.hid (by
          refine (same_any A7 A8 m7 m7 c7 c8 _ _ l8 l8 w8 hra hrb).mono ?_
          rintro e w' ⟨rfl, rfl⟩
          exact ⟨by simp, rfl⟩)
        clear HX8 hb8 hra hrb
        go_wp2_with (go_at_call 15; refine HSm.out.mono ?_; rintro e w' ⟨rfl, rfl⟩)
        refine (HKn.out _).mono ?_
        rintro e wq ⟨rfl, hb4⟩
        have HB4 := Lib.hid (below_then HB8.out hb4)
        clear hb4
        go_wp2
        go_ret
        exact ⟨rfl, HB4.out⟩
      · have m1 : (i : Int) < (n2 : Int) := by omega
        have m2 : ¬ (i : Int) < 80 := by omega
        go_wp2_with fail
        refine HSq.out.mono ?_
        clear HSq
        rintro e w7 ⟨A7, m7, c7, rfl, HP7⟩
        go_wp2_with fail
        refine HP7.out.mono ?_
        clear HP7
        rintro e w8 ⟨A8, c8, rfl, HX8⟩
        obtain ⟨hb8, l8, hra, hrb⟩ := HX8.out
        have HB8 := Lib.hid hb8
        have HSm : Hid (Calls Try.prog 15 #[.slice A7 m7 c7, .slice A8 m7 c8] w8 fun e w' => e = .returned (.bool true) ∧ w' = w8) := Lib.hid (by
          refine (same_any A7 A8 m7 m7 c7 c8 _ _ l8 l8 w8 hra hrb).mono ?_
          rintro e w' ⟨rfl, rfl⟩
          exact ⟨by simp, rfl⟩)
        clear HX8 hb8 hra hrb
        go_wp2_with (go_at_call 15; refine HSm.out.mono ?_; rintro e w' ⟨rfl, rfl⟩)
        refine (HKn.out _).mono ?_
        rintro e wq ⟨rfl, hb4⟩
        have HB4 := Lib.hid (below_then HB8.out hb4)
        clear hb4
        go_wp2
        go_ret
        exact ⟨rfl, HB4.out⟩
namespace onceSaves
set_option maxRecDepth 100000 in
theorem lifted (os : Os) (started : os.Started) (H : Type) (enc : TypeId × Value → H) :
    ReturnsInHanded {} Try.checked os 7 .any (Rows.onceSavesSpec.pre6 enc Try.prog Try.f7 Rows.onceSavesRow.domain false) (Rows.onceSavesSpec.post enc Try.prog Try.f7 false true false false) := by
  refine law_lift started (by kernel_rfl) Try.func7
    (ChangeSpec.witness6 (enc := enc) (C := Try.checked) false ⟨#[], #[.int .i64 0, .slice none 0 0, .slice none 0 0], []⟩ 8 (by kernel_rfl) (by kernel_rfl) (by kernel_rfl) (by kernel_rfl))
    rfl ?_ (by kernel_rfl) (by kernel_rfl) ?_
  · intro ds h
    match ds, h with
    | [_, _, _], _ => rfl
  intro W base args ds p g
  have hA := g.trod
  have hval := g.val
  rw [Try.params7] at hA hval
  obtain ⟨v0, vs0, d0, ds0, p0, q0, hargs, rfl, rfl, h0, r0⟩ := trodAll_cons hA
  obtain ⟨v1, vs1, d1, ds1, p1, q1, rfl, rfl, rfl, h1, r1⟩ := trodAll_cons r0
  obtain ⟨v2, vs2, d2, ds2, p2, q2, rfl, rfl, rfl, h2, r2⟩ := trodAll_cons r1
  obtain ⟨rfl, rfl, rfl⟩ := trodAll_nil r2
  obtain rfl : args = #[v0, v1, v2] := by cases args; simp_all
  obtain ⟨a0, rfl, _, _, w0⟩ := open_int Try.underlying3 (hval 0 3 v0 rfl rfl) h0
  have b0 := bounds_i64 w0
  obtain ⟨A1, n1, c1, f1, rfl, hc1, hm1, hr1⟩ := given_as13 (hval 1 22 v1 rfl rfl) h1
  obtain ⟨A2, n2, c2, f2, rfl, hc2, hm2, hr2⟩ := given_as13 (hval 2 22 v2 rfl rfl) h2
  exact onceSaves_walk a0 A1 n1 c1 f1 A2 n2 c2 f2 W b0.1 b0.2 hc1 hm1 hr1 hc2 hm2 hr2

theorem over : Rows.onceSavesRow.holds Try.pinned (OpenSpec.ofChange Rows.onceSavesSpec) :=
  OpenClaim.holds_of_wide 7 Try.f7 rfl rfl rfl rfl rfl rfl rfl ⟨rfl, rfl, rfl, rfl, rfl⟩ rfl rfl rfl rfl rfl (by kernel_rfl) Try.func7 (by kernel_rfl)
    (of_decide_eq_true (by kernel_rfl)) (by unfold Func.isWrapper; first | (rw [if_pos (by decide +kernel)]; kernel_rfl) | (rw [if_neg (by decide +kernel)]; exact ⟨rfl, rfl⟩))
    (fun os started H enc _ => lifted os started H enc)
end onceSaves

theorem OnceSaves_proved : Rows.OnceSavesSaid := onceSaves.over
#print axioms OnceSaves_proved
end Go.Proofs.Ytonkohbmknopmaa
