/- OnceSame: a request that was answered is answered the same as long as its client is remembered with it; numbers never fall. -/
import Derived.Test.YtonkohbmknopmaaOnX
import Derived.Test.YtonkohbmknopmaaLaw
namespace Go.Proofs.Ytonkohbmknopmaa
open Go.ChangeShapes Go.WideShapes Go.ChangeAt Go.RowKit Go.Maps

set_option maxHeartbeats 8000000 in
set_option maxRecDepth 100000 in
theorem onceSame_walk (A0 : Option Addr) (n0 c0 : Nat) (f0 : Nat → Gl) (W : World) (hc0 : n0 ≤ c0) (hm0 : c0 ≤ 9223372036854775807) (hr0 : As13 W W.heap.size A0 n0 f0) :
    Calls Try.prog 5 #[.slice A0 n0 c0] W fun e w' => e = .returned (.bool true) ∧ Below W.heap.size W w' := by
  have HLg := Lib.hid (long13_any hr0 ⟨hc0, hm0⟩)
  have HKn := Lib.hid (fun w => known13_any w)
  have HAs : Hid (∀ w, Below W.heap.size W w → ∀ i, i < n0 → ∃ b o, A0 = some ⟨b, o, none⟩ ∧ (f0 i).Ok w W.heap.size ∧ w.cell? ⟨b, o + i * 4, none⟩ = some (.int .i64 (f0 i).kind) ∧ w.cell? ⟨b, o + i * 4 + 1, none⟩ = some (.int .u64 ((f0 i).id : Int)) ∧ w.cell? ⟨b, o + i * 4 + 2, none⟩ = some (.int .u64 ((f0 i).num : Int)) ∧ w.cell? ⟨b, o + i * 4 + 3, none⟩ = some (.slice (f0 i).A (f0 i).n (f0 i).c)) := Lib.hid fun w hb i hi => by
    obtain ⟨b, o, e, _, h⟩ := (hr0.below hb) (by omega)
    obtain ⟨h0, h1, h2, h3, h4⟩ := h i hi
    exact ⟨b, o, e, h0, h1, h2, h3, h4⟩
  have HNew := Lib.hid (ow_new 64 W (by decide))
  clear hr0 hc0 hm0
  go_enter Try.func5, Try.ntmps5
  go_wp2_with fail
  refine HLg.out.mono ?_
  clear HLg
  rintro e w1 ⟨bl, rfl, rfl, hsmall⟩
  cases bl with
  | true =>
    go_wp2_with fail
    refine (HKn.out _).mono ?_
    rintro e w2 ⟨rfl, hb2⟩
    have HB2 := Lib.hid hb2
    clear hb2
    go_wp2
    go_ret
    exact ⟨rfl, HB2.out⟩
  | false =>
  have HSm := Lib.hid (hsmall rfl)
  clear hsmall
  go_wp2_with fail
  refine HNew.out.mono ?_
  clear HNew
  rintro e w2 ⟨g, F, rfl, HO⟩
  obtain ⟨wa, hwa⟩ : ∃ wa, wa = w2.alloc (.cells #[.int .u64 0, .int .u64 0, .int .u64 0, .int .u64 0, .int .u64 0, .int .u64 0, .int .u64 0, .int .u64 0, .int .u64 0] 59) := ⟨_, rfl⟩
  obtain ⟨wb, hwb⟩ : ∃ wb, wb = wa.alloc (.cells #[.bool false, .bool false, .bool false, .bool false, .bool false, .bool false, .bool false, .bool false, .bool false] 60) := ⟨_, rfl⟩
  obtain ⟨wc, hwc⟩ : ∃ wc, wc = wb.alloc (.cells #[.slice none 0 0, .slice none 0 0, .slice none 0 0, .slice none 0 0, .slice none 0 0, .slice none 0 0, .slice none 0 0, .slice none 0 0, .slice none 0 0] 61) := ⟨_, rfl⟩
  have hb1 : Below w2.heap.size w2 wa := by rw [hwa]; exact bel1N _ _
  have hb2 : Below wa.heap.size wa wb := by rw [hwb]; exact bel1N _ _
  have hb3 : Below wb.heap.size wb wc := by rw [hwc]; exact bel1N _ _
  have hs1 : wa.heap.size = w2.heap.size + 1 := by rw [hwa]; simp
  have hs2 : wb.heap.size = wa.heap.size + 1 := by rw [hwb]; simp
  have hS0 : SaC W g w2.heap.size wa.heap.size wb.heap.size (fun _ => 0) (fun _ => false) (fun _ => []) (fun _ => 0) (fun _ => false) (fun _ => (none, 0, 0)) (fun _ => []) wc := by
    have hl := HO.out.p.lt
    have hz := HO.out.bel.size
    refine ⟨⟨F, _, ((HO.out.below hb1).below hb2).below hb3, Nine.start _ _ _ (fun _ => rfl), fun hf => ?_, fun hf => ?_, fun hf => ?_⟩, ?_, ?_, ?_, ⟨hz, by omega, by omega⟩, ⟨by omega, by omega, by omega⟩, fun j _ => Rd.nil _ _ _⟩
    · have := hl _ hf; omega
    · have := hl _ hf; omega
    · have := hl _ hf; omega
    · have : Bk wa w2.heap.size 59 (tbl fun _ => .int .u64 ((0 : Nat) : Int)) := by rw [hwa]; exact Bk.new w2 _ _
      exact (this.below hb2 this.lt).below hb3 (by omega)
    · have : Bk wb wa.heap.size 60 (tbl fun _ => .bool false) := by rw [hwb]; exact Bk.new wa _ _
      exact this.below hb3 this.lt
    · rw [hwc]; exact Bk.new wb _ _
  have HS0 := Lib.hid hS0
  have HWa := Lib.hid hwa
  have HWb := Lib.hid hwb
  have HWc := Lib.hid hwc
  clear hwa hwb hwc hb1 hb2 hb3 hs1 hs2 hS0
  go_upto_region 7 with (fail)
  rw [← HWa.out]
  go_upto_region 8 with (fail)
  rw [← HWb.out]
  go_upto_region 9 with (fail)
  rw [← HWc.out]
  generalize w2.heap.size = gl at *
  generalize wa.heap.size = gd at *
  generalize wb.heap.size = gr at *
  clear HO HWa HWb HWc
  go_wp2_with fail
  go_loopg [8] n0 (fun gk a wr => ∃ (i : Nat) (la : Nat → Nat) (dn : Nat → Bool) (rp : Nat → Sl3) (rl : Nat → List UInt8), a = .int .i64 (i : Int) ∧ i + gk = n0 ∧ Hid (SaC W g gl gd gr la dn rl la dn rp rl wr))
  case atStart => exact ⟨0, _, _, _, _, rfl, by omega, HS0⟩
  case round =>
    obtain ⟨i, la, dn, rp, rl, rfl, hig, HS⟩ := hrel
    by_cases hlt : i < n0 ∧ i < 200
    · obtain ⟨hin, hi2⟩ := hlt
      have m1 : (i : Int) < (n0 : Int) := by omega
      have m2 : (i : Int) < 200 := by omega
      have m0 : ¬ (i : Int) < 0 := by omega
      have e5 : IntKind.i64.wrap ((i : Int) + 1) = ((i + 1 : Nat) : Int) := by rw [IntKind.wrap_i64]; omega
      have hOk := (HAs.out W (Below.refl _ _) i hin).choose_spec.choose_spec.2.1
      obtain ⟨b, o, rfl, -, q0, q1, q2, q3⟩ := HAs.out wr HS.out.bel i hin
      have hsm := HSm.out i hin (by omega)
      obtain ⟨⟨kind, id, num, val, vA, vn, vc⟩, hx⟩ : ∃ x, x = f0 i := ⟨_, rfl⟩
      rw [← hx] at hOk q0 q1 q2 q3 hsm
      obtain ⟨hk64, hid64, hnum64, hcap, hval⟩ := hOk
      dsimp only at q0 q1 q2 q3 hsm hk64 hid64 hnum64 hcap hval
      clear hx
      obtain ⟨C, hC⟩ : ∃ C, C = id % 9 := ⟨_, rfl⟩
      have hC9 : C < 9 := by rw [hC]; exact Nat.mod_lt _ (by decide)
      obtain ⟨r1, r2, r3, r4⟩ := rem9 id
      rw [← hC] at r1 r2 r3 r4
      have r5 : ¬ (C : Int) < 0 := by omega
      have r6 : (C : Int) < 9 := by omega
      clear hC
      obtain ⟨wx, hwx⟩ : ∃ wx, wx = wr.alloc (.cells #[.int .i64 kind, .int .u64 (id : Int), .int .u64 (num : Int), .slice vA vn vc] 35) := ⟨_, rfl⟩
      obtain ⟨bx, hbx⟩ : ∃ bx, bx = wr.heap.size := ⟨_, rfl⟩
      have hkx : Bk wx bx 35 #[.int .i64 kind, .int .u64 (id : Int), .int .u64 (num : Int), .slice vA vn vc] := by rw [hwx, hbx]; exact Bk.new wr _ _
      have HBg := Lib.hid (HS.out.begin C hC9 num hnum64 35 #[.int .i64 kind, .int .u64 (id : Int), .int .u64 (num : Int), .slice vA vn vc])
      have HEn := Lib.hid (HS.out.ended C hC9 num vA vn vc val (hval.below HS.out.bel) ⟨hcap.1, by unfold maxLen; omega⟩ (by omega) 35 #[.int .i64 kind, .int .u64 (id : Int), .int .u64 (num : Int), .slice vA vn vc])
      rw [← hwx, ← hbx] at HBg HEn
      have x0 : wx.cell? ⟨bx, 0, none⟩ = some (.int .i64 kind) := hkx.cell 0
      have x1 : wx.cell? ⟨bx, 1, none⟩ = some (.int .u64 (id : Int)) := hkx.cell 1
      have x2 : wx.cell? ⟨bx, 2, none⟩ = some (.int .u64 (num : Int)) := hkx.cell 2
      have x3 : wx.cell? ⟨bx, 3, none⟩ = some (.slice vA vn vc) := hkx.cell 3
      have HWx := Lib.hid hwx
      have HBx := Lib.hid hbx
      have HVal := Lib.hid (And.intro hval hcap)
      have HBelr := Lib.hid HS.out.bel
      have Hlts : Hid (gl < bx ∧ gd < bx ∧ gr < bx) := Lib.hid (by rw [hbx]; exact ⟨HS.out.bl.lt, HS.out.bd.lt, HS.out.br.lt⟩)
      clear hwx hbx hkx hval hcap HS
      go_upto_region 13 with (fail)
      rw [← HWx.out]
      rw [← HBx.out]
      clear q0 q1 q2 q3
      by_cases hkind : kind ≤ 2
      · clear HEn
        go_wp2_with fail
        refine HBg.out.mono ?_
        clear HBg
        rintro e w5 ⟨bg, A5, c5, ki, m5, er, hsw, ⟨hki, hm5, her⟩, rfl, HX⟩
        cases hsw with
        | arg t' h0 hn =>
          have hki' : ki = 0 := hki
          have her' : er = 2 := her
          subst hki' her' h0
          obtain ⟨hbk5, hrd5, hS5⟩ := HX.out
          have z2 : w5.cell? ⟨bx, 2, none⟩ = some (.int .u64 ((0 : Nat) : Int)) := hbk5.cell 2
          have HS5 := Lib.hid (hS5 _ _ hn)
          clear HX hbk5 hrd5 hS5 hn hm5 hki her x0 x1 x2 x3
          go_wp2
          go_roundg (gk - 1)
          case measure => omega
          case rel => exact ⟨i + 1, la, dn, rp, rl, by go_num, by omega, HS5⟩
        | old t' h0 h1 hn =>
          have hki' : ki = 0 := hki
          have her' : er = 70 := her
          subst hki' her'
          obtain ⟨hbk5, hrd5, hS5⟩ := HX.out
          have z2 : w5.cell? ⟨bx, 2, none⟩ = some (.int .u64 (num : Int)) := hbk5.cell 2
          have HS5 := Lib.hid (hS5 _ _ hn)
          obtain ⟨cl, cd, cr⟩ := HS5.out.cells C hC9
          have n0' : ¬ (num : Int) = 0 := by omega
          have n1 : ((num : Int) == 0) = false := by simp; omega
          obtain ⟨LC, hLC⟩ : ∃ LC, LC = la C := ⟨_, rfl⟩
          rw [← hLC] at cl h1
          have n2 : (num : Int) < (LC : Int) := by omega
          clear HX hbk5 hrd5 hS5 hn hm5 hki her x0 x1 x2 x3 hLC cd cr h0 h1
          go_wp2_with fail
          go_region
          all_goals
            go_wp2
            go_roundg (gk - 1)
            case measure => omega
            case rel => exact ⟨i + 1, la, dn, rp, rl, by go_num, by omega, Lib.hid (HS5.out.below (Below.refl _ _).drew)⟩
        | new t' h0 h1 hn =>
          have hki' : ki = 1 := hki
          have her' : er = 0 := her
          subst hki' her'
          obtain ⟨hbk5, hrd5, hS5⟩ := HX.out
          have z2 : w5.cell? ⟨bx, 2, none⟩ = some (.int .u64 (num : Int)) := hbk5.cell 2
          have HS5 := Lib.hid (hS5 _ _ hn)
          obtain ⟨cl, cd, cr⟩ := HS5.out.cells C hC9
          have n0' : ¬ (num : Int) = 0 := by omega
          have n1 : ((num : Int) == 0) = false := by simp; omega
          obtain ⟨LC, hLC⟩ : ∃ LC, LC = la C := ⟨_, rfl⟩
          rw [← hLC] at cl h1
          have n2 : ¬ (num : Int) < (LC : Int) := by omega
          have n3 : (num : Int) > (LC : Int) := by omega
          have fl := HS5.out.bl.frozen C
          have fd : (w5.setCell ⟨gl, C, none⟩ (.int .u64 (num : Int))).frozen? ⟨gd, C, none⟩ = false := (HS5.out.setL C hC9 num).bd.frozen C
          have cd2 : (w5.setCell ⟨gl, C, none⟩ (.int .u64 (num : Int))).cell? ⟨gd, C, none⟩ = some (.bool (dn C)) := ((HS5.out.setL C hC9 num).cells C hC9).2.1
          have HF : Hid (∀ W2, Below w5.heap.size w5 W2 → SaC W g gl gd gr (updN la C num) (updN dn C false) rl (updN la C num) (updN dn C false) rp rl ((W2.setCell ⟨gl, C, none⟩ (.int .u64 (num : Int))).setCell ⟨gd, C, none⟩ (.bool false))) := Lib.hid fun W2 hb =>
            (((HS5.out.below hb).setL C hC9 num).setD C hC9 false).alike rfl rfl rfl rfl rfl rfl
          clear HX hbk5 hrd5 hS5 hn hm5 hki her x0 x1 x2 x3 hLC cr h0 h1
          go_wp2_with fail
          go_region
          all_goals
            go_wp2_with fail
            go_region
            all_goals
              go_wp2
              go_roundg (gk - 1)
              case measure => omega
              case rel => exact ⟨i + 1, _, _, rp, rl, by go_num, by omega, Lib.hid (HF.out _ ((Below.refl _ _).drew).drew)⟩
        | again t' h0 h1 hd hn =>
          have hki' : ki = 2 := hki
          have her' : er = 0 := her
          subst hki' her'
          obtain ⟨hbk5, hrd5, hS5⟩ := HX.out
          have z2 : w5.cell? ⟨bx, 2, none⟩ = some (.int .u64 (num : Int)) := hbk5.cell 2
          have HS5 := Lib.hid (hS5 _ _ hn)
          obtain ⟨cl, cd, cr⟩ := HS5.out.cells C hC9
          have n0' : ¬ (num : Int) = 0 := by omega
          have n1 : ((num : Int) == 0) = false := by simp; omega
          have hmm : m5 = (rl C).length := hm5
          subst hmm
          subst h1
          obtain ⟨rpC, hrpC⟩ : ∃ s, s = rp C := ⟨_, rfl⟩
          have hrdC := HS5.out.rd C hC9
          rw [← hrpC] at cr hrdC
          rw [hd] at cd
          obtain ⟨sA, sN, sC⟩ := rpC
          unfold s3W at cr
          dsimp only at cr hrdC hrd5
          have n2 : ¬ (la C : Int) < (la C : Int) := by omega
          have n3 : ¬ (la C : Int) > (la C : Int) := by omega
          have HSm2 : Hid (∀ W2, Below w5.heap.size w5 W2 → Calls Try.prog 15 #[.slice A5 (rl C).length c5, .slice sA sN sC] W2 fun e w' => e = .returned (.bool true) ∧ w' = W2) := Lib.hid fun W2 hb => by
            refine (same_any A5 sA _ sN c5 sC _ _ (rl C) (rl C) W2 (hrd5.up hb) (hrdC.below (hb.mono HS5.out.bel.size))).mono ?_
            rintro e w' ⟨rfl, rfl⟩
            exact ⟨by simp, rfl⟩
          clear HX hbk5 hrd5 hS5 hn hm5 hki her x0 x1 x2 x3 hrpC hrdC h0 hd
          generalize la C = LC at *
          generalize (rl C).length = RL at *
          go_wp2_with fail
          go_region
          all_goals
            go_wp2_with fail
            go_region
            all_goals
              obtain ⟨wz, hwz⟩ : ∃ wz, wz = w5.drew.drew := ⟨_, rfl⟩
              have hbz : Below w5.heap.size w5 wz := by rw [hwz]; exact ((Below.refl _ _).drew).drew
              rw [← hwz]
              have cdz : wz.cell? ⟨gd, C, none⟩ = some (.bool true) := (hbz.cell (p := ⟨gd, C, none⟩) (World.block_lt_of_cell? w5 _ cd)).trans cd
              have crz : wz.cell? ⟨gr, C, none⟩ = some (.slice sA sN sC) := (hbz.cell (p := ⟨gr, C, none⟩) (World.block_lt_of_cell? w5 _ cr)).trans cr
              have HSz := Lib.hid (HS5.out.below hbz)
              have HSmz := Lib.hid (HSm2.out wz hbz)
              clear hwz hbz cd cr cl z2 HSm2
              go_wp2_with (go_at_call 15; refine HSmz.out.mono ?_; rintro e w' ⟨rfl, rfl⟩)
              go_wp2
              go_roundg (gk - 1)
              case measure => omega
              case rel => exact ⟨i + 1, la, dn, rp, rl, by go_num, by omega, HSz⟩
        | busy t' h0 h1 hd hn =>
          have hki' : ki = 3 := hki
          have her' : er = 0 := her
          subst hki' her'
          obtain ⟨hbk5, hrd5, hS5⟩ := HX.out
          have z2 : w5.cell? ⟨bx, 2, none⟩ = some (.int .u64 (num : Int)) := hbk5.cell 2
          have HS5 := Lib.hid (hS5 _ _ hn)
          obtain ⟨cl, cd, cr⟩ := HS5.out.cells C hC9
          have n0' : ¬ (num : Int) = 0 := by omega
          have n1 : ((num : Int) == 0) = false := by simp; omega
          subst h1
          rw [hd] at cd
          have n2 : ¬ (la C : Int) < (la C : Int) := by omega
          have n3 : ¬ (la C : Int) > (la C : Int) := by omega
          clear HX hbk5 hrd5 hS5 hn hm5 hki her x0 x1 x2 x3 h0 hd cr
          generalize hLCe : la C = LC at *
          go_wp2_with fail
          go_region
          all_goals
            go_wp2_with fail
            go_region
            all_goals
              go_wp2
              go_roundg (gk - 1)
              case measure => omega
              case rel => exact ⟨i + 1, la, dn, rp, rl, by go_num, by omega, Lib.hid (HS5.out.below ((Below.refl _ _).drew).drew)⟩
      · clear HBg
        have hkind' : ¬ kind ≤ 2 := hkind
        go_wp2_with fail
        refine HEn.out.mono ?_
        clear HEn
        rintro e w5 ⟨rr, er, hsw, her, rfl, HX⟩
        cases hsw with
        | done t' h0 h1 hd hl hn =>
          have her' : er = 0 := her
          subst her' h1
          obtain ⟨hbk5, hS5⟩ := HX.out
          have z2 : w5.cell? ⟨bx, 2, none⟩ = some (.int .u64 (la C : Int)) := hbk5.cell 2
          have z3 : w5.cell? ⟨bx, 3, none⟩ = some (.slice vA vn vc) := hbk5.cell 3
          have HS5 := Lib.hid (hS5 _ _ hn)
          obtain ⟨cl, cd, cr⟩ := HS5.out.cells C hC9
          rw [hd] at cd
          have hvn : val.length = vn := HVal.out.1.1
          have hv200 : vn ≤ 200 := by rw [← hvn]; exact hl
          obtain ⟨LC, hLC⟩ : ∃ LC, LC = la C := ⟨_, rfl⟩
          have fd := HS5.out.bd.frozen C
          have fr : (w5.setCell ⟨gd, C, none⟩ (.bool true)).frozen? ⟨gr, C, none⟩ = false := (HS5.out.setD C hC9 true).br.frozen C
          have cr2 : (w5.setCell ⟨gd, C, none⟩ (.bool true)).cell? ⟨gr, C, none⟩ = some (s3W (rp C)) := ((HS5.out.setD C hC9 true).cells C hC9).2.2
          have z32 : (w5.setCell ⟨gd, C, none⟩ (.bool true)).cell? ⟨bx, 3, none⟩ = some (.slice vA vn vc) := by
            rw [World.cell?_setCell_other _ _ _ _ (fun e => ?_)]
            · exact z3
            · injection e with e _
              have := Hlts.out
              omega
          have HF : Hid (∀ W2, Below w5.heap.size w5 W2 → SaC W g gl gd gr la (updN dn C true) (updN rl C val) la (updN dn C true) (updN rp C (vA, vn, vc)) (updN rl C val) ((W2.setCell ⟨gd, C, none⟩ (.bool true)).setCell ⟨gr, C, none⟩ (.slice vA vn vc))) := Lib.hid fun W2 hb =>
            (((HS5.out.below hb).setD C hC9 true).setR C hC9 (vA, vn, vc) val (by
              have hk := Kp.set_ (w := W2) (F := fun j => j = gd) (p := ⟨gd, C, none⟩) rfl (Value.bool true)
              have hz := HS5.out.bel
              have hval5 : Rd w5 W.heap.size vA vn val := HVal.out.1.below hz
              exact (hval5.below (hb.mono hz.size)).kp hk (Nat.le_trans hz.size hb.size) fun i hi e => by have := HS5.out.new.2.1; omega)).alike rfl rfl rfl rfl rfl rfl
          rw [← hLC] at cl h0 z2
          clear HX hbk5 hS5 hn her x0 x1 x2 x3 hd hl hvn hLC
          generalize s3W (rp C) = rv at *
          go_wp2_with fail
          have p1 : decide ((LC : Int) > 0) = true := by rw [decide_eq_true]; omega
          have p2 : decide (LC > 0) = true := by rw [decide_eq_true]; omega
          have p3 : decide ((0 : Int) < (LC : Int)) = true := by rw [decide_eq_true]; omega
          have p4 : decide (0 < LC) = true := by rw [decide_eq_true]; omega
          have p5 : decide ((vn : Int) ≤ 200) = true := by rw [decide_eq_true]; omega
          have p6 : decide (vn ≤ 200) = true := by rw [decide_eq_true]; omega
          go_region
          all_goals
            go_wp2
            go_roundg (gk - 1)
            case measure => omega
            case rel => exact ⟨i + 1, _, _, _, _, by go_num, by omega, Lib.hid (HF.out _ ((Below.refl _ _).drew))⟩
        | bad r t' hr hne hn =>
          have her' : er = r := her
          subst her'
          obtain ⟨hbk5, hS5⟩ := HX.out
          have z2 : w5.cell? ⟨bx, 2, none⟩ = some (.int .u64 (num : Int)) := hbk5.cell 2
          have z3 : w5.cell? ⟨bx, 3, none⟩ = some (.slice vA vn vc) := hbk5.cell 3
          have HS5 := Lib.hid (hS5 _ _ hn)
          obtain ⟨cl, cd, cr⟩ := HS5.out.cells C hC9
          have ner : (er == 0) = false := by simp; exact hr
          have hvn : val.length = vn := HVal.out.1.1
          rw [hvn] at hne
          have h4 : la C = 0 ∨ (0 < la C ∧ ¬ num = la C) ∨ (0 < la C ∧ num = la C ∧ dn C = true) ∨ (0 < la C ∧ num = la C ∧ dn C = false ∧ 200 < vn) := by
            by_cases a1 : 0 < la C
            · by_cases a2 : num = la C
              · cases a3 : dn C with
                | true => exact .inr (.inr (.inl ⟨a1, a2, rfl⟩))
                | false => exact .inr (.inr (.inr ⟨a1, a2, rfl, by
                    by_cases a4 : vn ≤ 200
                    · exact absurd ⟨a1, a2, a3, a4⟩ hne
                    · omega⟩))
              · exact .inr (.inl ⟨a1, a2⟩)
            · exact .inl (by omega)
          clear HX hbk5 hS5 hn her x0 x1 x2 x3 hne hr cr hvn
          rcases h4 with h | ⟨h, h'⟩ | ⟨h, h', h''⟩ | ⟨h, h', h'', h3⟩
          · rw [h] at cl
            generalize dn C = DC at *
            clear h
            go_wp2_with fail
            go_region
            all_goals
              go_wp2
              go_roundg (gk - 1)
              case measure => omega
              case rel => exact ⟨i + 1, la, dn, rp, rl, by go_num, by omega, Lib.hid (HS5.out.below (Below.refl _ _).drew)⟩
          · have n2 : ((num : Int) == (la C : Int)) = false := by simp; omega
            have n3 : ¬ (num : Int) = (la C : Int) := by omega
            generalize dn C = DC at *
            obtain ⟨LC, hLC⟩ : ∃ LC, LC = la C := ⟨_, rfl⟩
            rw [← hLC] at cl h n2 n3
            clear hLC h'
            go_wp2_with fail
            have p1 : decide ((LC : Int) > 0) = true := by rw [decide_eq_true]; omega
            have p2 : decide (LC > 0) = true := by rw [decide_eq_true]; omega
            have p3 : decide ((0 : Int) < (LC : Int)) = true := by rw [decide_eq_true]; omega
            have p4 : decide (0 < LC) = true := by rw [decide_eq_true]; omega
            go_region
            all_goals
              go_wp2
              go_roundg (gk - 1)
              case measure => omega
              case rel => exact ⟨i + 1, la, dn, rp, rl, by go_num, by omega, Lib.hid (HS5.out.below (Below.refl _ _).drew)⟩
          · subst h'
            rw [h''] at cd
            obtain ⟨LC, hLC⟩ : ∃ LC, LC = la C := ⟨_, rfl⟩
            rw [← hLC] at cl h z2
            clear hLC h''
            go_wp2_with fail
            have p1 : decide ((LC : Int) > 0) = true := by rw [decide_eq_true]; omega
            have p2 : decide (LC > 0) = true := by rw [decide_eq_true]; omega
            have p3 : decide ((0 : Int) < (LC : Int)) = true := by rw [decide_eq_true]; omega
            have p4 : decide (0 < LC) = true := by rw [decide_eq_true]; omega
            go_region
            all_goals
              go_wp2
              go_roundg (gk - 1)
              case measure => omega
              case rel => exact ⟨i + 1, la, dn, rp, rl, by go_num, by omega, Lib.hid (HS5.out.below (Below.refl _ _).drew)⟩
          · subst h'
            rw [h''] at cd
            obtain ⟨LC, hLC⟩ : ∃ LC, LC = la C := ⟨_, rfl⟩
            rw [← hLC] at cl h z2
            clear hLC h''
            go_wp2_with fail
            have p1 : decide ((LC : Int) > 0) = true := by rw [decide_eq_true]; omega
            have p2 : decide (LC > 0) = true := by rw [decide_eq_true]; omega
            have p3 : decide ((0 : Int) < (LC : Int)) = true := by rw [decide_eq_true]; omega
            have p4 : decide (0 < LC) = true := by rw [decide_eq_true]; omega
            have p5 : decide ((vn : Int) ≤ 200) = false := by rw [decide_eq_false]; omega
            have p6 : decide (vn ≤ 200) = false := by rw [decide_eq_false]; omega
            have p7 : ¬ (vn : Int) ≤ 200 := by omega
            go_region
            all_goals
              go_wp2
              go_roundg (gk - 1)
              case measure => omega
              case rel => exact ⟨i + 1, la, dn, rp, rl, by go_num, by omega, Lib.hid (HS5.out.below (Below.refl _ _).drew)⟩
    · have hlt' : ¬ i < n0 ∨ (i < n0 ∧ ¬ i < 200) := by omega
      clear hlt
      have HBl := Lib.hid HS.out.bel
      rcases hlt' with h | ⟨h, h'⟩
      · have m1 : ¬ (i : Int) < (n0 : Int) := by omega
        go_wp2_with fail
        refine (HKn.out _).mono ?_
        rintro e wz ⟨rfl, hb4⟩
        have HB4 := Lib.hid (below_then HBl.out hb4)
        clear hb4
        go_wp2
        go_ret
        exact ⟨rfl, HB4.out⟩
      · have m1 : (i : Int) < (n0 : Int) := by omega
        have m2 : ¬ (i : Int) < 200 := by omega
        go_wp2_with fail
        refine (HKn.out _).mono ?_
        rintro e wz ⟨rfl, hb4⟩
        have HB4 := Lib.hid (below_then HBl.out hb4)
        clear hb4
        go_wp2
        go_ret
        exact ⟨rfl, HB4.out⟩
namespace onceSame
set_option maxRecDepth 100000 in
theorem lifted (os : Os) (started : os.Started) (H : Type) (enc : TypeId × Value → H) :
    ReturnsInHanded {} Try.checked os 5 .any (Rows.onceSameSpec.pre6 enc Try.prog Try.f5 Rows.onceSameRow.domain false) (Rows.onceSameSpec.post enc Try.prog Try.f5 false true false false) := by
  refine law_lift started (by kernel_rfl) Try.func5
    (ChangeSpec.witness6 (enc := enc) (C := Try.checked) false ⟨#[], #[.slice none 0 0], []⟩ 8 (by kernel_rfl) (by kernel_rfl) (by kernel_rfl) (by kernel_rfl))
    rfl ?_ (by kernel_rfl) (by kernel_rfl) ?_
  · intro ds h
    match ds, h with
    | [_], _ => rfl
  intro W base args ds p g
  have hA := g.trod
  have hval := g.val
  rw [Try.params5] at hA hval
  obtain ⟨v0, vs0, d0, ds0, p0, q0, hargs, rfl, rfl, h0, r0⟩ := trodAll_cons hA
  obtain ⟨rfl, rfl, rfl⟩ := trodAll_nil r0
  obtain rfl : args = #[v0] := by cases args; simp_all
  obtain ⟨A0, n0, c0, f0, rfl, hc0, hm0, hr0⟩ := given_as13 (hval 0 22 v0 rfl rfl) h0
  exact onceSame_walk A0 n0 c0 f0 W hc0 hm0 hr0

theorem over : Rows.onceSameRow.holds Try.pinned (OpenSpec.ofChange Rows.onceSameSpec) :=
  OpenClaim.holds_of_wide 5 Try.f5 rfl rfl rfl rfl rfl rfl rfl ⟨rfl, rfl, rfl, rfl, rfl⟩ rfl rfl rfl rfl rfl (by kernel_rfl) Try.func5 (by kernel_rfl)
    (of_decide_eq_true (by kernel_rfl)) (by unfold Func.isWrapper; first | (rw [if_pos (by decide +kernel)]; kernel_rfl) | (rw [if_neg (by decide +kernel)]; exact ⟨rfl, rfl⟩))
    (fun os started H enc _ => lifted os started H enc)
end onceSame

theorem OnceSame_proved : Rows.OnceSameSaid := onceSame.over
#print axioms OnceSame_proved
end Go.Proofs.Ytonkohbmknopmaa
