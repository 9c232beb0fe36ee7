/- BeatUp: for every input law14.BeatUp answers true: a node is up just if it is the view's own, or was heard less than patience ticks ago. Conditions: the library's table lies where the program's text lays it (the card ties it). -/
import Derived.Test.YtmdjdnibblebcaaDoorBtU
import Derived.Test.YtmdjdnibblebcaaDoorLawT
import Derived.Test.YtmdjdnibblebcaaDoorDActs
namespace Go.Proofs.YtmdjdnibblebcaaDoor
open Go.RowKit Go.ChangeShapes Go.WideShapes Go.ChangeAt

structure UpS (W w : World) (g b c B N : Nat) (v : Vw) (f : Nat → Int) (now : Nat) : Prop where
  ob : OB W w g b c v
  ar : Bk w B 40 (h4 f)
  ge : W.heap.size ≤ B
  bg : B ≠ g
  bb : B ≠ b
  p : UpP N v f now
theorem UpS.step {W w w' : World} {g b c B N : Nat} {v v' : Vw} {f : Nat → Int} {now now' : Nat} (h : UpS W w g b c B N v f now) (h1 : OB W w' g b c v') (hk : Kp (fun k => k = g ∨ k = b) w w') (hp : UpP N v' f now') : UpS W w' g b c B N v' f now' :=
  ⟨h1, h.ar.kp hk (fun e => by rcases e with e | e; exact h.bg e; exact h.bb e), h.ge, h.bg, h.bb, hp⟩
theorem UpS.below {W w w' : World} {g b c B N : Nat} {v : Vw} {f : Nat → Int} {now : Nat} (h : UpS W w g b c B N v f now) (hb : Below w.heap.size w w') : UpS W w' g b c B N v f now :=
  ⟨h.ob.below hb, h.ar.below hb h.ar.lt, h.ge, h.bg, h.bb, h.p⟩
theorem UpS.heard {W w w' : World} {g b c B N : Nat} {v : Vw} {f : Nat → Int} {now : Nat} (h : UpS W w g b c B N v f now) (k : Nat) (hk : k < 4) (h1 : OB W w' g b c (v.hearI k)) (hkp : Kp (fun j => j = g ∨ j = b) w w') :
    Bk w' B 40 (h4 f) ∧ UpS W (w'.setCell ⟨B, k, none⟩ (.int .i64 (now : Int))) g b c B N (v.hearI k) (updI f k now) now := by
  have har := h.ar.kp hkp (fun e => by rcases e with e | e; exact h.bg e; exact h.bb e)
  have hk2 : Kp (fun j => j = B) w' (w'.setCell ⟨B, k, none⟩ (.int .i64 (now : Int))) := Kp.set_ (F := fun j => j = B) (p := ⟨B, k, none⟩) rfl _
  refine ⟨har, ⟨⟨h1.ov.kp hk2 (fun e => h.bg e.symm) (fun e => h.bb e.symm), h1.bel.trans (hk2.below (fun j e => by have := h.ge; omega) h1.bel.size)⟩, ?_, h.ge, h.bg, h.bb, h.p.hear k⟩⟩
  rw [← h4_set f k hk]
  exact har.set_ k _
set_option maxRecDepth 100000 in
set_option maxHeartbeats 8000000 in
theorem beatUp_walk (pt : Int) (A : Option Addr) (n c : Nat) (l : List Int) (w : World) (_ : -9223372036854775808 ≤ pt) (_ : pt ≤ 9223372036854775807) (hc : n ≤ c) (hm : c ≤ 9223372036854775807) (hr : RdI w w.heap.size A n l) (hT : Tz w) :
    Calls Tryd.prog 4 #[.int .i64 pt, .slice A n c] w fun e w' => e = .returned (.bool true) ∧ Below w.heap.size w w' := by
  have HT := Lib.hid hT
  have HR := Lib.hid hr
  have HL := Lib.hid hr.1
  obtain ⟨P, hP⟩ : ∃ P, P = (1 + pt % 18446744073709551616 % 9).toNat := ⟨_, rfl⟩
  have p1 : (pt % 18446744073709551616).tmod 9 = pt % 18446744073709551616 % 9 := Int.tmod_eq_emod_of_nonneg (Int.emod_nonneg _ (by omega))
  have p2 : IntKind.u64.wrap pt = pt % 18446744073709551616 := IntKind.wrap_u64 pt
  have p4 : IntKind.i64.wrap (pt % 18446744073709551616 % 9) = pt % 18446744073709551616 % 9 := by rw [IntKind.wrap_i64]; omega
  have p5 : IntKind.i64.wrap (1 + pt % 18446744073709551616 % 9) = (P : Int) := by rw [IntKind.wrap_i64]; omega
  have p6 : 1 + pt % 18446744073709551616 % 9 = (P : Int) := by omega
  have HP : Hid (1 ≤ P ∧ P ≤ 9) := Lib.hid (by omega)
  obtain ⟨wl, hwl⟩ : ∃ wl, wl = w.alloc (.cells #[.int .i64 0, .int .i64 1, .int .i64 2, .int .i64 0] 3) := ⟨_, rfl⟩
  have hbl : Below w.heap.size w wl := by rw [hwl]; exact belA _ _
  have hkl : Bk wl w.heap.size 3 #[.int .i64 0, .int .i64 1, .int .i64 2, .int .i64 0] := by rw [hwl]; exact Bk.new w _ _
  have hrd : RdI wl wl.heap.size (some ⟨w.heap.size, 0, none⟩) 4 [0, 1, 2, 0] := ⟨rfl, by intro x hx; simp at hx; omega, fun _ => ⟨_, _, rfl, hkl.lt, fun j hj => by
    rw [Nat.zero_add, hkl.cell]
    have : j = 0 ∨ j = 1 ∨ j = 2 ∨ j = 3 := by simp at hj; omega
    rcases this with rfl | rfl | rfl | rfl <;> rfl⟩⟩
  have hgood : rightN [0, 1, 2, 0] 3 P = true := by
    unfold rightN
    have h1 := HP.out
    have : ([0, 1, 2, 0] : List Int).any noSite = false := by decide
    rw [this]
    simp
    omega
  have HN := Lib.hid (new_ok (some ⟨w.heap.size, 0, none⟩) 4 4 wl [0, 1, 2, 0] 3 P hrd hgood)
  have HW := Lib.hid hwl
  have HBL := Lib.hid hbl
  clear hT hr hP hwl hbl hkl hrd hgood
  go_enter Tryd.func4, Tryd.ntmps4
  go_wp2_with fail
  rw [← HW.out]
  refine HN.out.mono ?_
  rintro e w1 ⟨g, b, cc, rfl, HE⟩
  have hsz := HBL.out.size
  have HO : Hid (OB w w1 g b cc (mkV [0, 1, 2, 0] 3 P)) := Lib.hid ⟨⟨HE.out.1, by have := HE.out.2.1; omega, by have := HE.out.2.2.1; omega⟩, HBL.out.trans (HE.out.2.2.2.mono hsz)⟩
  clear hsz HN HW HE HBL
  go_upto_region 6 with (fail)
  obtain ⟨B, hB⟩ : ∃ B, B = w1.heap.size := ⟨_, rfl⟩
  obtain ⟨w2, hw2⟩ : ∃ w2, w2 = w1.alloc (.cells #[.int .i64 0, .int .i64 0, .int .i64 0, .int .i64 0] 40) := ⟨_, rfl⟩
  have hb2 : Below w1.heap.size w1 w2 := by rw [hw2]; exact belA _ _
  have hk2 : Bk w2 B 40 (h4 fun _ => 0) := by rw [hw2, hB]; exact Bk.new w1 _ _
  have HB2 := Lib.hid (And.intro hB (And.intro hw2 hb2))
  have HF0 : Hid (Bk w2 B 40 (h4 fun k => if k < 0 then -1 else 0) ∧ Kp (fun k => k = B) w2 w2) := Lib.hid ⟨hk2, Kp.refl _ _⟩
  have HBE := Lib.hid (show w1.heap.size = B from hB.symm)
  have HW2 := Lib.hid hw2
  clear hB hw2 hb2 hk2
  rw [← HW2.out, HBE.out]
  go_upto_block 0 with (fail)
  go_cut [9] from 32 (fun _a wx => Hid (∃ f : Nat → Int, (∀ k, k < 4 → f k = -1) ∧ Bk wx B 40 (h4 f) ∧ Kp (fun k => k = B) w2 wx))
  case first =>
    go_wp2_with fail
    go_loopg [9] 4 (fun gk a wr => ∃ i : Nat, a = .int .i64 (i : Int) ∧ i + gk = 4 ∧ Hid (∃ f : Nat → Int, (∀ k, k < i → f k = -1) ∧ Bk wr B 40 (h4 f) ∧ Kp (fun k => k = B) w2 wr))
    case atStart => exact ⟨0, rfl, rfl, Lib.hid ⟨_, fun k h => by omega, HF0.out⟩⟩
    case round =>
      obtain ⟨i, rfl, hig, HF⟩ := hrel
      by_cases hi4 : i < 4
      · have m1 : (i : Int) < 4 := by omega
        have m0 : ¬ (i : Int) < 0 := by omega
        have e1 : IntKind.i64.wrap ((i : Int) + 1) = ((i + 1 : Nat) : Int) := by rw [IntKind.wrap_i64]; omega
        obtain ⟨f, hf, hk, hkp⟩ := HF.out
        have q0 : wr.cell? ⟨B, i, none⟩ = some (.int .i64 (f i)) := (hk.cell i).trans (h4_at f i hi4)
        have f0 := hk.frozen i
        have HN : Hid (∃ f : Nat → Int, (∀ k, k < i + 1 → f k = -1) ∧ Bk (wr.setCell ⟨B, i, none⟩ (.int .i64 (-1))) B 40 (h4 f) ∧ Kp (fun k => k = B) w2 (wr.setCell ⟨B, i, none⟩ (.int .i64 (-1)))) := Lib.hid ⟨updI f i (-1), fun k hk => by
          unfold updI
          split
          · rfl
          · exact hf k (by omega), by rw [← h4_set f i hi4]; exact hk.set_ i _, hkp.trans (Kp.set_ (F := fun k => k = B) (p := ⟨B, i, none⟩) rfl _)⟩
        clear hf hk hkp
        go_wp2
        go_roundg (gk - 1)
        case measure => omega
        case rel => exact ⟨i + 1, by go_num, by omega, HN⟩
      · obtain rfl : i = 4 := by omega
        go_wp2_with fail
        go_meet
        exact HF
  case rest =>
  have HS : Hid (∃ f, UpS w wc g b cc B P (mkV [0, 1, 2, 0] 3 P) f 0) := Lib.hid (by
    obtain ⟨f, hf, hk, hkp⟩ := hcut.out
    obtain ⟨hB, hw2, hb2⟩ := HB2.out
    have ho := HO.out
    have hlt := ho.ov.pv.lt
    have hsz := ho.bel.size
    have hb : Below w1.heap.size w1 wc := hb2.trans (hkp.below (fun k e => by omega) hb2.size)
    refine ⟨f, ho.below hb, hk, by omega, by omega, by omega, rfl, rfl, rfl, fun k hk => .inl ⟨hf k (by omega), ?_⟩⟩
    show (if k = 3 then 0 else P) = P
    rw [if_neg (by omega)])
  clear hcut HF0 HB2 HBE HW2 HO
  go_wp2_with fail
  go_loopg [10, 11] (min n 200) (fun gk a d wr => ∃ i now : Nat, a = .int .i64 (now : Int) ∧ d = .int .i64 (i : Int) ∧ i + gk = min n 200 ∧ now ≤ i ∧ Hid (∃ v f, UpS w wr g b cc B P v f now))
  case atStart => exact ⟨0, 0, rfl, rfl, by omega, by omega, Lib.hid (by obtain ⟨f, h⟩ := HS.out; exact ⟨_, f, h⟩)⟩
  case round =>
    clear HS
    obtain ⟨i, now, rfl, rfl, hig, hnow, HI⟩ := hrel
    by_cases hin : i < min n 200
    · have m1 : (i : Int) < (n : Int) := by omega
      have m2 : (i : Int) < 200 := by omega
      have m0 : ¬ (i : Int) < 0 := by omega
      have m3 : (now : Int) < 201 := by omega
      have e1 : IntKind.i64.wrap ((i : Int) + 1) = ((i + 1 : Nat) : Int) := by rw [IntKind.wrap_i64]; omega
      have e2 : IntKind.i64.wrap ((now : Int) + 1) = ((now + 1 : Nat) : Int) := by rw [IntKind.wrap_i64]; omega
      have hil : i < l.length := by rw [HL.out]; omega
      obtain ⟨v, f, hs⟩ := HI.out
      obtain ⟨b9, o9, rfl, hbl, hcl⟩ := (HR.out.below hs.ob.bel).2.2 (by omega)
      have q0 := hcl i hil
      obtain ⟨x, hx⟩ : ∃ x, x = l[i] := ⟨_, rfl⟩
      rw [← hx] at q0
      have HS := Lib.hid hs
      obtain ⟨gko, hgko⟩ : ∃ z, z = gk := ⟨_, rfl⟩
      subst hgko
      clear hcl hx hs HI
      go_upto_if 52 with (fail)
      go_cut [10, 12] from 38 to 98 (fun a _u12 wx => ∃ now2 : Nat, a = .int .i64 (now2 : Int) ∧ now2 ≤ i + 1 ∧ Hid (∃ v f, UpS w wx g b cc B P v f now2))
      case first =>
        by_cases hx0 : x < 0
        · have HC1 := Lib.hid HS.out.ob.tick
          go_wp2_with fail
          refine HC1.out.mono ?_
          rintro e w5 ⟨rfl, H5⟩
          have HN := Lib.hid (HS.out.step H5.out.1 H5.out.2 HS.out.p.tick)
          clear HC1 H5
          go_wp2
          go_meet
          exact ⟨now + 1, rfl, by omega, Lib.hid ⟨_, _, HN.out⟩⟩
        · obtain ⟨X, rfl⟩ := Int.eq_ofNat_of_zero_le (show 0 ≤ x by omega)
          obtain ⟨K, hK⟩ : ∃ K, K = X % 4 := ⟨_, rfl⟩
          have k1 : (X : Int).tmod 4 = (K : Int) := by rw [Int.tmod_eq_emod_of_nonneg (by omega)]; omega
          have k2 : K < 4 := by omega
          have k3 : (X : Int) % 4 = (K : Int) := by omega
          have k4 : (K : Int) < 4 := by omega
          have HC1 := Lib.hid (HS.out.ob.hear K)
          rw [HS.out.p.n, if_pos (by omega)] at HC1
          clear hK
          go_wp2_with fail
          refine HC1.out.mono ?_
          rintro e w5 ⟨rfl, H5⟩
          have hH := HS.out.heard K k2 H5.out.1 H5.out.2
          have HN := Lib.hid hH.2
          have q3 : w5.cell? ⟨B, K, none⟩ = some (.int .i64 (f K)) := (hH.1.cell K).trans (h4_at f K k2)
          have f3 : w5.frozen? ⟨B, K, none⟩ = false := hH.1.frozen K
          clear hH
          clear HC1 H5
          go_wp2
          go_meet
          exact ⟨now, rfl, by omega, Lib.hid ⟨_, _, HN.out⟩⟩
      case rest =>
        obtain ⟨now2, rfl, hn2, HI2⟩ := hcut
        have m5 : (now2 : Int) < 202 := by omega
        clear HS q0 hnow m3 e2
        go_wp2
        go_loopg [13] 4 (fun gk a wr => ∃ j : Nat, a = .int .i64 (j : Int) ∧ j + gk = 4 ∧ Hid (∃ v f, UpS w wr g b cc B P v f now2))
        case atStart => exact ⟨0, rfl, rfl, HI2⟩
        case round =>
          clear HI2
          obtain ⟨j, rfl, hjg, HJ⟩ := hrel
          by_cases hj4 : j < 4
          · have j1 : (j : Int) < 4 := by omega
            have j0 : ¬ (j : Int) < 0 := by omega
            have j2 : IntKind.i64.wrap ((j : Int) + 1) = ((j + 1 : Nat) : Int) := by rw [IntKind.wrap_i64]; omega
            obtain ⟨v, f, hs⟩ := HJ.out
            have HS := Lib.hid hs
            have HUP := Lib.hid (hs.p.up hs.ob.ok j hj4)
            have q3 : wr.cell? ⟨B, j, none⟩ = some (.int .i64 (f j)) := (hs.ar.cell j).trans (h4_at f j hj4)
            clear hs HJ
            have HC1 := Lib.hid HS.out.ob.upC
            have hx32 := Vw.up_lt HS.out.ob.ok
            obtain ⟨x, hx⟩ : ∃ x, x = v.up := ⟨_, rfl⟩
            rw [← hx] at HC1 HUP hx32
            clear hx
            have hbit := bit_u32 x j (by omega)
            have j5 : IntKind.u64.wrap (j : Int) = (j : Int) := by rw [IntKind.wrap_u64]; omega
            have hfj : j < 3 → f j = -1 ∨ (0 ≤ f j ∧ f j ≤ now2) := fun h => by
              rcases HS.out.p.each j h with ⟨h1, _⟩ | ⟨t, h1, h2, _⟩
              · exact .inl h1
              · exact .inr ⟨by omega, by omega⟩
            obtain ⟨y, hy⟩ : ∃ y, y = f j := ⟨_, rfl⟩
            rw [← hy] at q3 HUP hfj
            clear hy
            have hcases : (j = 3) ∨ (j ≠ 3 ∧ y < 0) ∨ (j ≠ 3 ∧ 0 ≤ y ∧ y ≤ now2 ∧ (now2 : Int) - y < P) ∨ (j ≠ 3 ∧ 0 ≤ y ∧ y ≤ now2 ∧ ¬ (now2 : Int) - y < P) := by
              by_cases h : j = 3
              · exact .inl h
              · rcases hfj (by omega) with h1 | h1
                · exact .inr (.inl ⟨h, by omega⟩)
                · by_cases h2 : (now2 : Int) - y < P
                  · exact .inr (.inr (.inl ⟨h, h1.1, h1.2, h2⟩))
                  · exact .inr (.inr (.inr ⟨h, h1.1, h1.2, h2⟩))
            clear hfj
            rcases hcases with h3 | ⟨h3, h5⟩ | ⟨h3, h5, h6, h7⟩ | ⟨h3, h5, h6, h7⟩
            · have j4 : ((j : Int) == 3) = true := by simp; omega
              have hb : bits .and .u32 ((x : Int) / 2 ^ j) 1 = 1 := by
                rw [hbit, HUP.out, if_pos (by simp [h3])]
              clear hbit h3
              · go_wp2_with fail
                refine HC1.out.mono ?_
                rintro e w5 ⟨rfl, H5⟩
                have HN := Lib.hid (HS.out.below H5.out.2)
                clear H5
                go_wp2
                go_roundg (gk - 1)
                case measure => omega
                case rel => exact ⟨j + 1, by go_num, by omega, Lib.hid ⟨_, _, HN.out⟩⟩
            · have j4 : ((j : Int) == 3) = false := by simp; omega
              have y0 : ¬ 0 ≤ y := by omega
              have hb : bits .and .u32 ((x : Int) / 2 ^ j) 1 = 0 := by
                rw [hbit, HUP.out, if_neg (by simp [h3]; omega)]
              clear hbit h3
              · go_wp2_with fail
                refine HC1.out.mono ?_
                rintro e w5 ⟨rfl, H5⟩
                have HN := Lib.hid (HS.out.below H5.out.2)
                clear H5
                go_wp2
                go_roundg (gk - 1)
                case measure => omega
                case rel => exact ⟨j + 1, by go_num, by omega, Lib.hid ⟨_, _, HN.out⟩⟩
            · have j4 : ((j : Int) == 3) = false := by simp; omega
              have y1 : IntKind.i64.wrap ((now2 : Int) - y) = (now2 : Int) - y := by rw [IntKind.wrap_i64]; omega
              have hb : bits .and .u32 ((x : Int) / 2 ^ j) 1 = 1 := by
                rw [hbit, HUP.out, if_pos (by simp [h3]; omega)]
              clear hbit h3
              · go_wp2_with fail
                refine HC1.out.mono ?_
                rintro e w5 ⟨rfl, H5⟩
                have HN := Lib.hid (HS.out.below H5.out.2)
                clear H5
                go_wp2
                go_roundg (gk - 1)
                case measure => omega
                case rel => exact ⟨j + 1, by go_num, by omega, Lib.hid ⟨_, _, HN.out⟩⟩
            · have j4 : ((j : Int) == 3) = false := by simp; omega
              have y1 : IntKind.i64.wrap ((now2 : Int) - y) = (now2 : Int) - y := by rw [IntKind.wrap_i64]; omega
              have hb : bits .and .u32 ((x : Int) / 2 ^ j) 1 = 0 := by
                rw [hbit, HUP.out, if_neg (by simp [h3]; omega)]
              clear hbit h3
              · go_wp2_with fail
                refine HC1.out.mono ?_
                rintro e w5 ⟨rfl, H5⟩
                have HN := Lib.hid (HS.out.below H5.out.2)
                clear H5
                go_wp2
                go_roundg (gk - 1)
                case measure => omega
                case rel => exact ⟨j + 1, by go_num, by omega, Lib.hid ⟨_, _, HN.out⟩⟩
          · obtain rfl : j = 4 := by omega
            go_wp2
            go_roundg (gko - 1)
            case measure => omega
            case rel => exact ⟨i + 1, now2, rfl, by go_num, by omega, by omega, HJ⟩
    · have hcase : (¬ (i : Int) < (n : Int)) ∨ ((i : Int) < (n : Int) ∧ ¬ (i : Int) < 200) := by omega
      have HK : Hid (Calls Tryd.prog 10 #[] wr fun e w' => e = .returned (.bool true) ∧ Below w.heap.size w w') := Lib.hid (by
        obtain ⟨v, f, hs⟩ := HI.out
        refine (known14_any wr (HT.out.below hs.ob.bel HT.out.lt)).mono ?_
        rintro e w' ⟨rfl, hb⟩
        exact ⟨rfl, hs.ob.bel.trans (hb.mono hs.ob.bel.size)⟩)
      clear hin hig hnow HI
      rcases hcase with m1 | ⟨m1, m4⟩
      all_goals
        go_wp2_with fail
        refine HK.out.mono ?_
        rintro e w7 ⟨rfl, hb7⟩
        have HB7 := Lib.hid hb7
        clear hb7
        go_wp2
        go_ret
        exact ⟨rfl, HB7.out⟩

namespace beatUp
set_option maxRecDepth 100000 in
theorem lifted (os : Os) (started : os.Started) (H : Type) (enc : TypeId × Value → H) (F : Stop.Interp) :
    ReturnsInHanded {} Tryd.checked os 4 .any ((OpenSpec.ofChange Rows.beatUpSpec).preRow enc Tryd.prog Tryd.f4 Rows.beatUpRow.domain false Rows.beatUpRow.laid) (((OpenSpec.ofChange Rows.beatUpSpec).at F).post enc Tryd.prog Tryd.f4 false true false false) := by
  have hs : (DataW.whole enc Tryd.prog ((laidWorld os).forCall (fun _ _ => 0) ⟨#[], #[.int .i64 0, .slice none 0 0], []⟩).memory Tryd.f4.params.toList Rows.beatUpSpec.vars false (#[.int .i64 0, .slice none 0 0] : Array Value).toList 8).isSome = true := by kernel_rfl
  obtain ⟨x, hx⟩ := Option.isSome_iff_exists.1 hs
  have hmet : laidMet Tryd.prog tabL ((laidWorld os).forCall (fun _ _ => 0) ⟨#[], #[.int .i64 0, .slice none 0 0], []⟩).memory := laidMet_of_run' 8 (by kernel_rfl) (by kernel_rfl)
  refine law_lift_tab started (by kernel_rfl) Tryd.func4
    (witness_row_at (enc := enc) (C := Tryd.checked) false (laidWorld os) #[.int .i64 0, .slice none 0 0] rfl (by kernel_rfl) (by kernel_rfl) (by kernel_rfl)
      (OpenSpec.preRow_of_cond 8 hx (by kernel_rfl) (fun k hk => by cases hk) (by kernel_rfl) hmet))
    rfl ?_ (by kernel_rfl) (by kernel_rfl) ?_
  · intro ds h
    match ds, h with
    | [_, _], _ => rfl
  intro W base args ds p g hTz
  have hA := g.trod
  have hval := g.val
  rw [Tryd.params4] at hA hval
  obtain ⟨v0, vs0, d0, ds0, p0, q0, hargs, rfl, rfl, h0, r0⟩ := trodAll_cons hA
  obtain ⟨v1, vs1, d1, ds1, p1, q1, rfl, rfl, rfl, h1, r1⟩ := trodAll_cons r0
  obtain ⟨rfl, rfl, rfl⟩ := trodAll_nil r1
  obtain rfl : args = #[v0, v1] := by cases args; simp_all
  obtain ⟨a0, rfl, _, _, w0⟩ := open_int Tryd.underlying3 (hval 0 3 v0 rfl rfl) h0
  have b0 := bounds_i64 w0
  obtain ⟨A1, n1, c1, l1, rfl, hc1, hm1, hr1⟩ := given_ints (hval 1 22 v1 rfl rfl) h1
  exact beatUp_walk a0 A1 n1 c1 l1 W b0.1 b0.2 hc1 hm1 hr1 hTz

theorem said : Rows.BeatUpSaid :=
  OpenClaim.holds_of_cond 4 Tryd.f4 rfl rfl rfl rfl rfl rfl rfl ⟨rfl, rfl, rfl, rfl, rfl⟩ rfl rfl rfl rfl rfl (by kernel_rfl) Tryd.func4 (by kernel_rfl)
    (of_decide_eq_true (by kernel_rfl)) (by unfold Func.isWrapper; first | (rw [if_pos (by decide +kernel)]; kernel_rfl) | (rw [if_neg (by decide +kernel)]; exact ⟨rfl, rfl⟩))
    (fun os started H enc _ F => by rw [OpenClaim.pre_eq_preRow]; exact lifted os started H enc F)
/-- No parameter wants a stand-in; the program's own looks are off. -/
theorem plain (f : FuncId) (fn : Func) (hf : Tryd.pinned.checked.prog.funcNamed "seawall/seawalllaw14.BeatUp" = some f) (hfn : Tryd.pinned.checked.prog.funcs[f]? = some fn) :
    false = Tryd.pinned.checked.prog.looks [] ∧ ∀ (j : Nat) t, fn.params[j]? = some t → Tryd.pinned.checked.prog.wantsStandIn t = false := by
  obtain rfl : f = 4 := Option.some.inj ((show Tryd.prog.funcNamed "seawall/seawalllaw14.BeatUp" = some 4 by kernel_rfl).symm.trans hf) |>.symm
  obtain rfl : fn = Tryd.f4 := (Option.some.inj (Tryd.func4.symm.trans hfn)).symm
  refine ⟨by kernel_rfl, fun j t ht => ?_⟩
  rw [Tryd.params4] at ht
  have hm : t ∈ [3, 22] := by simpa using Array.mem_of_getElem? ht
  have hall : ([3, 22].all fun u => !Tryd.prog.wantsStandIn u) = true := by kernel_rfl
  exact (show Tryd.prog.wantsStandIn t = false by simpa using List.all_eq_true.1 hall t hm)
end beatUp

theorem BeatUp_proved : Rows.BeatUpCardSaid :=
  Claim7.holds_tied_plain_at .later [] _ _ _ _ beatUp.said (fun _ h => by cases h) (by kernel_rfl) (fun _ h => by cases h) beatUp_row_tie rfl ⟨rfl, rfl⟩ (by kernel_rfl) rfl beatUp.plain (by kernel_rfl)
#print axioms BeatUp_proved
end Go.Proofs.YtmdjdnibblebcaaDoor
