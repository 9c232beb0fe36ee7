/- RlogOrder: what is applied are the slots one behind the other, each with the value that was learned there first. -/
import Derived.Test.YtpgjilpalhclcaaRlOr
namespace Go.Proofs.Ytpgjilpalhclcaa
open Go.ChangeShapes Go.WideShapes Go.ChangeAt Go.RowKit

set_option maxHeartbeats 8000000 in
set_option maxRecDepth 100000 in
theorem rlogOrder_walk (A : Option Addr) (n c : Nat) (f : Nat → Gl) (W : World) (hc1 : n ≤ c) (hc2 : c ≤ 9223372036854775807) (hA : As12 W W.heap.size A n f) : Calls Try.prog 4 #[.slice A n c] W fun e W' => e = .returned (.bool true) ∧ Below W.heap.size W W' := by
  obtain ⟨i0, hi0, hz0, hz1, hz2⟩ := info_parts Try.infoEntry
  have HL := Lib.hid (long12_any hA ⟨hc1, hc2⟩)
  have HKn := Lib.hid (fun w => known12_any w)
  have HN := Lib.hid (ol_new W)
  have HAc : Hid (∀ w, Below W.heap.size W w → ∀ k, k < n → ∃ b o, A = some ⟨b, o, none⟩ ∧ w.cell? ⟨b, o + k * 3, none⟩ = some (.int .i64 (f k).kind) ∧ w.cell? ⟨b, o + k * 3 + 1, none⟩ = some (.int .u64 ((f k).slot : Int)) ∧ w.cell? ⟨b, o + k * 3 + 2, none⟩ = some (.slice (f k).A (f k).n (f k).c) ∧ Rd w W.heap.size (f k).A (f k).n (f k).val) := Lib.hid fun w hb k hk => by
    obtain ⟨b, o, e, _, hi⟩ := (hA.below hb) (by omega)
    obtain ⟨q0, q1, q2, q3⟩ := hi k hk
    exact ⟨b, o, e, q1, q2, q3, q0.body⟩
  clear hA
  go_enter Try.func4, Try.ntmps4
  go_wp2_with fail
  refine HL.out.mono ?_
  rintro e w1 ⟨lb, rfl, rfl, hlong⟩
  cases lb with
  | true =>
    go_wp2_with fail
    refine (HKn.out _).mono ?_
    rintro e w4 ⟨rfl, hb4⟩
    go_wp2
    go_ret
    exact ⟨rfl, hb4⟩
  | false =>
  have Hlong := Lib.hid (hlong rfl)
  clear hlong HL
  go_wp2_with fail
  refine HN.out.mono ?_
  rintro e w2 ⟨g, F, rfl, HO⟩
  have HS0 : Hid (∃ F p, OrS W w2 F g p 0 (.slice none 0 0) [] ∧ p.ap = 0) := Lib.hid ⟨F, Rl.new, ⟨HO.out, World.ownsRow_nil _ _ _ _, (fun k e => by cases e), fun e he => (List.not_mem_nil he).elim, fun x => by simp [Rl.new], Nat.le_refl _, Sm.new (by decide)⟩, rfl⟩
  clear HO HN
  go_wp2
  go_loopg [4, 5, 6] n (fun gk a b d wr => ∃ i at_ : Nat, ∃ fs : List Ene, d = .int .i64 (i : Int) ∧ a = .int .u64 (at_ : Int) ∧ (∃ A c, b = .slice A fs.length c) ∧ i + gk = n ∧ i ≤ 200 ∧ at_ < 40 ∧ Hid (∃ F p, OrS W wr F g p i b fs ∧ p.ap = at_))
  case atStart => exact ⟨0, 0, [], rfl, rfl, ⟨none, 0, rfl⟩, by omega, by omega, by decide, HS0⟩
  case round =>
    obtain ⟨i, AT, fs, rfl, rfl, ⟨Af, cf, rfl⟩, hig, hi200, hat40, HS⟩ := hrel
    have hfin : ∀ w, Below W.heap.size W w → Calls Try.prog 11 #[] w fun e w' => e = .returned (.bool true) ∧ Below W.heap.size W w' := fun w hb => (HKn.out w).mono fun e w' h => ⟨h.1, below_then hb h.2⟩
    have HFin := Lib.hid hfin
    clear hfin
    by_cases hlt : i < n ∧ i < 200
    · obtain ⟨hin, hi1⟩ := hlt
      have m1 : (i : Int) < (n : Int) := by omega
      have m2 : (i : Int) < 200 := by omega
      have m0 : ¬ (i : Int) < 0 := by omega
      have e5 : IntKind.i64.wrap ((i : Int) + 1) = ((i + 1 : Nat) : Int) := by rw [IntKind.wrap_i64]; omega
      obtain ⟨F, p, hs, hap⟩ := HS.out
      obtain ⟨b, o, rfl, a0, a1, a2, hrd⟩ := HAc.out wr hs.ol.2.2 i hin
      have hvl : (f i).n ≤ 1000 := Hlong.out i hin (by omega)
      obtain ⟨kd, hkd⟩ : ∃ kd, kd = (f i).kind := ⟨_, rfl⟩
      obtain ⟨sl, hsl⟩ : ∃ sl, sl = (f i).slot := ⟨_, rfl⟩
      rw [← hkd] at a0
      rw [← hsl] at a1
      generalize (f i).A = vA at *
      generalize (f i).n = vn at *
      generalize (f i).c = vc at *
      generalize (f i).val = vl at *
      obtain ⟨S, hS⟩ : ∃ S, S = sl % 40 := ⟨_, rfl⟩
      have hS40 : S < 40 := by rw [hS]; exact Nat.mod_lt _ (by decide)
      obtain ⟨r1, r2, r3⟩ := rem_u64 sl 40 (by decide) (by decide)
      rw [← hS] at r1 r2 r3
      have r1 : (sl : Int).tmod 40 = (S : Int) := r1
      have r2 : (sl : Int) % 40 = (S : Int) := r2
      obtain ⟨B4, hB4⟩ : ∃ B, B = wr.heap.size := ⟨_, rfl⟩
      have HSl := Lib.hid (And.intro hkd hsl)
      clear hkd hsl hS
      obtain ⟨w4, hw4⟩ : ∃ w4, w4 = wr.alloc (.cells #[.int .i64 kd, .int .u64 (S : Int), .slice vA vn vc] 35) := ⟨_, rfl⟩
      have hb4 : Below wr.heap.size wr w4 := by rw [hw4]; exact bel1L _ _
      have hk4 : Bk w4 B4 35 #[.int .i64 kd, .int .u64 (S : Int), .slice vA vn vc] := by rw [hw4, hB4]; exact Bk.new _ _ _
      have hs4 := hs.below hb4
      have hrd4 := hrd.below (hb4.mono hs.ol.2.2.size)
      have hF4 : ¬ F B4 := fun hf => by have := hs.ol.lt _ hf; omega
      have y0 : w4.cell? ⟨B4, 0, none⟩ = some (.int .i64 kd) := hk4.cell 0
      have y1 : w4.cell? ⟨B4, 1, none⟩ = some (.int .u64 (S : Int)) := hk4.cell 1
      have y2 : w4.cell? ⟨B4, 2, none⟩ = some (.slice vA vn vc) := hk4.cell 2
      have C1 := Lib.hid (CellA.new (F := F) y1 hF4)
      have C2 := Lib.hid (CellA.new (F := F) y2 hF4)
      have HS4 := Lib.hid hs4
      have HRd4 := Lib.hid hrd4
      have HB4 := Lib.hid hB4
      have HW4 := Lib.hid hw4
      have hlen := hs.len
      clear hs HS hrd hb4 hk4 hs4 hrd4 hF4 hB4 hw4 HS0
      go_upto_region 13 with (fail)
      rw [← HB4.out, ← HW4.out]
      clear a0 a1 a2 HB4 HW4
      by_cases hk3 : kd ≤ 3
      · obtain ⟨r, hr⟩ : ∃ r, r = (p.learn S vl).1 := ⟨_, rfl⟩
        have HLe := Lib.hid (HS4.out.ol.learn S (S : Int) rfl (by omega) vc (HRd4.out.more HS4.out.ol.2.2.size) (by omega))
        rw [← hr] at HLe
        have Hr := Lib.hid hr
        have Hap := Lib.hid hap
        clear hr hap
        go_wp2_with fail
        refine HLe.out.mono ?_
        clear HLe
        rintro e w5 ⟨rfl, HX⟩
        obtain ⟨F', ho5, hm5⟩ := HX.out
        have hld := HS4.out.learned hS40 ho5 hm5
        rw [← Hr.out] at hld
        have x1 := (C1.out.mv hm5).1
        have x2 := (C2.out.mv hm5).1
        have own5 := own_kp HS4.out.own hm5.kp HS4.out.off
        have HFn := Lib.hid (find12_any own5 (by omega) S)
        have HOw5 := Lib.hid own5
        have HLd := Lib.hid hld
        have HM5 := Lib.hid hm5
        have HRd5 : Hid (Rd w5 W.heap.size vA vn vl) := Lib.hid (HRd4.out.kp hm5.kp HS4.out.ol.2.2.size fun k hk hf => by have := HS4.out.ol.2.1 k hf; omega)
        clear ho5 hm5 own5 hld HX y0 y1 y2 C1 C2 HRd4
        by_cases hr0 : r = 0
        · by_cases hSa : S ≤ AT
          · have k1 : (r == 0) = true := by rw [beq_iff_eq]; exact hr0
            have k2 : decide ((AT : Int) < (S : Int)) = false := by rw [decide_eq_false]; omega
            have k3 : decide (AT < S) = false := by rw [decide_eq_false]; omega
            have HSn : Hid (∃ F p, OrS W w5 F g p (i + 1) (.slice Af fs.length cf) fs ∧ p.ap = AT) := Lib.hid ⟨F', p, HLd.out.1 (.inr (.inl (by rw [Hap.out]; exact hSa))), Hap.out⟩
            clear hr0
            go_wp2
            go_roundg (gk - 1)
            case measure => omega
            case rel => exact ⟨i + 1, AT, fs, by go_num, rfl, ⟨Af, cf, rfl⟩, by omega, by omega, hat40, HSn⟩
          · have k1 : (r == 0) = true := by rw [beq_iff_eq]; exact hr0
            have k2 : decide ((AT : Int) < (S : Int)) = true := by rw [decide_eq_true]; omega
            have k3 : decide (AT < S) = true := by rw [decide_eq_true]; omega
            have Hr0 := Lib.hid hr0
            clear hr0
            go_wp2_with fail
            refine HFn.out.mono ?_
            rintro e w6 ⟨rfl, hfd⟩
            rcases hfd with ⟨j, hj, rfl, hje⟩ | ⟨rfl, hno⟩
            · have HSn : Hid (∃ F p, OrS W w5 F g p (i + 1) (.slice Af fs.length cf) fs ∧ p.ap = AT) := Lib.hid ⟨F', p, HLd.out.1 (.inr (.inr ⟨_, List.getElem_mem hj, hje⟩)), Hap.out⟩
              have k4 : ¬ (j : Int) < 0 := by omega
              clear hje
              go_wp2
              go_roundg (gk - 1)
              case measure => omega
              case rel => exact ⟨i + 1, AT, fs, by go_num, rfl, ⟨Af, cf, rfl⟩, by omega, by omega, hat40, HSn⟩
            · have Hno := Lib.hid hno
              clear hno
              go_wp2_with (at_builtin; refine wpList_append_app _ rfl _ _ 29 rfl W.heap.size 46 i0 (.agg #[.int .u64 0, .slice none 0 0]) 2 32 Try.underlying29 hi0 hz0 hz1 hz2 rfl _ fs.length (enC fs) rfl (own_below HOw5.out (bel1L w5 _) fun k hk => (HOw5.out.lt k hk).2) (some ⟨w5.heap.size, 0, none⟩) 1 1 (enE (⟨S, vl⟩, (vA, vn, vc))) rfl rfl (by intro e; cases e) (new_cells w5 _ 46 rfl) (fun u hu => enC_one [(⟨S, vl⟩, (vA, vn, vc))] u hu) (by unfold maxLen; omega) (by omega) (by have := HS4.out.ol.2.2.size; have := HM5.out.kp.size; simp; omega) ?_)
              intro v' w8 ha
              obtain ⟨A8, c8, rfl, _⟩ := own_shape ha.own
              have HSn : Hid (∃ F p, OrS W w8 F g p (i + 1) (.slice A8 (fs.length + 1) c8) (fs ++ [(⟨S, vl⟩, (vA, vn, vc))]) ∧ p.ap = AT) := Lib.hid (by
                have hk8 : Kp (fun k => (Value.slice Af fs.length cf).ownBlock = some k) w5 w8 := (Kp.of_below (bel1L w5 (.cells #[.int .u64 (S : Int), .slice vA vn vc] 46))).trans (Kp.of_row ha.grow fun k e => e)
                have ho8 := ha.own
                rw [show enC fs ++ enE (⟨S, vl⟩, (vA, vn, vc)) = enC (fs ++ [(⟨S, vl⟩, (vA, vn, vc))]) by rw [enC_app]; rfl] at ho8
                obtain ⟨q, hq, hor⟩ := HLd.out.2 Hr0.out (by rw [Hap.out]; omega) Hno.out (vA, vn, vc) HRd5.out _ w8 hk8 ho8 (fun k e => by
                  rcases ha.block with h' | h'
                  · exact .inl (h' ▸ e)
                  · rw [h'] at e; injection e with e; exact .inr (by simp at e; omega))
                exact ⟨F', q, hor, hq.trans Hap.out⟩)
              clear ha
              go_wp2
              go_roundg (gk - 1)
              case measure => omega
              case rel => exact ⟨i + 1, AT, fs ++ [(⟨S, vl⟩, (vA, vn, vc))], by go_num, rfl, ⟨A8, c8, by simp⟩, by omega, by omega, hat40, by simpa using HSn⟩
        · have k1 : (r == 0) = false := by rw [beq_eq_false_iff_ne]; exact hr0
          have HSn : Hid (∃ F p, OrS W w5 F g p (i + 1) (.slice Af fs.length cf) fs ∧ p.ap = AT) := Lib.hid ⟨F', p, HLd.out.1 (.inl hr0), Hap.out⟩
          clear hr0
          go_wp2
          go_roundg (gk - 1)
          case measure => omega
          case rel => exact ⟨i + 1, AT, fs, by go_num, rfl, ⟨Af, cf, rfl⟩, by omega, by omega, hat40, HSn⟩
      · have k3 : ¬ kd ≤ 3 := hk3
        obtain ⟨T, hT⟩ : ∃ T, T = AT + 1 := ⟨_, rfl⟩
        have e7 : IntKind.u64.wrap ((AT : Int) + 1) = (T : Int) := by rw [IntKind.wrap_u64]; omega
        have HAp := Lib.hid HS4.out.ol.apply
        have Hap := Lib.hid hap
        have HT := Lib.hid hT
        have hpT : p.ap + 1 = T := by omega
        have hsm := HS4.out.sm.apply
        have Hsm := Lib.hid hsm
        clear C1 C2 HRd4 y1 y2 hsm
        cases hh : p.has T with
        | false =>
          have ht : p.told = (⟨0, []⟩, false) := by unfold Rl.told; rw [if_neg (by rw [hpT, hh]; decide)]
          have ha : p.apply = p := by unfold Rl.apply; rw [if_neg (by rw [hpT, hh]; decide)]
          rw [ht] at HAp
          have Ha := Lib.hid ha
          have Hno : Hid (∀ x ∈ fs, x.1.slot ≠ T) := Lib.hid fun x hx e => by
            have := (HS4.out.has T).2 ⟨x, hx, e⟩
            rw [hh] at this; cases this
          clear ht ha hap hpT hh hT
          unfold enV at HAp
          go_wp2_with fail
          refine HAp.out.mono ?_
          rintro e w5 ⟨⟨sA, sN, sC⟩, rfl, HX⟩
          unfold s3W
          dsimp only
          obtain ⟨w6, hw6⟩ : ∃ w6, w6 = w5.alloc (.cells #[.int .u64 0, .slice sA sN sC] 46) := ⟨_, rfl⟩
          have hb6 : Below w5.heap.size w5 w6 := by rw [hw6]; exact bel1L _ _
          have hs6 : OrS W w6 F g p (i + 1) (.slice Af fs.length cf) fs := (HS4.out.mv (by rw [← Ha.out]; exact HX.out.2.1) HX.out.2.2 rfl HS4.out.sm).below hb6
          have HFn := Lib.hid (find12_any hs6.own (by omega) T)
          have HAd := Lib.hid hs6.ol.applied
          have HSn : Hid (∃ F p, OrS W w6 F g p (i + 1) (.slice Af fs.length cf) fs ∧ p.ap = AT) := Lib.hid ⟨F, p, hs6, Hap.out⟩
          rw [Hap.out] at HAd
          have HW6 := Lib.hid hw6
          clear hw6 hb6 hs6 HX HAp
          go_upto_region 18 with (fail)
          try simp only [Int.natCast_zero]
          rw [← HW6.out]
          go_wp2_with fail
          refine HFn.out.mono ?_
          rintro e w7 ⟨rfl, hfd⟩
          rcases hfd with ⟨j, hj, rfl, hje⟩ | ⟨rfl, _⟩
          · exact absurd hje (Hno.out _ (List.getElem_mem hj))
          · go_wp2_with fail
            refine HAd.out.mono ?_
            rintro e w8 ⟨rfl, rfl⟩
            go_wp2
            go_roundg (gk - 1)
            case measure => omega
            case rel => exact ⟨i + 1, AT, fs, by go_num, rfl, ⟨Af, cf, rfl⟩, by omega, by omega, hat40, HSn⟩
        | true =>
          have hh' : p.has (p.ap + 1) = true := by rw [hpT]; exact hh
          have ht : p.told = (p.at_ T, true) := by unfold Rl.told; rw [if_pos hh', hpT]
          have ha : p.apply = ⟨T, p.row⟩ := by unfold Rl.apply; rw [if_pos hh', hpT]
          have hslot : (p.at_ T).slot = T := (Rl.at_mem hh).2
          have hT40 : T < 40 := by
            obtain ⟨e, he, e2⟩ := (has_iff HS4.out.ol.ok).1 hh
            have := HS4.out.sm.slot e he
            omega
          rw [ht] at HAp
          have Ha := Lib.hid ha
          have Hhas := Lib.hid ((HS4.out.has T).1 hh)
          have Hat : Hid (∀ j (hj : j < fs.length), fs[j].1.slot = T → fs[j].1 = p.at_ T) := Lib.hid fun j hj e => by
            have := HS4.out.at_ hj (by rw [hpT]; exact e)
            rw [ht] at this
            injection this with this _
            exact this.symm
          have Hap1 : Hid (p.apply.ap = T) := Lib.hid (by rw [ha])
          have HrowEq : Hid (p.apply.row = p.row) := Lib.hid (by rw [ha])
          obtain ⟨v, hv⟩ : ∃ v, v = p.at_ T := ⟨_, rfl⟩
          rw [← hv] at HAp hslot Hat
          clear ht ha hap hpT hh hh' hT hv
          obtain ⟨vs, vl2⟩ := v
          dsimp only at hslot
          subst hslot
          unfold enV at HAp
          dsimp only at HAp
          go_wp2_with fail
          refine HAp.out.mono ?_
          rintro e w5 ⟨⟨sA, sN, sC⟩, rfl, HX⟩
          unfold s3W
          dsimp only
          obtain ⟨w6, hw6⟩ : ∃ w6, w6 = w5.alloc (.cells #[.int .u64 (vs : Int), .slice sA sN sC] 46) := ⟨_, rfl⟩
          obtain ⟨B6, hB6⟩ : ∃ B, B = w5.heap.size := ⟨_, rfl⟩
          have hb6 : Below w5.heap.size w5 w6 := by rw [hw6]; exact bel1L _ _
          have hk6 : Bk w6 B6 46 #[.int .u64 (vs : Int), .slice sA sN sC] := by rw [hw6, hB6]; exact Bk.new _ _ _
          have hs6 : OrS W w6 F g p.apply (i + 1) (.slice Af fs.length cf) fs := (HS4.out.mv HX.out.2.1 HX.out.2.2 HrowEq.out Hsm.out).below hb6
          have hrd6 : Rd w6 w6.heap.size sA sN vl2 := (RdF.rd (s := (sA, sN, sC)) (RdF.of_own HX.out.1)).up hb6
          have z0 : w6.cell? ⟨B6, 0, none⟩ = some (.int .u64 (vs : Int)) := hk6.cell 0
          have z1 : w6.cell? ⟨B6, 1, none⟩ = some (.slice sA sN sC) := hk6.cell 1
          have HFn := Lib.hid (find12_any hs6.own (by omega) vs)
          have HS6 := Lib.hid hs6
          have HRd6 := Lib.hid hrd6
          have HW6 := Lib.hid hw6
          have HB6 := Lib.hid hB6
          clear hw6 hB6 hb6 hk6 hs6 hrd6 HX HAp
          go_upto_region 18 with (fail)
          rw [← HB6.out, ← HW6.out]
          go_wp2_with fail
          refine HFn.out.mono ?_
          rintro e w7 ⟨rfl, hfd⟩
          rcases hfd with ⟨j, hj, rfl, hje⟩ | ⟨rfl, hno⟩
          · obtain ⟨Rf, hRf, q1⟩ : ∃ R, Af = some ⟨R, 0, none⟩ ∧ w6.cell? ⟨R, j * 2 + 1, none⟩ = some (s3W fs[j].2) := by
              rcases HS6.out.own.2 with ⟨h', h0⟩ | ⟨g', cap, cur, hv, _⟩
              · omega
              · injection hv with hv _ _
                subst hv
                have := HS6.out.own.cells (g := g') rfl (j * 2 + 1) (s3W fs[j].2) (by rw [enC_at fs j 1 hj (by decide)]; rfl)
                rw [Addr.add_lit, Nat.zero_add] at this
                exact ⟨g', rfl, this⟩
            subst hRf
            have hrdj := HS6.out.rd _ (List.getElem_mem hj)
            rw [Hat.out j hj hje] at hrdj
            obtain ⟨s5, hs5⟩ : ∃ s5, s5 = fs[j].2 := ⟨_, rfl⟩
            rw [← hs5] at q1 hrdj
            obtain ⟨uA, uN, uC⟩ := s5
            have HSm : Hid (∀ q, Calls Try.prog 27 #[.slice sA sN sC, .slice uA uN uC] (w6.drewN q) fun e w' => e = .returned (.bool true) ∧ w' = w6.drewN q) := Lib.hid fun q => by
              refine (same_any sA uA sN uN sC uC _ _ vl2 vl2 (w6.drewN q) (HRd6.out.drewN q) (hrdj.drewN q)).mono ?_
              rintro e w' ⟨rfl, rfl⟩
              exact ⟨by simp, rfl⟩
            unfold s3W at q1
            dsimp only at q1
            have k5 : (0 : Int) ≤ (j : Int) := by omega
            have k6 : (j : Int) < (fs.length : Int) := by omega
            have k7 : ¬ (j : Int) < 0 := by omega
            have HSn : Hid (∀ q, ∃ F p, OrS W (w6.drewN q) F g p (i + 1) (.slice (some ⟨Rf, 0, none⟩) fs.length cf) fs ∧ p.ap = vs) := Lib.hid fun q => ⟨F, p.apply, HS6.out.below (bel_drewN (Below.refl _ _) q), Hap1.out⟩
            have HAd : Hid (∀ q, Calls Try.prog 14 #[.pointer (some ⟨g, 0, none⟩)] (w6.drewN q) fun e w' => e = .returned (.int .u64 (vs : Int)) ∧ w6.drewN q = w') := Lib.hid fun q => by
              have := (HS6.out.ol.below (bel_drewN (Below.refl _ _) q)).applied
              rwa [Hap1.out] at this
            clear hrdj hs5 hje
            go_wp2_with fail
            go_quiet ((go_at_call 27; exact Calls.quiet_of_same (HSm.out _)))
            go_wp2_with fail
            refine (HAd.out _).mono ?_
            rintro e w8 ⟨rfl, rfl⟩
            go_wp2
            go_roundg (gk - 1)
            case measure => omega
            case rel => exact ⟨i + 1, vs, fs, by go_num, rfl, ⟨some ⟨Rf, 0, none⟩, cf, rfl⟩, by omega, by omega, hT40, Lib.hid (HSn.out _)⟩
          · obtain ⟨x, hx, e⟩ := Hhas.out
            exact absurd e (hno x hx)
    · have hlt' : ¬ i < n ∨ (i < n ∧ ¬ i < 200) := by omega
      clear hlt
      have hB : Below W.heap.size W wr := by obtain ⟨F, p, hs, _⟩ := HS.out; exact hs.ol.2.2
      rcases hlt' with h | ⟨h, h'⟩
      · have m1 : ¬ (i : Int) < (n : Int) := by omega
        go_wp2_with fail
        refine (HFin.out _ hB).mono ?_
        rintro e wc ⟨rfl, hb4⟩
        go_wp2
        go_ret
        exact ⟨rfl, hb4⟩
      · have m1 : (i : Int) < (n : Int) := by omega
        have m2 : ¬ (i : Int) < 200 := by omega
        go_wp2_with fail
        refine (HFin.out _ hB).mono ?_
        rintro e wc ⟨rfl, hb4⟩
        go_wp2
        go_ret
        exact ⟨rfl, hb4⟩
namespace rlogOrder
set_option maxRecDepth 100000 in
theorem lifted (os : Os) (started : os.Started) (H : Type) (enc : TypeId × Value → H) :
    ReturnsInHanded {} Try.checked os 4 .any (Rows.rlogOrderSpec.pre6 enc Try.prog Try.f4 Rows.rlogOrderRow.domain false) (Rows.rlogOrderSpec.post enc Try.prog Try.f4 false true false false) := by
  refine law_lift started (by kernel_rfl) Try.func4
    (ChangeSpec.witness6 (enc := enc) (C := Try.checked) false ⟨#[], #[.slice none 0 0], []⟩ 8 (by kernel_rfl) (by kernel_rfl) (by kernel_rfl) (by kernel_rfl))
    rfl ?_ (by kernel_rfl) (by kernel_rfl) ?_
  · intro ds h
    match ds, h with
    | [_], _ => rfl
  intro W base args ds p g
  have hA := g.trod
  have hval := g.val
  rw [Try.params4] at hA hval
  obtain ⟨v0, vs0, d0, ds0, p0, q0, hargs, rfl, rfl, h0, r0⟩ := trodAll_cons hA
  obtain ⟨rfl, rfl, rfl⟩ := trodAll_nil r0
  obtain rfl : args = #[v0] := by cases args; simp_all
  obtain ⟨A0, n0, c0, f0, rfl, hc0, hm0, hr0⟩ := given_as12 (hval 0 22 v0 rfl rfl) h0
  exact rlogOrder_walk A0 n0 c0 f0 W hc0 hm0 hr0

theorem over : Rows.rlogOrderRow.holds Try.pinned (OpenSpec.ofChange Rows.rlogOrderSpec) :=
  OpenClaim.holds_of_wide 4 Try.f4 rfl rfl rfl rfl rfl rfl rfl ⟨rfl, rfl, rfl, rfl, rfl⟩ rfl rfl rfl rfl rfl (by kernel_rfl) Try.func4 (by kernel_rfl)
    (of_decide_eq_true (by kernel_rfl)) (by unfold Func.isWrapper; first | (rw [if_pos (by decide +kernel)]; kernel_rfl) | (rw [if_neg (by decide +kernel)]; exact ⟨rfl, rfl⟩))
    (fun os started H enc _ => lifted os started H enc)
end rlogOrder

theorem RlogOrder_proved : Rows.RlogOrderSaid := rlogOrder.over
#print axioms RlogOrder_proved
end Go.Proofs.Ytpgjilpalhclcaa
