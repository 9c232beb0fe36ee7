/- RlogHoles: each hole is a slot above the applied one that may be learned; when all are filled, all up to the top may be applied. -/
import Derived.Test.YtpgjilpalhclcaaRlHo
namespace Go.Proofs.Ytpgjilpalhclcaa
open Go.ChangeShapes Go.WideShapes Go.ChangeAt Go.RowKit

theorem at_zero {x : Oper} {l : List Oper} : (x :: l)[0]? = some x := rfl
theorem at_suc {x o : Oper} {l : List Oper} {i : Nat} (h : l[i]? = some o) : (x :: l)[i + 1]? = some o := h
theorem at_arr {o : Oper} {l : List Oper} {i : Nat} (h : l[i]? = some o) : l.toArray[i]? = some o := by simpa using h

set_option maxRecDepth 100000 in
set_option maxHeartbeats 8000000 in
theorem rlogHoles_walk (A : Option Addr) (n c : Nat) (f : Nat → Gl) (W : World) (hc1 : n ≤ c) (hc2 : c ≤ 9223372036854775807) (hA : As12 W W.heap.size A n f) : Calls Try.prog 7 #[.slice A n c] W fun e W' => e = .returned (.bool true) ∧ Below W.heap.size W W' := by
  have HL := Lib.hid (long12_any hA ⟨hc1, hc2⟩)
  have HKn := Lib.hid (fun w => known12_any w)
  have HN := Lib.hid (ol_new W)
  have HAc : Hid (∀ w, Below W.heap.size W w → ∀ k, k < n → ∃ b o, A = some ⟨b, o, none⟩ ∧ w.cell? ⟨b, o + k * 3, none⟩ = some (.int .i64 (f k).kind) ∧ w.cell? ⟨b, o + k * 3 + 1, none⟩ = some (.int .u64 ((f k).slot : Int)) ∧ w.cell? ⟨b, o + k * 3 + 2, none⟩ = some (.slice (f k).A (f k).n (f k).c) ∧ Rd w W.heap.size (f k).A (f k).n (f k).val) := Lib.hid fun w hb k hk => by
    obtain ⟨b, o, e, _, hi⟩ := (hA.below hb) (by omega)
    obtain ⟨q0, q1, q2, q3⟩ := hi k hk
    exact ⟨b, o, e, q1, q2, q3, q0.body⟩
  clear hA
  go_enter Try.func7, Try.ntmps7
  go_wp2_with fail
  refine HL.out.mono ?_
  rintro e w1 ⟨lb, rfl, rfl, hlong⟩
  cases lb with
  | true =>
    go_wp2_with fail
    refine (HKn.out _).mono ?_
    rintro e w4 ⟨rfl, hb4⟩
    go_wp2
    go_ret
    exact ⟨rfl, hb4⟩
  | false =>
    have Hlong := Lib.hid (hlong rfl)
    clear hlong
    go_wp2_with fail
    refine HN.out.mono ?_
    rintro e w2 ⟨g, F, rfl, HO⟩
    have HS0 : Hid (HoL W g w2) := Lib.hid ⟨F, _, HO.out, Sm.new (by decide)⟩
    clear HO
    go_upto_block 0 with (fail)
    go_cut [4] from 14 (fun _u wx => Hid (HoL W g wx))
    case first =>
      go_wp2
      go_loopg [4] n (fun gk a wr => ∃ i : Nat, a = .int .i64 (i : Int) ∧ i + gk = n ∧ i ≤ 100 ∧ Hid (HoL W g wr))
      case atStart => exact ⟨0, rfl, by omega, by omega, HS0⟩
      case round =>
        obtain ⟨i, rfl, hig, hi100, HS⟩ := hrel
        by_cases hlt : i < n ∧ i < 100
        · obtain ⟨hin, hi1⟩ := hlt
          have m1 : (i : Int) < (n : Int) := by omega
          have m2 : (i : Int) < 100 := by omega
          have m0 : ¬ (i : Int) < 0 := by omega
          have e5 : IntKind.i64.wrap ((i : Int) + 1) = ((i + 1 : Nat) : Int) := by rw [IntKind.wrap_i64]; omega
          obtain ⟨b, o, rfl, a0, a1, a2, hrd⟩ := HAc.out wr HS.out.bel i hin
          have hvl : (f i).n ≤ 1000 := Hlong.out i hin (by omega)
          obtain ⟨kd, hkd⟩ : ∃ kd, kd = (f i).kind := ⟨_, rfl⟩
          obtain ⟨sl, hsl⟩ : ∃ sl, sl = (f i).slot := ⟨_, rfl⟩
          rw [← hkd] at a0
          rw [← hsl] at a1
          generalize (f i).A = vA at *
          generalize (f i).n = vn at *
          generalize (f i).c = vc at *
          generalize (f i).val = vl at *
          obtain ⟨S, hS⟩ : ∃ S, S = sl % 60 := ⟨_, rfl⟩
          have hS60 : S < 60 := by rw [hS]; exact Nat.mod_lt _ (by decide)
          obtain ⟨r1, r2, r3⟩ := rem_u64 sl 60 (by decide) (by decide)
          rw [← hS] at r1 r2 r3
          have r1 : (sl : Int).tmod 60 = (S : Int) := r1
          have r2 : (sl : Int) % 60 = (S : Int) := r2
          have HLe : Hid (∀ w', Below wr.heap.size wr w' → Calls Try.prog 24 #[.pointer (some ⟨g, 0, none⟩), .int .u64 (S : Int), .slice vA vn vc] w' fun e w' => (∃ r, e = .returned (.int .i64 r)) ∧ Hid (HoL W g w')) := Lib.hid fun w' hb => (HS.out.below hb).learn S hS60 vc (hrd.below (hb.mono HS.out.bel.size)) hvl
          clear hrd hkd hsl hS hvl
          by_cases hk3 : kd ≤ 3
          · go_wp2_with fail
            go_upto_region 10 with (fail)
            go_region_law (go_simp; go_at_call 24; (refine (HLe.out _ (by (repeat' (first | assumption | exact Below.refl _ _ | apply Below.drew | exact bel_drewN (Below.refl _ _) _)))).mono ?_); rintro e w5 ⟨⟨r, rfl⟩, HS5⟩)
            all_goals
              go_wp2
              go_roundg (gk - 1)
              case measure => omega
              case rel => exact ⟨i + 1, by go_num, by omega, by omega, HS5⟩
          · by_cases hk6 : kd ≤ 6
            · have HAp := Lib.hid HS.out.apply
              go_wp2_with fail
              refine HAp.out.mono ?_
              rintro e w5 ⟨⟨x, bq, rfl⟩, HS5⟩
              go_wp2
              go_roundg (gk - 1)
              case measure => omega
              case rel => exact ⟨i + 1, by go_num, by omega, by omega, HS5⟩
            · go_wp2
              go_roundg (gk - 1)
              case measure => omega
              case rel => exact ⟨i + 1, by go_num, by omega, by omega, HS⟩
        · have hlt' : ¬ i < n ∨ (i < n ∧ ¬ i < 100) := by omega
          clear hlt
          rcases hlt' with h | ⟨h, h'⟩
          · have m1 : ¬ (i : Int) < (n : Int) := by omega
            go_wp2_with fail
            go_meet
            exact HS
          · have m1 : (i : Int) < (n : Int) := by omega
            have m2 : ¬ (i : Int) < 100 := by omega
            go_wp2_with fail
            go_meet
            exact HS
    case rest =>
    obtain ⟨p, ht60, HP, HTp⟩ := HoL.facts hcut.out
    clear hcut
    go_wp2_with fail
    refine HTp.out.mono ?_
    clear HTp
    rintro e w6 ⟨rfl, HHo⟩
    go_wp2_with fail
    refine HHo.out.mono ?_
    clear HHo
    rintro e w7 ⟨Ah, ch, rfl, HS⟩
    obtain ⟨N2, hN2⟩ : ∃ N2, N2 = (p.hol 1000 p.top).length := ⟨_, rfl⟩
    have hN1000 : N2 ≤ 1000 := by rw [hN2]; exact hol_len p 1000 p.top
    rw [← hN2] at HS ⊢
    have HN2 := Lib.hid hN2
    clear hN2
    go_wp2
    go_loopg [7] N2 (fun gk a wr => ∃ i : Nat, a = .int .i64 (i : Int) ∧ i + gk = N2 ∧ Hid (HoS W p g (.slice Ah N2 ch) i wr))
    case atStart => exact ⟨0, rfl, by omega, HS⟩
    case round =>
      obtain ⟨i, rfl, hig, HSi⟩ := hrel
      by_cases hi : i < N2
      · obtain ⟨R, rfl⟩ : ∃ R, Ah = some ⟨R, 0, none⟩ := by
          obtain ⟨F, q, _, _, h3, _⟩ := HSi.out
          rcases h3.2 with ⟨h', _⟩ | ⟨g, cap, cur, hv, _⟩
          · injection h' with _ h' _; omega
          · injection hv with hv _ _; exact ⟨g, hv⟩
        obtain ⟨x, y, hx1, hx2, hxy, q0, q1, HC, HAp, HNx, HLe⟩ := HoS.round HSi.out HP.out HN2.out hi
        have m1 : (i : Int) < (N2 : Int) := by omega
        have m0 : ¬ (i : Int) < 0 := by omega
        have e5 : IntKind.i64.wrap ((i : Int) + 1) = ((i + 1 : Nat) : Int) := by rw [IntKind.wrap_i64]; omega
        have c1 : decide ((x : Int) ≤ (p.ap : Int)) = false := by rw [decide_eq_false]; omega
        have c2 : decide ((p.top : Int) ≤ (x : Int)) = false := by rw [decide_eq_false]; omega
        have d1 : decide (x ≤ p.ap) = false := by rw [decide_eq_false]; omega
        have d2 : decide (p.top ≤ x) = false := by rw [decide_eq_false]; omega
        clear HSi hx1 hx2
        by_cases h0 : i = 0
        · have c3 : decide ((0 : Int) < (i : Int)) = false := by rw [decide_eq_false]; omega
          have d3 : decide (0 < i) = false := by rw [decide_eq_false]; omega
          clear q1 hxy h0
          go_wp2_with fail
          refine wp_region_held_drew (S := fun w' => w'.cell? ⟨R, i, none⟩ = some (.int .u64 (x : Int))) (by kernel_rfl) (HC.out _ (by (repeat' (first | assumption | exact Below.refl _ _ | exact Nat.le_refl _ | apply Below.drew | exact bel_drewN (Below.refl _ _) _)))).1 (fun hHeld => ?_)
          refine wpAnyH_take (i := 0) (v := ?v0) (at_arr at_zero) (by kernel_rfl) (by kernel_rfl) (by kernel_rfl) (fun _ _ _ h => h) (Or.inl ⟨by rfl, ?y0⟩) (by assumption) ?r0
          case y0 => (intro w hSw; (try dsimp only at hSw); go_simp; try with_reducible rfl)
          simp only [Act.put, List.setIfInBounds_toArray, List.set_cons_zero, List.set_cons_succ]
          refine wpAnyH_take (i := 1) (v := ?v1) (at_arr (at_suc at_zero)) (by kernel_rfl) (by kernel_rfl) (by kernel_rfl) (fun _ _ _ h => h) (Or.inl ⟨by rfl, ?y1⟩) (by assumption) ?r1
          case y1 => (intro w hSw; (try dsimp only at hSw); go_simp; try with_reducible rfl)
          simp only [Act.put, List.setIfInBounds_toArray, List.set_cons_zero, List.set_cons_succ]
          refine wpAnyH_take (i := 2) (v := ?v2) (at_arr (at_suc (at_suc at_zero))) (by kernel_rfl) (by kernel_rfl) (by kernel_rfl) (fun _ _ _ h => h) (Or.inl ⟨by rfl, ?y2⟩) (by assumption) ?r2
          case y2 => (intro w hSw; (try dsimp only at hSw); go_simp; try with_reducible rfl)
          simp only [Act.put, List.setIfInBounds_toArray, List.set_cons_zero, List.set_cons_succ]
          refine wpAnyH_take (i := 3) (v := ?v3) (at_arr (at_suc (at_suc (at_suc at_zero)))) (by kernel_rfl) (by kernel_rfl) (by kernel_rfl) (fun _ _ _ h => h) (Or.inl ⟨by rfl, ?y3⟩) (by assumption) ?r3
          case y3 => (intro w hSw; (try dsimp only at hSw); go_simp; try with_reducible rfl)
          simp only [Act.put, List.setIfInBounds_toArray, List.set_cons_zero, List.set_cons_succ]
          refine wpAnyH_take (i := 4) (v := ?v4) (at_arr (at_suc (at_suc (at_suc (at_suc at_zero))))) (by kernel_rfl) (by kernel_rfl) (by kernel_rfl) (fun _ _ _ h => h) (Or.inl ⟨by rfl, ?y4⟩) (by assumption) ?r4
          case y4 => (intro w hSw; (try dsimp only at hSw); go_simp; try with_reducible rfl)
          simp only [Act.put, List.setIfInBounds_toArray, List.set_cons_zero, List.set_cons_succ]
          refine wpAnyH_ready (rs := [5]) (by kernel_rfl) (by simp) ?_
          refine AllReadyH.cons (at_arr (at_suc (at_suc (at_suc (at_suc (at_suc at_zero)))))) (fun K hK => ?_) AllReadyH.nil
          go_simp
          go_at_call 14
          with_reducible refine (HAp.out _ (by (repeat' (first | assumption | exact Below.refl _ _ | exact Nat.le_refl _ | apply Below.drew | exact bel_drewN (Below.refl _ _) _)))).mono ?_
          rintro e V1 ⟨rfl, rfl⟩
          go_wp2_with fail
          refine hK.out _ _ hHeld (fun hHeld => ?_)
          clear hK K
          try simp only [Act.put, List.setIfInBounds_toArray, List.set_cons_zero, List.set_cons_succ]
          refine wpAnyH_take (i := 6) (v := ?v6) (at_arr (at_suc (at_suc (at_suc (at_suc (at_suc (at_suc at_zero))))))) (by kernel_rfl) (by kernel_rfl) (by kernel_rfl) (fun _ _ _ h => h) (Or.inl ⟨by rfl, ?y6⟩) (by assumption) ?r6
          case y6 => (intro w hSw; (try dsimp only at hSw); go_simp; try with_reducible rfl)
          simp only [Act.put, List.setIfInBounds_toArray, List.set_cons_zero, List.set_cons_succ]
          refine wpAnyH_take (i := 7) (v := ?v7) (at_arr (at_suc (at_suc (at_suc (at_suc (at_suc (at_suc (at_suc at_zero)))))))) (by kernel_rfl) (by kernel_rfl) (by kernel_rfl) (fun _ _ _ h => h) (Or.inl ⟨by rfl, ?y7⟩) (by assumption) ?r7
          case y7 => (intro w hSw; (try dsimp only at hSw); go_simp; try with_reducible rfl)
          simp only [Act.put, List.setIfInBounds_toArray, List.set_cons_zero, List.set_cons_succ]
          refine wpAnyH_take (i := 8) (v := ?v8) (at_arr (at_suc (at_suc (at_suc (at_suc (at_suc (at_suc (at_suc (at_suc at_zero))))))))) (by kernel_rfl) (by kernel_rfl) (by kernel_rfl) (fun _ _ _ h => h) (Or.inl ⟨by rfl, ?y8⟩) (by assumption) ?r8
          case y8 => (intro w hSw; (try dsimp only at hSw); go_simp; try with_reducible rfl)
          simp only [Act.put, List.setIfInBounds_toArray, List.set_cons_zero, List.set_cons_succ]
          refine wpAnyH_take (i := 9) (v := ?v9) (at_arr (at_suc (at_suc (at_suc (at_suc (at_suc (at_suc (at_suc (at_suc (at_suc at_zero)))))))))) (by kernel_rfl) (by kernel_rfl) (by kernel_rfl) (fun _ _ _ h => h) (Or.inl ⟨by rfl, ?y9⟩) (by assumption) ?r9
          case y9 => (intro w hSw; (try dsimp only at hSw); go_simp; try with_reducible rfl)
          simp only [Act.put, List.setIfInBounds_toArray, List.set_cons_zero, List.set_cons_succ]
          refine wpAnyH_take (i := 10) (v := ?v10) (at_arr (at_suc (at_suc (at_suc (at_suc (at_suc (at_suc (at_suc (at_suc (at_suc (at_suc at_zero))))))))))) (by kernel_rfl) (by kernel_rfl) (by kernel_rfl) (fun _ _ _ h => h) (Or.inl ⟨by rfl, ?y10⟩) (by assumption) ?r10
          case y10 => (intro w hSw; (try dsimp only at hSw); go_simp; try with_reducible rfl)
          simp only [Act.put, List.setIfInBounds_toArray, List.set_cons_zero, List.set_cons_succ]
          refine wpAnyH_take (i := 11) (v := ?v11) (at_arr (at_suc (at_suc (at_suc (at_suc (at_suc (at_suc (at_suc (at_suc (at_suc (at_suc (at_suc at_zero)))))))))))) (by kernel_rfl) (by kernel_rfl) (by kernel_rfl) (fun _ _ _ h => h) (Or.inl ⟨by rfl, ?y11⟩) (by assumption) ?r11
          case y11 => (intro w hSw; (try dsimp only at hSw); go_simp; try with_reducible rfl)
          simp only [Act.put, List.setIfInBounds_toArray, List.set_cons_zero, List.set_cons_succ]
          refine wpAnyH_take (i := 12) (v := ?v12) (at_arr (at_suc (at_suc (at_suc (at_suc (at_suc (at_suc (at_suc (at_suc (at_suc (at_suc (at_suc (at_suc at_zero))))))))))))) (by kernel_rfl) (by kernel_rfl) (by kernel_rfl) (fun _ _ _ h => h) (Or.inl ⟨by rfl, ?y12⟩) (by assumption) ?r12
          case y12 => (intro w hSw; (try dsimp only at hSw); go_simp; try with_reducible rfl)
          simp only [Act.put, List.setIfInBounds_toArray, List.set_cons_zero, List.set_cons_succ]
          refine wpAnyH_take (i := 13) (v := ?v13) (at_arr (at_suc (at_suc (at_suc (at_suc (at_suc (at_suc (at_suc (at_suc (at_suc (at_suc (at_suc (at_suc (at_suc at_zero)))))))))))))) (by kernel_rfl) (by kernel_rfl) (by kernel_rfl) (fun _ _ _ h => h) (Or.inl ⟨by rfl, ?y13⟩) (by assumption) ?r13
          case y13 => (intro w hSw; (try dsimp only at hSw); go_simp; try with_reducible rfl)
          simp only [Act.put, List.setIfInBounds_toArray, List.set_cons_zero, List.set_cons_succ]
          refine wpAnyH_take (i := 14) (v := ?v14) (at_arr (at_suc (at_suc (at_suc (at_suc (at_suc (at_suc (at_suc (at_suc (at_suc (at_suc (at_suc (at_suc (at_suc (at_suc at_zero))))))))))))))) (by kernel_rfl) (by kernel_rfl) (by kernel_rfl) (fun _ _ _ h => h) (Or.inl ⟨by rfl, ?y14⟩) (by assumption) ?r14
          case y14 => (intro w hSw; (try dsimp only at hSw); go_simp; try with_reducible rfl)
          simp only [Act.put, List.setIfInBounds_toArray, List.set_cons_zero, List.set_cons_succ]
          refine wpAnyH_take (i := 15) (v := ?v15) (at_arr (at_suc (at_suc (at_suc (at_suc (at_suc (at_suc (at_suc (at_suc (at_suc (at_suc (at_suc (at_suc (at_suc (at_suc (at_suc at_zero)))))))))))))))) (by kernel_rfl) (by kernel_rfl) (by kernel_rfl) (fun _ _ _ h => h) (Or.inl ⟨by rfl, ?y15⟩) (by assumption) ?r15
          case y15 => (intro w hSw; (try dsimp only at hSw); go_simp; try with_reducible rfl)
          simp only [Act.put, List.setIfInBounds_toArray, List.set_cons_zero, List.set_cons_succ]
          refine wpAnyH_take (i := 16) (v := ?v16) (at_arr (at_suc (at_suc (at_suc (at_suc (at_suc (at_suc (at_suc (at_suc (at_suc (at_suc (at_suc (at_suc (at_suc (at_suc (at_suc (at_suc at_zero))))))))))))))))) (by kernel_rfl) (by kernel_rfl) (by kernel_rfl) (fun _ _ _ h => h) (Or.inl ⟨by rfl, ?y16⟩) (by assumption) ?r16
          case y16 => (intro w hSw; (try dsimp only at hSw); go_simp; try with_reducible rfl)
          simp only [Act.put, List.setIfInBounds_toArray, List.set_cons_zero, List.set_cons_succ]
          refine wpAnyH_take (i := 17) (v := ?v17) (at_arr (at_suc (at_suc (at_suc (at_suc (at_suc (at_suc (at_suc (at_suc (at_suc (at_suc (at_suc (at_suc (at_suc (at_suc (at_suc (at_suc (at_suc at_zero)))))))))))))))))) (by kernel_rfl) (by kernel_rfl) (by kernel_rfl) (fun _ _ _ h => h) (Or.inl ⟨by rfl, ?y17⟩) (by assumption) ?r17
          case y17 => (intro w hSw; (try dsimp only at hSw); go_simp; try with_reducible rfl)
          simp only [Act.put, List.setIfInBounds_toArray, List.set_cons_zero, List.set_cons_succ]
          refine wpAnyH_take (i := 18) (v := ?v18) (at_arr (at_suc (at_suc (at_suc (at_suc (at_suc (at_suc (at_suc (at_suc (at_suc (at_suc (at_suc (at_suc (at_suc (at_suc (at_suc (at_suc (at_suc (at_suc at_zero))))))))))))))))))) (by kernel_rfl) (by kernel_rfl) (by kernel_rfl) (fun _ _ _ h => h) (Or.inl ⟨by rfl, ?y18⟩) (by assumption) ?r18
          case y18 => (intro w hSw; (try dsimp only at hSw); go_simp; try with_reducible rfl)
          simp only [Act.put, List.setIfInBounds_toArray, List.set_cons_zero, List.set_cons_succ]
          refine wpAnyH_take (i := 19) (at_arr (at_suc (at_suc (at_suc (at_suc (at_suc (at_suc (at_suc (at_suc (at_suc (at_suc (at_suc (at_suc (at_suc (at_suc (at_suc (at_suc (at_suc (at_suc (at_suc at_zero)))))))))))))))))))) (by kernel_rfl) (by kernel_rfl) (by kernel_rfl) (fun _ _ _ h => h) (Or.inr ⟨by rfl, rfl⟩) (by assumption) ?_
          simp only [Act.put, List.setIfInBounds_toArray, List.set_cons_zero, List.set_cons_succ]
          refine wpAnyH_take (i := 20) (at_arr (at_suc (at_suc (at_suc (at_suc (at_suc (at_suc (at_suc (at_suc (at_suc (at_suc (at_suc (at_suc (at_suc (at_suc (at_suc (at_suc (at_suc (at_suc (at_suc (at_suc at_zero))))))))))))))))))))) (by kernel_rfl) (by kernel_rfl) (by kernel_rfl) (fun _ _ _ h => h) (Or.inr ⟨by rfl, rfl⟩) (by assumption) ?_
          simp only [Act.put, List.setIfInBounds_toArray, List.set_cons_zero, List.set_cons_succ]
          refine wpAnyH_take (i := 21) (at_arr (at_suc (at_suc (at_suc (at_suc (at_suc (at_suc (at_suc (at_suc (at_suc (at_suc (at_suc (at_suc (at_suc (at_suc (at_suc (at_suc (at_suc (at_suc (at_suc (at_suc (at_suc at_zero)))))))))))))))))))))) (by kernel_rfl) (by kernel_rfl) (by kernel_rfl) (fun _ _ _ h => h) (Or.inr ⟨by rfl, rfl⟩) (by assumption) ?_
          simp only [Act.put, List.setIfInBounds_toArray, List.set_cons_zero, List.set_cons_succ]
          refine wpAnyH_take (i := 22) (at_arr (at_suc (at_suc (at_suc (at_suc (at_suc (at_suc (at_suc (at_suc (at_suc (at_suc (at_suc (at_suc (at_suc (at_suc (at_suc (at_suc (at_suc (at_suc (at_suc (at_suc (at_suc (at_suc at_zero))))))))))))))))))))))) (by kernel_rfl) (by kernel_rfl) (by kernel_rfl) (fun _ _ _ h => h) (Or.inr ⟨by rfl, rfl⟩) (by assumption) ?_
          simp only [Act.put, List.setIfInBounds_toArray, List.set_cons_zero, List.set_cons_succ]
          refine wpAnyH_take (i := 23) (at_arr (at_suc (at_suc (at_suc (at_suc (at_suc (at_suc (at_suc (at_suc (at_suc (at_suc (at_suc (at_suc (at_suc (at_suc (at_suc (at_suc (at_suc (at_suc (at_suc (at_suc (at_suc (at_suc (at_suc at_zero)))))))))))))))))))))))) (by kernel_rfl) (by kernel_rfl) (by kernel_rfl) (fun _ _ _ h => h) (Or.inr ⟨by rfl, rfl⟩) (by assumption) ?_
          simp only [Act.put, List.setIfInBounds_toArray, List.set_cons_zero, List.set_cons_succ]
          refine wpAnyH_take (i := 24) (at_arr (at_suc (at_suc (at_suc (at_suc (at_suc (at_suc (at_suc (at_suc (at_suc (at_suc (at_suc (at_suc (at_suc (at_suc (at_suc (at_suc (at_suc (at_suc (at_suc (at_suc (at_suc (at_suc (at_suc (at_suc at_zero))))))))))))))))))))))))) (by kernel_rfl) (by kernel_rfl) (by kernel_rfl) (fun _ _ _ h => h) (Or.inr ⟨by rfl, rfl⟩) (by assumption) ?_
          simp only [Act.put, List.setIfInBounds_toArray, List.set_cons_zero, List.set_cons_succ]
          refine wpAnyH_take (i := 25) (at_arr (at_suc (at_suc (at_suc (at_suc (at_suc (at_suc (at_suc (at_suc (at_suc (at_suc (at_suc (at_suc (at_suc (at_suc (at_suc (at_suc (at_suc (at_suc (at_suc (at_suc (at_suc (at_suc (at_suc (at_suc (at_suc at_zero)))))))))))))))))))))))))) (by kernel_rfl) (by kernel_rfl) (by kernel_rfl) (fun _ _ _ h => h) (Or.inr ⟨by rfl, rfl⟩) (by assumption) ?_
          simp only [Act.put, List.setIfInBounds_toArray, List.set_cons_zero, List.set_cons_succ]
          refine wpAnyH_take (i := 26) (at_arr (at_suc (at_suc (at_suc (at_suc (at_suc (at_suc (at_suc (at_suc (at_suc (at_suc (at_suc (at_suc (at_suc (at_suc (at_suc (at_suc (at_suc (at_suc (at_suc (at_suc (at_suc (at_suc (at_suc (at_suc (at_suc (at_suc at_zero))))))))))))))))))))))))))) (by kernel_rfl) (by kernel_rfl) (by kernel_rfl) (fun _ _ _ h => h) (Or.inr ⟨by rfl, rfl⟩) (by assumption) ?_
          simp only [Act.put, List.setIfInBounds_toArray, List.set_cons_zero, List.set_cons_succ]
          refine wpAnyH_take (i := 27) (at_arr (at_suc (at_suc (at_suc (at_suc (at_suc (at_suc (at_suc (at_suc (at_suc (at_suc (at_suc (at_suc (at_suc (at_suc (at_suc (at_suc (at_suc (at_suc (at_suc (at_suc (at_suc (at_suc (at_suc (at_suc (at_suc (at_suc (at_suc at_zero)))))))))))))))))))))))))))) (by kernel_rfl) (by kernel_rfl) (by kernel_rfl) (fun _ _ _ h => h) (Or.inr ⟨by rfl, rfl⟩) (by assumption) ?_
          simp only [Act.put, List.setIfInBounds_toArray, List.set_cons_zero, List.set_cons_succ]
          refine wpAnyH_take (i := 28) (at_arr (at_suc (at_suc (at_suc (at_suc (at_suc (at_suc (at_suc (at_suc (at_suc (at_suc (at_suc (at_suc (at_suc (at_suc (at_suc (at_suc (at_suc (at_suc (at_suc (at_suc (at_suc (at_suc (at_suc (at_suc (at_suc (at_suc (at_suc (at_suc at_zero))))))))))))))))))))))))))))) (by kernel_rfl) (by kernel_rfl) (by kernel_rfl) (fun _ _ _ h => h) (Or.inr ⟨by rfl, rfl⟩) (by assumption) ?_
          simp only [Act.put, List.setIfInBounds_toArray, List.set_cons_zero, List.set_cons_succ]
          refine wpAnyH_take (i := 29) (v := ?v29) (at_arr (at_suc (at_suc (at_suc (at_suc (at_suc (at_suc (at_suc (at_suc (at_suc (at_suc (at_suc (at_suc (at_suc (at_suc (at_suc (at_suc (at_suc (at_suc (at_suc (at_suc (at_suc (at_suc (at_suc (at_suc (at_suc (at_suc (at_suc (at_suc (at_suc at_zero)))))))))))))))))))))))))))))) (by kernel_rfl) (by kernel_rfl) (by kernel_rfl) (fun _ _ _ h => h) (Or.inl ⟨by rfl, ?y29⟩) (by assumption) ?r29
          case y29 => (intro w hSw; (try dsimp only at hSw); go_simp; try with_reducible rfl)
          simp only [Act.put, List.setIfInBounds_toArray, List.set_cons_zero, List.set_cons_succ]
          refine wpAnyH_take (i := 30) (v := ?v30) (at_arr (at_suc (at_suc (at_suc (at_suc (at_suc (at_suc (at_suc (at_suc (at_suc (at_suc (at_suc (at_suc (at_suc (at_suc (at_suc (at_suc (at_suc (at_suc (at_suc (at_suc (at_suc (at_suc (at_suc (at_suc (at_suc (at_suc (at_suc (at_suc (at_suc (at_suc at_zero))))))))))))))))))))))))))))))) (by kernel_rfl) (by kernel_rfl) (by kernel_rfl) (fun _ _ _ h => h) (Or.inl ⟨by rfl, ?y30⟩) (by assumption) ?r30
          case y30 => (intro w hSw; (try dsimp only at hSw); go_simp; try with_reducible rfl)
          simp only [Act.put, List.setIfInBounds_toArray, List.set_cons_zero, List.set_cons_succ]
          refine wpAnyH_take (i := 31) (v := ?v31) (at_arr (at_suc (at_suc (at_suc (at_suc (at_suc (at_suc (at_suc (at_suc (at_suc (at_suc (at_suc (at_suc (at_suc (at_suc (at_suc (at_suc (at_suc (at_suc (at_suc (at_suc (at_suc (at_suc (at_suc (at_suc (at_suc (at_suc (at_suc (at_suc (at_suc (at_suc (at_suc at_zero)))))))))))))))))))))))))))))))) (by kernel_rfl) (by kernel_rfl) (by kernel_rfl) (fun _ _ _ h => h) (Or.inl ⟨by rfl, ?y31⟩) (by assumption) ?r31
          case y31 => (intro w hSw; (try dsimp only at hSw); go_simp; try with_reducible rfl)
          simp only [Act.put, List.setIfInBounds_toArray, List.set_cons_zero, List.set_cons_succ]
          refine wpAnyH_take (i := 32) (v := ?v32) (at_arr (at_suc (at_suc (at_suc (at_suc (at_suc (at_suc (at_suc (at_suc (at_suc (at_suc (at_suc (at_suc (at_suc (at_suc (at_suc (at_suc (at_suc (at_suc (at_suc (at_suc (at_suc (at_suc (at_suc (at_suc (at_suc (at_suc (at_suc (at_suc (at_suc (at_suc (at_suc (at_suc at_zero))))))))))))))))))))))))))))))))) (by kernel_rfl) (by kernel_rfl) (by kernel_rfl) (fun _ _ _ h => h) (Or.inl ⟨by rfl, ?y32⟩) (by assumption) ?r32
          case y32 => (intro w hSw; (try dsimp only at hSw); go_simp; try with_reducible rfl)
          simp only [Act.put, List.setIfInBounds_toArray, List.set_cons_zero, List.set_cons_succ]
          refine wpAnyH_take (i := 34) (v := ?v34) (at_arr (at_suc (at_suc (at_suc (at_suc (at_suc (at_suc (at_suc (at_suc (at_suc (at_suc (at_suc (at_suc (at_suc (at_suc (at_suc (at_suc (at_suc (at_suc (at_suc (at_suc (at_suc (at_suc (at_suc (at_suc (at_suc (at_suc (at_suc (at_suc (at_suc (at_suc (at_suc (at_suc (at_suc (at_suc at_zero))))))))))))))))))))))))))))))))))) (by kernel_rfl) (by kernel_rfl) (by kernel_rfl) (fun _ _ _ h => h) (Or.inl ⟨by rfl, ?y34⟩) (by assumption) ?r34
          case y34 => (intro w hSw; (try dsimp only at hSw); go_simp; try with_reducible rfl)
          simp only [Act.put, List.setIfInBounds_toArray, List.set_cons_zero, List.set_cons_succ]
          refine wpAnyH_take (i := 35) (v := ?v35) (at_arr (at_suc (at_suc (at_suc (at_suc (at_suc (at_suc (at_suc (at_suc (at_suc (at_suc (at_suc (at_suc (at_suc (at_suc (at_suc (at_suc (at_suc (at_suc (at_suc (at_suc (at_suc (at_suc (at_suc (at_suc (at_suc (at_suc (at_suc (at_suc (at_suc (at_suc (at_suc (at_suc (at_suc (at_suc (at_suc at_zero)))))))))))))))))))))))))))))))))))) (by kernel_rfl) (by kernel_rfl) (by kernel_rfl) (fun _ _ _ h => h) (Or.inl ⟨by rfl, ?y35⟩) (by assumption) ?r35
          case y35 => (intro w hSw; (try dsimp only at hSw); go_simp; try with_reducible rfl)
          simp only [Act.put, List.setIfInBounds_toArray, List.set_cons_zero, List.set_cons_succ]
          refine wpAnyH_take (i := 36) (v := ?v36) (at_arr (at_suc (at_suc (at_suc (at_suc (at_suc (at_suc (at_suc (at_suc (at_suc (at_suc (at_suc (at_suc (at_suc (at_suc (at_suc (at_suc (at_suc (at_suc (at_suc (at_suc (at_suc (at_suc (at_suc (at_suc (at_suc (at_suc (at_suc (at_suc (at_suc (at_suc (at_suc (at_suc (at_suc (at_suc (at_suc (at_suc at_zero))))))))))))))))))))))))))))))))))))) (by kernel_rfl) (by kernel_rfl) (by kernel_rfl) (fun _ _ _ h => h) (Or.inl ⟨by rfl, ?y36⟩) (by assumption) ?r36
          case y36 => (intro w hSw; (try dsimp only at hSw); go_simp; try with_reducible rfl)
          simp only [Act.put, List.setIfInBounds_toArray, List.set_cons_zero, List.set_cons_succ]
          refine wpAnyH_take (i := 37) (v := ?v37) (at_arr (at_suc (at_suc (at_suc (at_suc (at_suc (at_suc (at_suc (at_suc (at_suc (at_suc (at_suc (at_suc (at_suc (at_suc (at_suc (at_suc (at_suc (at_suc (at_suc (at_suc (at_suc (at_suc (at_suc (at_suc (at_suc (at_suc (at_suc (at_suc (at_suc (at_suc (at_suc (at_suc (at_suc (at_suc (at_suc (at_suc (at_suc at_zero)))))))))))))))))))))))))))))))))))))) (by kernel_rfl) (by kernel_rfl) (by kernel_rfl) (fun _ _ _ h => h) (Or.inl ⟨by rfl, ?y37⟩) (by assumption) ?r37
          case y37 => (intro w hSw; (try dsimp only at hSw); go_simp; try with_reducible rfl)
          simp only [Act.put, List.setIfInBounds_toArray, List.set_cons_zero, List.set_cons_succ]
          refine wpAnyH_ready (rs := [33]) (by kernel_rfl) (by simp) ?_
          refine AllReadyH.cons (at_arr (at_suc (at_suc (at_suc (at_suc (at_suc (at_suc (at_suc (at_suc (at_suc (at_suc (at_suc (at_suc (at_suc (at_suc (at_suc (at_suc (at_suc (at_suc (at_suc (at_suc (at_suc (at_suc (at_suc (at_suc (at_suc (at_suc (at_suc (at_suc (at_suc (at_suc (at_suc (at_suc (at_suc at_zero)))))))))))))))))))))))))))))))))) (fun K hK => ?_) AllReadyH.nil
          go_simp
          go_at_call 15
          with_reducible refine (HNx.out _ (by (repeat' (first | assumption | exact Below.refl _ _ | exact Nat.le_refl _ | apply Below.drew | exact bel_drewN (Below.refl _ _) _)))).mono ?_
          rintro e V1 ⟨rfl, hv1⟩
          have hd1 : Below wr.heap.size wr V1 := below_then (by (repeat' (first | assumption | exact Below.refl _ _ | exact Nat.le_refl _ | apply Below.drew | exact bel_drewN (Below.refl _ _) _))) hv1
          go_wp2_with fail
          refine hK.out _ _ (HC.out _ hd1).1 (fun hHeld => ?_)
          clear hK K
          try simp only [Act.put, List.setIfInBounds_toArray, List.set_cons_zero, List.set_cons_succ]
          refine wpAnyH_take (i := 38) (v := ?v38) (at_arr (at_suc (at_suc (at_suc (at_suc (at_suc (at_suc (at_suc (at_suc (at_suc (at_suc (at_suc (at_suc (at_suc (at_suc (at_suc (at_suc (at_suc (at_suc (at_suc (at_suc (at_suc (at_suc (at_suc (at_suc (at_suc (at_suc (at_suc (at_suc (at_suc (at_suc (at_suc (at_suc (at_suc (at_suc (at_suc (at_suc (at_suc (at_suc at_zero))))))))))))))))))))))))))))))))))))))) (by kernel_rfl) (by kernel_rfl) (by kernel_rfl) (fun _ _ _ h => h) (Or.inl ⟨by rfl, ?y38⟩) (by assumption) ?r38
          case y38 => (intro w hSw; (try dsimp only at hSw); go_simp; try with_reducible rfl)
          simp only [Act.put, List.setIfInBounds_toArray, List.set_cons_zero, List.set_cons_succ]
          refine wpAnyH_take (i := 39) (v := ?v39) (at_arr (at_suc (at_suc (at_suc (at_suc (at_suc (at_suc (at_suc (at_suc (at_suc (at_suc (at_suc (at_suc (at_suc (at_suc (at_suc (at_suc (at_suc (at_suc (at_suc (at_suc (at_suc (at_suc (at_suc (at_suc (at_suc (at_suc (at_suc (at_suc (at_suc (at_suc (at_suc (at_suc (at_suc (at_suc (at_suc (at_suc (at_suc (at_suc (at_suc at_zero)))))))))))))))))))))))))))))))))))))))) (by kernel_rfl) (by kernel_rfl) (by kernel_rfl) (fun _ _ _ h => h) (Or.inl ⟨by rfl, ?y39⟩) (by assumption) ?r39
          case y39 => (intro w hSw; (try dsimp only at hSw); go_simp; try with_reducible rfl)
          simp only [Act.put, List.setIfInBounds_toArray, List.set_cons_zero, List.set_cons_succ]
          refine wpAnyH_take (i := 40) (v := ?v40) (at_arr (at_suc (at_suc (at_suc (at_suc (at_suc (at_suc (at_suc (at_suc (at_suc (at_suc (at_suc (at_suc (at_suc (at_suc (at_suc (at_suc (at_suc (at_suc (at_suc (at_suc (at_suc (at_suc (at_suc (at_suc (at_suc (at_suc (at_suc (at_suc (at_suc (at_suc (at_suc (at_suc (at_suc (at_suc (at_suc (at_suc (at_suc (at_suc (at_suc (at_suc at_zero))))))))))))))))))))))))))))))))))))))))) (by kernel_rfl) (by kernel_rfl) (by kernel_rfl) (fun _ _ _ h => h) (Or.inl ⟨by rfl, ?y40⟩) (by assumption) ?r40
          case y40 => (intro w hSw; (try dsimp only at hSw); go_simp; try with_reducible rfl)
          simp only [Act.put, List.setIfInBounds_toArray, List.set_cons_zero, List.set_cons_succ]
          refine wpAnyH_take (i := 41) (v := ?v41) (at_arr (at_suc (at_suc (at_suc (at_suc (at_suc (at_suc (at_suc (at_suc (at_suc (at_suc (at_suc (at_suc (at_suc (at_suc (at_suc (at_suc (at_suc (at_suc (at_suc (at_suc (at_suc (at_suc (at_suc (at_suc (at_suc (at_suc (at_suc (at_suc (at_suc (at_suc (at_suc (at_suc (at_suc (at_suc (at_suc (at_suc (at_suc (at_suc (at_suc (at_suc (at_suc at_zero)))))))))))))))))))))))))))))))))))))))))) (by kernel_rfl) (by kernel_rfl) (by kernel_rfl) (fun _ _ _ h => h) (Or.inl ⟨by rfl, ?y41⟩) (by assumption) ?r41
          case y41 => (intro w hSw; (try dsimp only at hSw); go_simp; try with_reducible rfl)
          simp only [Act.put, List.setIfInBounds_toArray, List.set_cons_zero, List.set_cons_succ]
          refine wpAnyH_take (i := 42) (v := ?v42) (at_arr (at_suc (at_suc (at_suc (at_suc (at_suc (at_suc (at_suc (at_suc (at_suc (at_suc (at_suc (at_suc (at_suc (at_suc (at_suc (at_suc (at_suc (at_suc (at_suc (at_suc (at_suc (at_suc (at_suc (at_suc (at_suc (at_suc (at_suc (at_suc (at_suc (at_suc (at_suc (at_suc (at_suc (at_suc (at_suc (at_suc (at_suc (at_suc (at_suc (at_suc (at_suc (at_suc at_zero))))))))))))))))))))))))))))))))))))))))))) (by kernel_rfl) (by kernel_rfl) (by kernel_rfl) (fun _ _ _ h => h) (Or.inl ⟨by rfl, ?y42⟩) (by assumption) ?r42
          case y42 => (intro w hSw; (try dsimp only at hSw); go_simp; try with_reducible rfl)
          simp only [Act.put, List.setIfInBounds_toArray, List.set_cons_zero, List.set_cons_succ]
          refine wpAnyH_take (i := 43) (v := ?v43) (at_arr (at_suc (at_suc (at_suc (at_suc (at_suc (at_suc (at_suc (at_suc (at_suc (at_suc (at_suc (at_suc (at_suc (at_suc (at_suc (at_suc (at_suc (at_suc (at_suc (at_suc (at_suc (at_suc (at_suc (at_suc (at_suc (at_suc (at_suc (at_suc (at_suc (at_suc (at_suc (at_suc (at_suc (at_suc (at_suc (at_suc (at_suc (at_suc (at_suc (at_suc (at_suc (at_suc (at_suc at_zero)))))))))))))))))))))))))))))))))))))))))))) (by kernel_rfl) (by kernel_rfl) (by kernel_rfl) (fun _ _ _ h => h) (Or.inl ⟨by rfl, ?y43⟩) (by assumption) ?r43
          case y43 => (intro w hSw; (try dsimp only at hSw); go_simp; try with_reducible rfl)
          simp only [Act.put, List.setIfInBounds_toArray, List.set_cons_zero, List.set_cons_succ]
          refine wpAnyH_take (i := 44) (v := ?v44) (at_arr (at_suc (at_suc (at_suc (at_suc (at_suc (at_suc (at_suc (at_suc (at_suc (at_suc (at_suc (at_suc (at_suc (at_suc (at_suc (at_suc (at_suc (at_suc (at_suc (at_suc (at_suc (at_suc (at_suc (at_suc (at_suc (at_suc (at_suc (at_suc (at_suc (at_suc (at_suc (at_suc (at_suc (at_suc (at_suc (at_suc (at_suc (at_suc (at_suc (at_suc (at_suc (at_suc (at_suc (at_suc at_zero))))))))))))))))))))))))))))))))))))))))))))) (by kernel_rfl) (by kernel_rfl) (by kernel_rfl) (fun _ _ _ h => h) (Or.inl ⟨by rfl, ?y44⟩) (by assumption) ?r44
          case y44 => (intro w hSw; (try dsimp only at hSw); go_simp; try with_reducible rfl)
          simp only [Act.put, List.setIfInBounds_toArray, List.set_cons_zero, List.set_cons_succ]
          refine wpAnyH_take (i := 45) (v := ?v45) (at_arr (at_suc (at_suc (at_suc (at_suc (at_suc (at_suc (at_suc (at_suc (at_suc (at_suc (at_suc (at_suc (at_suc (at_suc (at_suc (at_suc (at_suc (at_suc (at_suc (at_suc (at_suc (at_suc (at_suc (at_suc (at_suc (at_suc (at_suc (at_suc (at_suc (at_suc (at_suc (at_suc (at_suc (at_suc (at_suc (at_suc (at_suc (at_suc (at_suc (at_suc (at_suc (at_suc (at_suc (at_suc (at_suc at_zero)))))))))))))))))))))))))))))))))))))))))))))) (by kernel_rfl) (by kernel_rfl) (by kernel_rfl) (fun _ _ _ h => h) (Or.inl ⟨by rfl, ?y45⟩) (by assumption) ?r45
          case y45 => (intro w hSw; (try dsimp only at hSw); go_simp; try with_reducible rfl)
          simp only [Act.put, List.setIfInBounds_toArray, List.set_cons_zero, List.set_cons_succ]
          refine wpAnyH_ready (rs := [46]) (by kernel_rfl) (by simp) ?_
          refine AllReadyH.cons (at_arr (at_suc (at_suc (at_suc (at_suc (at_suc (at_suc (at_suc (at_suc (at_suc (at_suc (at_suc (at_suc (at_suc (at_suc (at_suc (at_suc (at_suc (at_suc (at_suc (at_suc (at_suc (at_suc (at_suc (at_suc (at_suc (at_suc (at_suc (at_suc (at_suc (at_suc (at_suc (at_suc (at_suc (at_suc (at_suc (at_suc (at_suc (at_suc (at_suc (at_suc (at_suc (at_suc (at_suc (at_suc (at_suc (at_suc at_zero))))))))))))))))))))))))))))))))))))))))))))))) (fun K hK => ?_) AllReadyH.nil
          go_simp
          go_at_call 24
          with_reducible refine (HLe.out _ (by (repeat' (first | assumption | exact Below.refl _ _ | exact Nat.le_refl _ | apply Below.drew | exact bel_drewN (Below.refl _ _) _)))).mono ?_
          rintro e V2 ⟨rfl, ⟨hk2, _⟩, HS2⟩
          go_wp2_with fail
          refine hK.out _ _ hk2 (fun hHeld => ?_)
          clear hK K
          try simp only [Act.put, List.setIfInBounds_toArray, List.set_cons_zero, List.set_cons_succ]
          refine wpAnyH_take (i := 47) (v := ?v47) (at_arr (at_suc (at_suc (at_suc (at_suc (at_suc (at_suc (at_suc (at_suc (at_suc (at_suc (at_suc (at_suc (at_suc (at_suc (at_suc (at_suc (at_suc (at_suc (at_suc (at_suc (at_suc (at_suc (at_suc (at_suc (at_suc (at_suc (at_suc (at_suc (at_suc (at_suc (at_suc (at_suc (at_suc (at_suc (at_suc (at_suc (at_suc (at_suc (at_suc (at_suc (at_suc (at_suc (at_suc (at_suc (at_suc (at_suc (at_suc at_zero)))))))))))))))))))))))))))))))))))))))))))))))) (by kernel_rfl) (by kernel_rfl) (by kernel_rfl) (fun _ _ _ h => h) (Or.inl ⟨by rfl, ?y47⟩) (by assumption) ?r47
          case y47 => (intro w hSw; (try dsimp only at hSw); go_simp; try with_reducible rfl)
          simp only [Act.put, List.setIfInBounds_toArray, List.set_cons_zero, List.set_cons_succ]
          refine wpAnyH_take (i := 48) (v := ?v48) (at_arr (at_suc (at_suc (at_suc (at_suc (at_suc (at_suc (at_suc (at_suc (at_suc (at_suc (at_suc (at_suc (at_suc (at_suc (at_suc (at_suc (at_suc (at_suc (at_suc (at_suc (at_suc (at_suc (at_suc (at_suc (at_suc (at_suc (at_suc (at_suc (at_suc (at_suc (at_suc (at_suc (at_suc (at_suc (at_suc (at_suc (at_suc (at_suc (at_suc (at_suc (at_suc (at_suc (at_suc (at_suc (at_suc (at_suc (at_suc (at_suc at_zero))))))))))))))))))))))))))))))))))))))))))))))))) (by kernel_rfl) (by kernel_rfl) (by kernel_rfl) (fun _ _ _ h => h) (Or.inl ⟨by rfl, ?y48⟩) (by assumption) ?r48
          case y48 => (intro w hSw; (try dsimp only at hSw); go_simp; try with_reducible rfl)
          simp only [Act.put, List.setIfInBounds_toArray, List.set_cons_zero, List.set_cons_succ]
          refine wpAnyH_done (by kernel_rfl) ?_ _
          go_wp2
          go_roundg (gk - 1)
          case measure => omega
          case rel => exact ⟨i + 1, by go_num, by omega, HS2⟩
        · have c3 : decide ((0 : Int) < (i : Int)) = true := by rw [decide_eq_true]; omega
          have d3 : decide (0 < i) = true := by rw [decide_eq_true]; omega
          have q1' := q1 (by omega)
          have Hp0 := Lib.hid (show 0 < i by omega)
          have hxy' := hxy (by omega)
          have c4 : decide ((x : Int) ≤ (y : Int)) = false := by rw [decide_eq_false]; omega
          have d4 : decide (x ≤ y) = false := by rw [decide_eq_false]; omega
          obtain ⟨j, hj⟩ : ∃ j, j = i - 1 := ⟨_, rfl⟩
          have e6 : IntKind.i64.wrap ((i : Int) - 1) = (j : Int) := by rw [IntKind.wrap_i64]; omega
          have m3 : (j : Int) < (N2 : Int) := by omega
          have m4 : ¬ (j : Int) < 0 := by omega
          rw [← hj] at q1' HC HLe
          clear q1 hxy h0 hxy' hj
          go_wp2_with fail
          first
            | (go_region_held3 (fun w' => w'.cell? ⟨R, i, none⟩ = some (.int .u64 (x : Int)) ∧ w'.cell? ⟨R, j, none⟩ = some (.int .u64 (y : Int))) (first | exact ⟨hk2, hk3 Hp0.out⟩ | exact (And.intro (HC.out _ (by (repeat' (first | assumption | exact Below.refl _ _ | exact Nat.le_refl _ | apply Below.drew)); done)).1 ((HC.out _ (by (repeat' (first | assumption | exact Below.refl _ _ | exact Nat.le_refl _ | apply Below.drew)); done)).2 Hp0.out)) | go_keep)
                  (first
                    | (go_at_call 14; with_reducible refine (HAp.out _ (by (repeat' (first | assumption | exact Below.refl _ _ | apply Below.drew | exact bel_drewN (Below.refl _ _) _)))).mono ?_; rintro e V1 ⟨rfl, rfl⟩)
                    | (go_at_call 15; with_reducible refine (HNx.out _ (by (repeat' (first | assumption | exact Below.refl _ _ | apply Below.drew | exact bel_drewN (Below.refl _ _) _)))).mono ?_; rintro e V1 ⟨rfl, hv1⟩; have hd1 : Below wr.heap.size wr V1 := below_then (by (repeat' (first | assumption | exact Below.refl _ _ | exact Nat.le_refl _ | apply Below.drew | exact bel_drewN (Below.refl _ _) _))) hv1)
                    | (go_at_call 24; with_reducible refine (HLe.out _ (by (repeat' (first | assumption | exact Below.refl _ _ | apply Below.drew | exact bel_drewN (Below.refl _ _) _)))).mono ?_; rintro e V2 ⟨rfl, ⟨hk2, hk3⟩, HS2⟩)))
            | fail
          all_goals
            go_wp2
            go_roundg (gk - 1)
            case measure => omega
            case rel => exact ⟨i + 1, by go_num, by omega, HS2⟩
      · obtain rfl : i = N2 := by omega
        have m1 : ¬ (i : Int) < (i : Int) := by omega
        have HD := Lib.hid (HoS.done HSi.out HP.out HN2.out)
        obtain ⟨T1, hT1⟩ : ∃ T1, T1 = p.top + 1 := ⟨_, rfl⟩
        rw [← hT1] at HD
        have e7 : IntKind.u64.wrap ((p.top : Int) + 1) = (T1 : Int) := by rw [IntKind.wrap_u64]; omega
        clear HSi HS hT1
        go_wp2_with fail
        refine HD.out.mono ?_
        clear HD
        rintro e w8 ⟨A8, c8, rfl, HX8⟩
        go_wp2_with fail
        refine HX8.out.mono ?_
        clear HX8
        rintro e w9 ⟨rfl, HX9⟩
        go_wp2_with fail
        refine HX9.out.mono ?_
        clear HX9
        rintro e wa ⟨⟨v, rfl⟩, HXa, HB⟩
        go_wp2_with fail
        refine HXa.out.mono ?_
        clear HXa
        rintro e wb ⟨rfl, rfl⟩
        go_wp2_with fail
        refine (HKn.out _).mono ?_
        rintro e wc ⟨rfl, hb4⟩
        have HB4 := Lib.hid (below_then HB.out hb4)
        clear hb4
        go_wp2
        go_ret
        exact ⟨rfl, HB4.out⟩
namespace rlogHoles
set_option maxRecDepth 100000 in
theorem lifted (os : Os) (started : os.Started) (H : Type) (enc : TypeId × Value → H) :
    ReturnsInHanded {} Try.checked os 7 .any (Rows.rlogHolesSpec.pre6 enc Try.prog Try.f7 Rows.rlogHolesRow.domain false) (Rows.rlogHolesSpec.post enc Try.prog Try.f7 false true false false) := by
  refine law_lift started (by kernel_rfl) Try.func7
    (ChangeSpec.witness6 (enc := enc) (C := Try.checked) false ⟨#[], #[.slice none 0 0], []⟩ 8 (by kernel_rfl) (by kernel_rfl) (by kernel_rfl) (by kernel_rfl))
    rfl ?_ (by kernel_rfl) (by kernel_rfl) ?_
  · intro ds h
    match ds, h with
    | [_], _ => rfl
  intro W base args ds p g
  have hA := g.trod
  have hval := g.val
  rw [Try.params7] at hA hval
  obtain ⟨v0, vs0, d0, ds0, p0, q0, hargs, rfl, rfl, h0, r0⟩ := trodAll_cons hA
  obtain ⟨rfl, rfl, rfl⟩ := trodAll_nil r0
  obtain rfl : args = #[v0] := by cases args; simp_all
  obtain ⟨A0, n0, c0, f0, rfl, hc0, hm0, hr0⟩ := given_as12 (hval 0 22 v0 rfl rfl) h0
  exact rlogHoles_walk A0 n0 c0 f0 W hc0 hm0 hr0

theorem over : Rows.rlogHolesRow.holds Try.pinned (OpenSpec.ofChange Rows.rlogHolesSpec) :=
  OpenClaim.holds_of_wide 7 Try.f7 rfl rfl rfl rfl rfl rfl rfl ⟨rfl, rfl, rfl, rfl, rfl⟩ rfl rfl rfl rfl rfl (by kernel_rfl) Try.func7 (by kernel_rfl)
    (of_decide_eq_true (by kernel_rfl)) (by unfold Func.isWrapper; first | (rw [if_pos (by decide +kernel)]; kernel_rfl) | (rw [if_neg (by decide +kernel)]; exact ⟨rfl, rfl⟩))
    (fun os started H enc _ => lifted os started H enc)
end rlogHoles

theorem RlogHoles_proved : Rows.RlogHolesSaid := rlogHoles.over
#print axioms RlogHoles_proved
end Go.Proofs.Ytpgjilpalhclcaa
