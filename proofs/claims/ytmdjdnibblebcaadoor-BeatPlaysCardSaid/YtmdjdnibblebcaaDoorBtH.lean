/- Layer 14: has, Since, Calm, Hear, Tick; the nil answers. -/
import Derived.Test.YtmdjdnibblebcaaDoorBtM
namespace Go.Proofs.YtmdjdnibblebcaaDoor
open Go.RowKit

section
variable {w : World} {g b c : Nat} {v : Vw}
set_option maxRecDepth 100000 in
theorem has_any (h : PV w g b c v) (a : Int) : Calls Tryd.prog 30 #[.pointer (some ⟨g, 0, none⟩), .int .i64 a] w fun e w' => e = .returned (.bool (decide (0 ≤ a) && decide (a < v.n))) ∧ w' = w := by
  have c0 := h.c0
  clear h
  by_cases h0 : a < 0
  · have h1 : ¬ 0 ≤ a := by omega
    have hr : (decide (0 ≤ a) && decide (a < (v.n : Int))) = false := by simp; omega
    rw [hr]
    go_enter Tryd.func30, Tryd.ntmps30
    go_wp2
    go_ret
    exact ⟨rfl, rfl⟩
  · have h1 : 0 ≤ a := by omega
    by_cases h2 : a < (v.n : Int)
    · have hr : (decide (0 ≤ a) && decide (a < (v.n : Int))) = true := by simp; omega
      rw [hr]
      go_enter Tryd.func30, Tryd.ntmps30
      go_wp2
      go_ret
      exact ⟨rfl, rfl⟩
    · have hr : (decide (0 ≤ a) && decide (a < (v.n : Int))) = false := by simp; omega
      rw [hr]
      go_enter Tryd.func30, Tryd.ntmps30
      go_wp2
      go_ret
      exact ⟨rfl, rfl⟩
set_option maxRecDepth 100000 in
theorem calm_any (h : PV w g b c v) : Calls Tryd.prog 21 #[.pointer (some ⟨g, 0, none⟩)] w fun e w' => e = .returned (.int .i64 (v.calm : Int)) ∧ w' = w := by
  have c3 := h.c3
  clear h
  go_enter Tryd.func21, Tryd.ntmps21
  go_wp2
  go_ret
  exact ⟨rfl, rfl⟩
set_option maxRecDepth 100000 in
theorem calm_nil (w : World) : Calls Tryd.prog 21 #[.pointer none] w fun e w' => e = .returned (.int .i64 0) ∧ w' = w := by
  go_enter Tryd.func21, Tryd.ntmps21
  go_wp2
  go_ret
  exact ⟨rfl, rfl⟩
set_option maxRecDepth 100000 in
theorem since_nil (a : Int) (w : World) : Calls Tryd.prog 23 #[.pointer none, .int .i64 a] w fun e w' => e = .returned (.int .i64 (-1)) ∧ w' = w := by
  go_enter Tryd.func23, Tryd.ntmps23
  go_wp2_with fail
  go_ret
  exact ⟨rfl, rfl⟩
set_option maxRecDepth 100000 in
theorem since_any (h : PV w g b c v) (a : Int) : Calls Tryd.prog 23 #[.pointer (some ⟨g, 0, none⟩), .int .i64 a] w fun e w' => e = .returned (.int .i64 (v.sinceI a)) ∧ w' = w := by
  have c0 := h.c0
  have HH := Lib.hid (has_any h a)
  unfold Vw.sinceI
  by_cases h1 : 0 ≤ a ∧ a < (v.n : Int)
  · rw [if_pos h1]
    obtain ⟨i, rfl⟩ := Int.eq_ofNat_of_zero_le h1.1
    have hi : i < v.n := by omega
    rw [Int.toNat_natCast]
    have m1 : (i : Int) < (v.n : Int) := h1.2
    have m0 : ¬ (i : Int) < 0 := by omega
    have q1 := h.since i hi
    have hb : (decide (0 ≤ (i : Int)) && decide ((i : Int) < (v.n : Int))) = true := by simp; omega
    rw [hb] at HH
    clear h hb h1
    go_enter Tryd.func23, Tryd.ntmps23
    go_wp2_with (go_at_call 30; refine HH.out.mono ?_; rintro e w' ⟨rfl, rfl⟩)
    go_ret
    exact ⟨rfl, rfl⟩
  · rw [if_neg h1]
    have hb : (decide (0 ≤ a) && decide (a < (v.n : Int))) = false := by simp; omega
    rw [hb] at HH
    clear h hb h1
    go_enter Tryd.func23, Tryd.ntmps23
    go_wp2_with (go_at_call 30; refine HH.out.mono ?_; rintro e w' ⟨rfl, rfl⟩)
    go_ret
    exact ⟨rfl, rfl⟩
set_option maxRecDepth 100000 in
theorem hear_nil (a : Int) (w : World) : Calls Tryd.prog 15 #[.pointer none, .int .i64 a] w fun e w' => e = .returned (.int .i64 1) ∧ w' = w := by
  go_enter Tryd.func15, Tryd.ntmps15
  go_wp2
  go_ret
  exact ⟨rfl, rfl⟩
set_option maxRecDepth 100000 in
theorem tick_nil (w : World) : Calls Tryd.prog 13 #[.pointer none] w fun e w' => e = .returned (.tuple #[]) ∧ w' = w := by
  go_enter Tryd.func13, Tryd.ntmps13
  go_wp2
  refine bodyPost_ret (results_none rfl _ _ _) rfl ?_
  exact ⟨rfl, rfl⟩
/-- What Hear leaves. -/
def ActE (w : World) (g b c : Nat) (u : Vw) (w' : World) : Prop := PV w' g b c u ∧ Kp (fun k => k = g ∨ k = b) w w'
set_option maxRecDepth 100000 in
set_option maxHeartbeats 2000000 in
theorem hear_any (h : PV w g b c v) (a : Int) : Calls Tryd.prog 15 #[.pointer (some ⟨g, 0, none⟩), .int .i64 a] w fun e w' =>
    e = .returned (.int .i64 (if 0 ≤ a ∧ a < v.n then 0 else 2)) ∧ Hid (ActE w g b c (v.hearI a) w') := by
  have HH := Lib.hid (has_any h a)
  have HU := Lib.hid (up_any h)
  unfold Vw.hearI
  by_cases h1 : 0 ≤ a ∧ a < (v.n : Int)
  · rw [if_pos h1, if_pos h1]
    obtain ⟨i, rfl⟩ := Int.eq_ofNat_of_zero_le h1.1
    have hi : i < v.n := by omega
    rw [Int.toNat_natCast]
    have m1 : (i : Int) < (v.n : Int) := h1.2
    have m0 : ¬ (i : Int) < 0 := by omega
    have hb : (decide (0 ≤ (i : Int)) && decide ((i : Int) < (v.n : Int))) = true := by simp; omega
    rw [hb] at HH
    have HP := Lib.hid h
    clear h hb h1
    go_enter Tryd.func15, Tryd.ntmps15
    go_wp2_with (first | (go_at_call 30; refine HH.out.mono ?_; rintro e w' ⟨rfl, rfl⟩) | fail)
    refine HU.out.mono ?_
    rintro e w1 ⟨rfl, hb1⟩
    have hp1 := HP.out.below hb1
    have x0 := hp1.c0
    have f1 := hp1.fb (i * 2 + 1)
    have s1 := hp1.since i hi
    have HOK := Lib.hid (HP.out.ok.hear i)
    obtain ⟨w2, hw2⟩ : ∃ w2, w2 = w1.setCell ⟨b, i * 2 + 1, none⟩ (.int .i64 0) := ⟨_, rfl⟩
    have hp2 : PV w2 g b c (v.hear0 i) := by rw [hw2]; exact hp1.setS i 0 _ (HP.out.ok.hear0 i) ⟨rfl, rfl, rfl, rfl⟩ rfl (fun j hj => rfl)
    have hk2 : Kp (fun k => k = g ∨ k = b) w1 w2 := by rw [hw2]; exact Kp.set_ (F := fun k => k = g ∨ k = b) (p := ⟨b, i * 2 + 1, none⟩) (.inr rfl) _
    have HK2 := Lib.hid ((Kp.of_below (F := fun k => k = g ∨ k = b) hb1).trans hk2)
    have HU2 := Lib.hid (up_any hp2)
    have HP2 := Lib.hid hp2
    have HW2 := Lib.hid hw2
    obtain ⟨x, hx⟩ : ∃ x, x = (v.hear0 i).up := ⟨_, rfl⟩
    obtain ⟨y, hy⟩ : ∃ y, y = v.up := ⟨_, rfl⟩
    rw [← hx] at HU2
    rw [← hy]
    have HX := Lib.hid (And.intro hx hy)
    clear hp1 hp2 hk2 hw2 hx hy hb1 HU HH HP
    go_wp2_with fail
    rw [← HW2.out]
    refine HU2.out.mono ?_
    rintro e w3 ⟨rfl, hb3⟩
    have hp3 := HP2.out.below hb3
    have y3 := hp3.c3
    have f3 := hp3.fg 3
    by_cases hu : x = y
    · subst hu
      have HB3 := Lib.hid hb3
      have HP3 := Lib.hid hp3
      clear hp3 hb3
      go_wp2
      go_ret
      refine ⟨rfl, Lib.hid ⟨?_, HK2.out.trans (Kp.of_below HB3.out)⟩⟩
      exact HP3.out.like _ HOK.out ⟨rfl, rfl, rfl, rfl⟩ (by show (if _ then v.calm else 0) = v.calm; rw [if_pos (by rw [← HX.out.1, HX.out.2])]) (fun j _ => rfl)
    · have hu1 : ((x : Int) == (y : Int)) = false := by simp; omega
      have hu2 : ¬ (x : Int) = (y : Int) := by omega
      have HB3 := Lib.hid hb3
      have HP3 := Lib.hid hp3
      clear hp3 hb3
      go_wp2
      go_ret
      refine ⟨rfl, Lib.hid ⟨?_, (HK2.out.trans (Kp.of_below HB3.out)).trans (Kp.set_ (F := fun k => k = g ∨ k = b) (p := ⟨g, 3, none⟩) (.inl rfl) _)⟩⟩
      exact HP3.out.setC 0 _ HOK.out ⟨rfl, rfl, rfl, rfl⟩ (by show (if _ then v.calm else 0) = 0; rw [if_neg (by rw [← HX.out.1, ← HX.out.2]; exact hu)]) rfl
  · rw [if_neg h1, if_neg h1]
    have hb : (decide (0 ≤ a) && decide (a < (v.n : Int))) = false := by simp; omega
    rw [hb] at HH
    have HP := Lib.hid h
    clear h hb h1
    go_enter Tryd.func15, Tryd.ntmps15
    go_wp2_with (go_at_call 30; refine HH.out.mono ?_; rintro e w' ⟨rfl, rfl⟩)
    go_ret
    exact ⟨rfl, Lib.hid ⟨HP.out, Kp.refl _ _⟩⟩
set_option maxRecDepth 100000 in
set_option maxHeartbeats 4000000 in
theorem tick_any (h : PV w g b c v) : Calls Tryd.prog 13 #[.pointer (some ⟨g, 0, none⟩)] w fun e w' =>
    e = .returned (.tuple #[]) ∧ Hid (ActE w g b c v.tick w') := by
  have HU := Lib.hid (up_any h)
  have HP := Lib.hid h
  have hn12 := h.ok.n12
  clear h
  go_enter Tryd.func13, Tryd.ntmps13
  go_wp2_with fail
  refine HU.out.mono ?_
  rintro e w1 ⟨rfl, hb1⟩
  have hp1 := HP.out.below hb1
  have x0 := hp1.c0
  have HOK := Lib.hid HP.out.ok
  obtain ⟨y, hy⟩ : ∃ y, y = v.up := ⟨_, rfl⟩
  rw [← hy]
  have HY := Lib.hid hy
  have Hi : Hid (PV w1 g b c { v with since := v.tickT 0 } ∧ Kp (fun k => k = g ∨ k = b) w w1) := Lib.hid ⟨hp1.like _ (HP.out.ok.tickT 0) ⟨rfl, rfl, rfl, rfl⟩ rfl (fun i _ => by show v.tickT 0 i = _; rw [Vw.tickT_zero]), Kp.of_below hb1⟩
  clear hp1 hy hb1 HU HP
  go_wp2
  go_loopg [13] v.n (fun gk x wr => ∃ (i : Nat), x = .int .i64 (i : Int) ∧ i + gk = v.n ∧ Hid (PV wr g b c { v with since := v.tickT i } ∧ Kp (fun k => k = g ∨ k = b) w wr))
  case atStart => exact ⟨0, rfl, by omega, Hi⟩
  case round =>
    obtain ⟨i, rfl, hig, HI⟩ := hrel
    by_cases hin : i < v.n
    · have m1 : (i : Int) < (v.n : Int) := by omega
      have m0 : ¬ (i : Int) < 0 := by omega
      have e1 : IntKind.i64.wrap ((i : Int) + 1) = ((i + 1 : Nat) : Int) := by rw [IntKind.wrap_i64]; omega
      obtain ⟨hp, hk⟩ := HI.out
      have q0 : wr.cell? ⟨g, 0, none⟩ = some (.slice (some ⟨b, 0, none⟩) v.n c) := hp.c0
      have q1 : wr.cell? ⟨g, 1, none⟩ = some (.int .i64 (v.me : Int)) := hp.c1
      have q2 : wr.cell? ⟨g, 2, none⟩ = some (.int .i64 (v.pat : Int)) := hp.c2
      have hti : v.tickT i i = v.since i := Vw.tickT_at v i
      have q3 : wr.cell? ⟨b, i * 2 + 1, none⟩ = some (.int .i64 (v.since i : Int)) := by rw [← hti]; exact hp.since i hin
      have f3 := hp.fb (i * 2 + 1)
      have HP := Lib.hid hp
      have HK := Lib.hid hk
      have hs1 := HOK.out.since i hin
      have hp2 := HOK.out.p2
      clear hp hk
      by_cases hme : i = v.me
      · have me1 : ((i : Int) == (v.me : Int)) = true := by simp; omega
        have me2 : (i : Int) = (v.me : Int) := by omega
        have HM := Lib.hid hme
        clear hme hs1 hp2
        go_wp2
        go_roundg (gk - 1)
        case measure => omega
        case rel =>
          refine ⟨i + 1, by go_num, by omega, Lib.hid ⟨HP.out.like _ (HOK.out.tickT _) ⟨rfl, rfl, rfl, rfl⟩ rfl (fun j hj => ?_), HK.out⟩⟩
          show v.tickT (i + 1) j = v.tickT i j
          rw [HM.out, Vw.tickT_me]
      · have me1 : ((i : Int) == (v.me : Int)) = false := by simp; omega
        have me2 : ¬ (i : Int) = (v.me : Int) := by omega
        have e2 : IntKind.i64.wrap ((v.since i : Int) + 1) = ((v.since i + 1 : Nat) : Int) := by rw [IntKind.wrap_i64]; omega
        have HM := Lib.hid hme
        obtain ⟨x, hx⟩ : ∃ x, x = min (v.since i + 1) v.pat := ⟨_, rfl⟩
        have hmin := Lib.hid (show (if (v.pat : Int) < (v.since i : Int) + 1 then (v.pat : Int) else (v.since i : Int) + 1) = (x : Int) by split <;> omega)
        have HX := Lib.hid hx
        clear hme hs1 hp2 hx
        go_wp2
        go_region
        rw [hmin.out]
        obtain ⟨wz, hwz⟩ : ∃ wz, wz = (wr.setCell { block := b, off := i * 2 + 1 } (Value.int IntKind.i64 (x : Int))).drew := ⟨_, rfl⟩
        rw [← hwz]
        have HZ : Hid (PV wz g b c { v with since := v.tickT (i + 1) } ∧ Kp (fun k => k = g ∨ k = b) w wz) := by
          rw [hwz]
          refine Lib.hid ⟨((HP.out.setS i x _ (HOK.out.tickT (i + 1)) ⟨rfl, rfl, rfl, rfl⟩ rfl (fun j hj => ?_)).kp (F := fun _ => False) (Kp.drew _ _) (fun h => h) (fun h => h)), (HK.out.trans (Kp.set_ (F := fun k => k = g ∨ k = b) (p := ⟨b, i * 2 + 1, none⟩) (.inr rfl) _)).trans (Kp.drew _ _)⟩
          show v.tickT (i + 1) j = _
          rw [Vw.tickT_succ v i HM.out, HX.out]
          rfl
        clear hwz
        go_wp2
        go_roundg (gk - 1)
        case measure => omega
        case rel => exact ⟨i + 1, by go_num, by omega, HZ⟩
    · obtain rfl : i = v.n := by omega
      have m1 : ¬ (v.n : Int) < (v.n : Int) := by omega
      obtain ⟨hp, hk⟩ := HI.out
      have q3 : wr.cell? ⟨g, 3, none⟩ = some (.int .i64 (v.calm : Int)) := hp.c3
      have f3 := hp.fg 3
      have hc := HOK.out.calm
      have e2 : IntKind.i64.wrap ((v.calm : Int) + 1) = ((v.calm + 1 : Nat) : Int) := by rw [IntKind.wrap_i64]; omega
      obtain ⟨x, hx⟩ : ∃ x, x = min (v.calm + 1) 1000 := ⟨_, rfl⟩
      have hmin := Lib.hid (show (if (1000 : Int) < (v.calm : Int) + 1 then (1000 : Int) else (v.calm : Int) + 1) = (x : Int) by split <;> omega)
      have HX := Lib.hid hx
      have HP := Lib.hid hp
      have HK := Lib.hid hk
      clear hp hk hc hx HI
      go_upto_region 9 with (fail)
      rw [hmin.out]
      obtain ⟨wz, hwz⟩ : ∃ wz, wz = wr.setCell { block := g, off := 3 } (Value.int IntKind.i64 (x : Int)) := ⟨_, rfl⟩
      rw [← hwz]
      have hok2 : ({ v with since := v.tickT v.n, calm := x } : Vw).Ok := ⟨HOK.out.n1, HOK.out.n12, HOK.out.site, HOK.out.me, (HOK.out.tickT v.n).own, HOK.out.p1, HOK.out.p2, (HOK.out.tickT v.n).since, by show x ≤ 1000; rw [HX.out]; exact Nat.min_le_right _ _⟩
      have hpz : PV wz g b c { v with since := v.tickT v.n, calm := x } := by rw [hwz]; exact HP.out.setC x _ hok2 ⟨rfl, rfl, rfl, rfl⟩ rfl rfl
      have HKZ : Hid (Kp (fun k => k = g ∨ k = b) w wz) := by rw [hwz]; exact Lib.hid (HK.out.trans (Kp.set_ (F := fun k => k = g ∨ k = b) (p := ⟨g, 3, none⟩) (.inl rfl) _))
      have HU2 := up_any hpz
      obtain ⟨z, hz⟩ : ∃ z, z = ({ v with since := v.tickT v.n, calm := x } : Vw).up := ⟨_, rfl⟩
      rw [← hz] at HU2
      have HU3 := Lib.hid HU2
      have hz2 : z = v.tick0.up := hz
      have HZ2 := Lib.hid hz2
      have HPZ := Lib.hid hpz
      clear hwz hok2 hpz HU2 hz hz2 q3 f3
      go_wp2_with fail
      refine HU3.out.mono ?_
      rintro e w3 ⟨rfl, hb3⟩
      have hp3 := HPZ.out.below hb3
      have y3 : w3.cell? ⟨g, 3, none⟩ = some (.int .i64 (x : Int)) := hp3.c3
      have f3 := hp3.fg 3
      by_cases hu : z = y
      · subst hu
        have HB3 := Lib.hid hb3
        have HP3 := Lib.hid hp3
        clear hp3 hb3
        go_wp2
        go_end0
        refine ⟨rfl, Lib.hid ⟨?_, HKZ.out.trans (Kp.of_below HB3.out)⟩⟩
        exact HP3.out.like _ HOK.out.tick ⟨rfl, rfl, rfl, rfl⟩ (by show (if _ then _ else 0) = x; rw [if_pos (by rw [← HZ2.out, HY.out]), HX.out]) (fun j _ => rfl)
      · have hu1 : ((z : Int) == (y : Int)) = false := by simp; omega
        have hu2 : ¬ (z : Int) = (y : Int) := by omega
        have HB3 := Lib.hid hb3
        have HP3 := Lib.hid hp3
        clear hp3 hb3
        go_wp2
        go_end0
        refine ⟨rfl, Lib.hid ⟨?_, (HKZ.out.trans (Kp.of_below HB3.out)).trans (Kp.set_ (F := fun k => k = g ∨ k = b) (p := ⟨g, 3, none⟩) (.inl rfl) _)⟩⟩
        exact HP3.out.setC 0 _ HOK.out.tick ⟨rfl, rfl, rfl, rfl⟩ (by show (if _ then _ else 0) = 0; rw [if_neg (by rw [← HZ2.out, ← HY.out]; exact hu)]) rfl
end
end Go.Proofs.YtmdjdnibblebcaaDoor
