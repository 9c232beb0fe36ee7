/- Layer 15: the document's bucket: New, Tick, Take, Wait. -/
import Derived.Test.YtenmopnegedgjaaBuM
namespace Go.Proofs.Ytenmopnegedgjaa
open Go.RowKit

set_option maxRecDepth 100000 in
theorem rnew_bad (r b : Int) (h : ¬ rightB r b) (w : World) : Calls Try.prog 10 #[.int .i64 r, .int .i64 b] w fun e w' => e = .returned (.tuple #[.pointer none, .int .i64 2]) ∧ w' = w := by
  unfold rightB at h
  by_cases h1 : r < 0
  · go_enter Try.func10, Try.ntmps10
    go_wp2
    go_ret2
    exact ⟨rfl, rfl⟩
  by_cases h2 : 1000000 < r
  · go_enter Try.func10, Try.ntmps10
    go_wp2
    go_ret2
    exact ⟨rfl, rfl⟩
  by_cases h3 : b < 1
  · go_enter Try.func10, Try.ntmps10
    go_wp2
    go_ret2
    exact ⟨rfl, rfl⟩
  have h4 : 1000000 < b := by omega
  go_enter Try.func10, Try.ntmps10
  go_wp2
  go_ret2
  exact ⟨rfl, rfl⟩
set_option maxRecDepth 100000 in
theorem rnew_any (r b : Int) (h : rightB r b) (w : World) : Calls Try.prog 10 #[.int .i64 r, .int .i64 b] w fun e w' => e = .returned (.tuple #[.pointer (some ⟨w.heap.size, 0, none⟩), .int .i64 0]) ∧ Hid (NewB 35 w (mkB r b) w') := by
  have HO := Lib.hid (mkB_ok h)
  obtain ⟨h1, h2, h3, h4⟩ := h
  have k1 : ¬ r < 0 := by omega
  have k2 : ¬ 1000000 < r := by omega
  have k3 : ¬ b < 1 := by omega
  have k4 : ¬ 1000000 < b := by omega
  have e1 : (r.toNat : Int) = r := by omega
  have e2 : (b.toNat : Int) = b := by omega
  have E1 := Lib.hid e1
  have E2 := Lib.hid e2
  clear e1 e2
  go_enter Try.func10, Try.ntmps10
  go_wp2
  go_ret2
  refine ⟨rfl, Lib.hid ⟨⟨HO.out, ?_⟩, (Below.refl _ _).alloc (Nat.le_refl _) _⟩⟩
  show Bk _ _ _ #[.int .i64 (r.toNat : Int), .int .i64 (b.toNat : Int), .int .i64 (b.toNat : Int)]
  rw [E1.out, E2.out]
  exact Bk.new w _ _
theorem PU.set2 {t : TypeId} {w : World} {g : Nat} {u : Bu} (h : PU t w g u) {l : Nat} (hl : l ≤ u.burst) (v : Value) : ActB t w g (u.lv l) ((w.setCell ⟨g, 2, none⟩ v).setCell ⟨g, 2, none⟩ (.int .i64 (l : Int))) := by
  refine ⟨⟨h.ok.lv hl, ?_⟩, (Kp.set_ (F := fun k => k = g) (p := ⟨g, 2, none⟩) rfl _).trans (Kp.set_ (F := fun k => k = g) (p := ⟨g, 2, none⟩) rfl _)⟩
  have := (h.hd.set_ 2 v).set_ 2 (.int .i64 (l : Int))
  exact this
section
variable {w : World} {g : Nat} {u : Bu}
set_option maxRecDepth 100000 in
theorem rtake_any (h : PU 35 w g u) (n : Int) : Calls Try.prog 15 #[.pointer (some ⟨g, 0, none⟩), .int .i64 n] w fun e w' => e = .returned (.bool (u.has n)) ∧ Hid (ActB 35 w g (u.take n) w') := by
  have c2 := h.c2
  have f2 := h.fr 2
  have HH := Lib.hid h
  unfold Bu.has Bu.take
  by_cases h1 : 1 ≤ n ∧ n ≤ (u.level : Int)
  · rw [if_pos h1, decide_eq_true h1.1, decide_eq_true h1.2]
    have m1 : ¬ n < 1 := by omega
    have m2 : ¬ (u.level : Int) < n := by omega
    have HB : Hid (u.level ≤ 1000000) := Lib.hid (by have := h.ok.l; have := h.ok.b; omega)
    have e1 : IntKind.i64.wrap ((u.level : Int) - n) = ((u.level - n.toNat : Nat) : Int) := by
      have := HB.out
      rw [IntKind.wrap_i64]; omega
    have HL : Hid (u.level - n.toNat ≤ u.burst) := Lib.hid (by have := h.ok.l; omega)
    generalize u.level - n.toNat = l at e1 HL ⊢
    clear h h1
    go_enter Try.func15, Try.ntmps15
    go_wp2
    go_ret
    exact ⟨rfl, Lib.hid (HH.out.set HL.out)⟩
  · rw [if_neg h1]
    have hb : (decide (1 ≤ n) && decide (n ≤ (u.level : Int))) = false := by simp; omega
    rw [hb]
    clear hb
    by_cases m1 : n < 1
    · clear h h1
      go_enter Try.func15, Try.ntmps15
      go_wp2
      go_ret
      exact ⟨rfl, Lib.hid HH.out.same⟩
    · have m2 : (u.level : Int) < n := by omega
      clear h h1
      go_enter Try.func15, Try.ntmps15
      go_wp2
      go_ret
      exact ⟨rfl, Lib.hid HH.out.same⟩
theorem tick_min (B L R k : Nat) (hB : B ≤ 1000000) (hk : 1000000 ≤ k) : min B (L + 1000000 * R) = min B (L + k * R) := by
  rcases Nat.eq_zero_or_pos R with h | h
  · rw [h, Nat.mul_zero, Nat.mul_zero]
  · have h1 : 1000000 * 1 ≤ 1000000 * R := Nat.mul_le_mul (Nat.le_refl _) h
    have h2 : 1000000 * 1 ≤ k * R := Nat.mul_le_mul hk h
    omega
/-- The bucket's level, and nothing else, has turned. -/
def LvT (w : World) (g : Nat) (u : Bu) (l : Nat) (w' : World) : Prop := Bk w' g 35 #[.int .i64 (u.rate : Int), .int .i64 (u.burst : Int), .int .i64 (l : Int)] ∧ Kp (fun k => k = g) w w'
theorem PU.lvT (h : PU 35 w g u) (l q : Nat) : LvT w g u l ((w.drewN q).setCell ⟨g, 2, none⟩ (.int .i64 (l : Int))) := by
  refine ⟨?_, (Kp.drewN _ _ q).trans (Kp.set_ (F := fun k => k = g) (p := ⟨g, 2, none⟩) rfl _)⟩
  have h1 : Bk (w.drewN q) g 35 _ := h.hd
  exact h1.set_ 2 (.int .i64 (l : Int))
theorem LvT.set {w' : World} {l : Nat} (h : LvT w g u l w') (k q : Nat) : LvT w g u k ((w'.drewN q).setCell ⟨g, 2, none⟩ (.int .i64 (k : Int))) := by
  refine ⟨?_, h.2.trans ((Kp.drewN _ _ q).trans (Kp.set_ (F := fun k => k = g) (p := ⟨g, 2, none⟩) rfl _))⟩
  have h1 : Bk (w'.drewN q) g 35 _ := h.1
  exact h1.set_ 2 (.int .i64 (k : Int))
theorem LvT.drewN {w' : World} {l : Nat} (h : LvT w g u l w') (q : Nat) : LvT w g u l (w'.drewN q) := ⟨h.1, h.2.trans (Kp.drewN _ _ q)⟩
theorem LvT.act {w' : World} {l : Nat} (h : LvT w g u l w') (hu : u.Ok) (hl : l ≤ u.burst) : ActB 35 w g (u.lv l) w' := ⟨⟨hu.lv hl, h.1⟩, h.2⟩
set_option maxRecDepth 100000 in
set_option maxHeartbeats 1000000 in
theorem rtick_any (h : PU 35 w g u) (n : Int) : Calls Try.prog 13 #[.pointer (some ⟨g, 0, none⟩), .int .i64 n] w fun e w' => e = .returned (.tuple #[]) ∧ Hid (ActB 35 w g (u.tick n) w') := by
  have c0 := h.c0
  have c1 := h.c1
  have c2 := h.c2
  have f2 := h.fr 2
  have HH := Lib.hid h
  have hr := h.ok.r
  have hl := h.ok.l
  have hb := h.ok.b
  obtain ⟨R, hR⟩ : ∃ R, R = u.rate := ⟨_, rfl⟩
  obtain ⟨B, hB⟩ : ∃ B, B = u.burst := ⟨_, rfl⟩
  obtain ⟨L, hL⟩ : ∃ L, L = u.level := ⟨_, rfl⟩
  unfold Bu.tick
  rw [← hR] at c0 hr ⊢
  rw [← hB] at c1 hl hb ⊢
  rw [← hL] at c2 hl ⊢
  have HR1 : Hid (R = u.rate) := Lib.hid hR
  have HB1 : Hid (B = u.burst) := Lib.hid hB
  have HR := Lib.hid hr
  have HL := Lib.hid hl
  have HB2 := Lib.hid hb
  clear hR hB hL h hr hl hb
  by_cases m1 : n < 1
  · rw [if_pos m1]
    have m2 : ¬ 1000000 < n := by omega
    have m3 : ¬ 0 < n := by omega
    have m4 : ¬ B < L := by have := HL.out; omega
    go_enter Try.func13, Try.ntmps13
    go_wp2_with fail
    go_quiet (fail)
    go_wp2
    refine bodyPost_end (results_none rfl _ _ _) rfl ?_
    exact ⟨rfl, Lib.hid (HH.out.drewN _)⟩
  · rw [if_neg m1]
    obtain ⟨k, rfl⟩ := Int.eq_ofNat_of_zero_le (show 0 ≤ n by omega)
    rw [Int.toNat_natCast]
    obtain ⟨z, hz⟩ : ∃ z, z = min B (L + k * R) := ⟨_, rfl⟩
    rw [← hz]
    have HF : Hid (∀ w', LvT w g u z w' → ActB 35 w g (u.lv z) w') := Lib.hid fun w' hw => hw.act HH.out.ok (by rw [← HB1.out, hz]; omega)
    by_cases m2 : 1000000 < (k : Int)
    · have hm := Nat.mul_le_mul (Nat.le_refl 1000000) HR.out
      have e1 : IntKind.i64.wrap (1000000 * (R : Int)) = ((1000000 * R : Nat) : Int) := by rw [IntKind.wrap_i64]; omega
      have hz2 : z = min B (L + 1000000 * R) := by rw [hz]; exact (tick_min B L R k HB2.out (by omega)).symm
      generalize 1000000 * R = Y at e1 hm hz2
      have e2 : IntKind.i64.wrap ((L : Int) + (Y : Int)) = ((L + Y : Nat) : Int) := by
        have := HL.out
        have := HB2.out
        rw [IntKind.wrap_i64]; omega
      generalize L + Y = X at e2 hz2
      clear hz hm m1
      have HZ2 := Lib.hid hz2
      clear hz2
      go_enter Try.func13, Try.ntmps13
      go_upto_region 3 with (fail)
      go_cut [8] (fun _a wx => Hid (LvT w g u X wx))
      case first =>
        go_region_law (fail)
        all_goals
          go_wp2
          go_meet
          exact Lib.hid (HH.out.lvT X _)
      case rest =>
        have d1 : wc.cell? ⟨g, 1, none⟩ = some (.int .i64 (B : Int)) := by rw [HB1.out]; exact hcut.out.1.cell 1
        have d2 : wc.cell? ⟨g, 2, none⟩ = some (.int .i64 (X : Int)) := hcut.out.1.cell 2
        have d3 : wc.frozen? ⟨g, 2, none⟩ = false := hcut.out.1.frozen 2
        clear c0 c1 c2 f2
        by_cases m3 : B < X
        · have HE : Hid (z = B) := Lib.hid (by have := HZ2.out; omega)
          clear HZ2
          go_wp2_with fail
          go_quiet (fail)
          go_wp2
          refine bodyPost_end (results_none rfl _ _ _) rfl ?_
          exact ⟨rfl, Lib.hid (HF.out _ (by rw [HE.out]; exact hcut.out.set B _))⟩
        · have HE : Hid (z = X) := Lib.hid (by have := HZ2.out; omega)
          clear HZ2
          go_wp2_with fail
          go_quiet (fail)
          go_wp2
          refine bodyPost_end (results_none rfl _ _ _) rfl ?_
          exact ⟨rfl, Lib.hid (HF.out _ (by rw [HE.out]; exact hcut.out.drewN _))⟩
    · have hm : k * R ≤ 1000000 * 1000000 := Nat.mul_le_mul (by omega) HR.out
      have m0 : 0 < (k : Int) := by omega
      obtain ⟨Y, hY⟩ : ∃ Y, Y = k * R := ⟨_, rfl⟩
      rw [← hY] at hm hz
      have e1 : IntKind.i64.wrap ((k : Int) * (R : Int)) = (Y : Int) := by rw [← Int.natCast_mul, ← hY, IntKind.wrap_i64]; omega
      have e2 : IntKind.i64.wrap ((L : Int) + (Y : Int)) = ((L + Y : Nat) : Int) := by
        have := HL.out
        have := HB2.out
        rw [IntKind.wrap_i64]; omega
      generalize L + Y = X at e2 hz
      have HZ2 := Lib.hid hz
      clear hm m1 hz hY
      go_enter Try.func13, Try.ntmps13
      go_upto_region 3 with (fail)
      go_cut [8] (fun _a wx => Hid (LvT w g u X wx))
      case first =>
        go_region_law (fail)
        all_goals
          go_wp2
          go_meet
          exact Lib.hid (HH.out.lvT X _)
      case rest =>
        have d1 : wc.cell? ⟨g, 1, none⟩ = some (.int .i64 (B : Int)) := by rw [HB1.out]; exact hcut.out.1.cell 1
        have d2 : wc.cell? ⟨g, 2, none⟩ = some (.int .i64 (X : Int)) := hcut.out.1.cell 2
        have d3 : wc.frozen? ⟨g, 2, none⟩ = false := hcut.out.1.frozen 2
        clear c0 c1 c2 f2
        by_cases m3 : B < X
        · have HE : Hid (z = B) := Lib.hid (by have := HZ2.out; omega)
          clear HZ2
          go_wp2_with fail
          go_quiet (fail)
          go_wp2
          refine bodyPost_end (results_none rfl _ _ _) rfl ?_
          exact ⟨rfl, Lib.hid (HF.out _ (by rw [HE.out]; exact hcut.out.set B _))⟩
        · have HE : Hid (z = X) := Lib.hid (by have := HZ2.out; omega)
          clear HZ2
          go_wp2_with fail
          go_quiet (fail)
          go_wp2
          refine bodyPost_end (results_none rfl _ _ _) rfl ?_
          exact ⟨rfl, Lib.hid (HF.out _ (by rw [HE.out]; exact hcut.out.drewN _))⟩
end
end Go.Proofs.Ytenmopnegedgjaa
