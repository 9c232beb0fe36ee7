/- Layer 15: a bucket in memory; New, Tick, Take, Level, Wait. -/
import Derived.Test.YtenmopnegedgjaaBuP
import Derived.Test.YtenmopnegedgjaaBuLay
import Derived.Test.YtenmopnegedgjaaProg
import Derived.Lib.Hide
import Derived.WalkKit
import Derived.Deep.LoopGhost
import Derived.Deep.RegionLaw
import Derived.Deep.RegionHeld3
import Derived.Deep.CutRange
import Derived.Deep.CutBlock
import Derived.Deep.DeepCutAuto
import Derived.Deep.QuietTactic
namespace Go.Proofs.Ytenmopnegedgjaa
open Go.RowKit

theorem mul_any (x y : Nat) (hx : x < 18446744073709551616) (hy : y < 18446744073709551616) (w : World) :
    Calls Try.prog 21 #[.int .u64 (x : Int), .int .u64 (y : Int)] w fun e w' => (∃ hi lo : Nat, e = .returned (.tuple #[.int .u64 (hi : Int), .int .u64 (lo : Int)]) ∧ Hid (hi * 18446744073709551616 + lo = x * y ∧ lo < 18446744073709551616)) ∧ w' = w :=
  (Any.bits_Mul64 layMul x y hx hy w).mono fun e w' ⟨h1, h2⟩ => ⟨⟨x * y / 18446744073709551616, x * y % 18446744073709551616, h1, Lib.hid ⟨by omega, by omega⟩⟩, h2⟩
theorem add_any (x y s c : Nat) (hs : (x + y) % 18446744073709551616 = s) (hc : (x + y) / 18446744073709551616 = c) (w : World) :
    (callFunc 22 #[.int .u64 (x : Int), .int .u64 (y : Int), .int .u64 0]).run Try.prog w = .ok (.value (.tuple #[.int .u64 (s : Int), .int .u64 (c : Int)])) w := by
  have h := Any7.bits_Add64 layAdd x y 0 (by omega) w
  rw [show x + y + 0 = x + y from rfl, hs, hc] at h
  exact h

/-- Block g is a bucket. -/
structure PU (t : TypeId) (w : World) (g : Nat) (u : Bu) : Prop where
  ok : u.Ok
  hd : Bk w g t #[.int .i64 (u.rate : Int), .int .i64 (u.burst : Int), .int .i64 (u.level : Int)]
section
variable {t : TypeId} {w w' : World} {g : Nat} {u : Bu}
theorem PU.kp {F : Nat → Prop} (h : PU t w g u) (hk : Kp F w w') (hg : ¬ F g) : PU t w' g u := ⟨h.ok, h.hd.kp hk hg⟩
theorem PU.below (h : PU t w g u) (hb : Below w.heap.size w w') : PU t w' g u := ⟨h.ok, h.hd.below hb h.hd.lt⟩
theorem PU.c0 (h : PU t w g u) : w.cell? ⟨g, 0, none⟩ = some (.int .i64 (u.rate : Int)) := h.hd.cell 0
theorem PU.c1 (h : PU t w g u) : w.cell? ⟨g, 1, none⟩ = some (.int .i64 (u.burst : Int)) := h.hd.cell 1
theorem PU.c2 (h : PU t w g u) : w.cell? ⟨g, 2, none⟩ = some (.int .i64 (u.level : Int)) := h.hd.cell 2
theorem PU.fr (h : PU t w g u) (i : Nat) : w.frozen? ⟨g, i, none⟩ = false := h.hd.frozen i
/-- What a call leaves. -/
def ActB (t : TypeId) (w : World) (g : Nat) (u : Bu) (w' : World) : Prop := PU t w' g u ∧ Kp (fun k => k = g) w w'
theorem PU.same (h : PU t w g u) : ActB t w g u w := ⟨h, Kp.refl _ _⟩
theorem PU.drewN (h : PU t w g u) (q : Nat) : ActB t w g u (w.drewN q) := ⟨⟨h.ok, h.hd⟩, Kp.drewN _ _ _⟩
theorem PU.set (h : PU t w g u) {l : Nat} (hl : l ≤ u.burst) : ActB t w g (u.lv l) (w.setCell ⟨g, 2, none⟩ (.int .i64 (l : Int))) := by
  refine ⟨⟨h.ok.lv hl, ?_⟩, Kp.set_ (F := fun k => k = g) (p := ⟨g, 2, none⟩) rfl _⟩
  have := h.hd.set_ 2 (.int .i64 (l : Int))
  exact this
end
set_option maxRecDepth 100000 in
theorem tick_nil (n : Int) (w : World) : Calls Try.prog 12 #[.pointer none, .int .i64 n] w fun e w' => e = .returned (.tuple #[]) ∧ w' = w := by
  go_enter Try.func12, Try.ntmps12
  go_wp2
  refine bodyPost_ret (results_none rfl _ _ _) rfl ?_
  exact ⟨rfl, rfl⟩
set_option maxRecDepth 100000 in
theorem take_nil (n : Int) (w : World) : Calls Try.prog 14 #[.pointer none, .int .i64 n] w fun e w' => e = .returned (.bool false) ∧ w' = w := by
  go_enter Try.func14, Try.ntmps14
  go_wp2
  go_ret
  exact ⟨rfl, rfl⟩
set_option maxRecDepth 100000 in
theorem level_nil (w : World) : Calls Try.prog 16 #[.pointer none] w fun e w' => e = .returned (.int .i64 0) ∧ w' = w := by
  go_enter Try.func16, Try.ntmps16
  go_wp2
  go_ret
  exact ⟨rfl, rfl⟩
set_option maxRecDepth 100000 in
theorem wait_nil (n : Int) (w : World) : Calls Try.prog 17 #[.pointer none, .int .i64 n] w fun e w' => e = .returned (.int .i64 (-1)) ∧ w' = w := by
  go_enter Try.func17, Try.ntmps17
  go_wp2
  go_ret
  exact ⟨rfl, rfl⟩
/-- What New gives. -/
def NewB (t : TypeId) (w : World) (u : Bu) (w' : World) : Prop := PU t w' w.heap.size u ∧ Below w.heap.size w w'
set_option maxRecDepth 100000 in
theorem new_bad (r b : Int) (h : ¬ rightB r b) (w : World) : Calls Try.prog 9 #[.int .i64 r, .int .i64 b] w fun e w' => e = .returned (.tuple #[.pointer none, .int .i64 2]) ∧ w' = w := by
  unfold rightB at h
  by_cases h1 : r < 0
  · go_enter Try.func9, Try.ntmps9
    go_wp2
    go_ret2
    exact ⟨rfl, rfl⟩
  by_cases h2 : 1000000 < r
  · go_enter Try.func9, Try.ntmps9
    go_wp2
    go_ret2
    exact ⟨rfl, rfl⟩
  by_cases h3 : b < 1
  · go_enter Try.func9, Try.ntmps9
    go_wp2
    go_ret2
    exact ⟨rfl, rfl⟩
  have h4 : 1000000 < b := by omega
  go_enter Try.func9, Try.ntmps9
  go_wp2
  go_ret2
  exact ⟨rfl, rfl⟩
set_option maxRecDepth 100000 in
theorem new_any (r b : Int) (h : rightB r b) (w : World) : Calls Try.prog 9 #[.int .i64 r, .int .i64 b] w fun e w' => e = .returned (.tuple #[.pointer (some ⟨w.heap.size, 0, none⟩), .int .i64 0]) ∧ Hid (NewB 46 w (mkB r b) w') := by
  have HO := Lib.hid (mkB_ok h)
  obtain ⟨h1, h2, h3, h4⟩ := h
  have k1 : ¬ r < 0 := by omega
  have k2 : ¬ 1000000 < r := by omega
  have k3 : ¬ b < 1 := by omega
  have k4 : ¬ 1000000 < b := by omega
  have e1 : (r.toNat : Int) = r := by omega
  have e2 : (b.toNat : Int) = b := by omega
  have E1 := Lib.hid e1
  have E2 := Lib.hid e2
  clear e1 e2
  go_enter Try.func9, Try.ntmps9
  go_wp2
  go_ret2
  refine ⟨rfl, Lib.hid ⟨⟨HO.out, ?_⟩, (Below.refl _ _).alloc (Nat.le_refl _) _⟩⟩
  show Bk _ _ _ #[.int .i64 (r.toNat : Int), .int .i64 (b.toNat : Int), .int .i64 (b.toNat : Int)]
  rw [E1.out, E2.out]
  exact Bk.new w _ _
section
variable {w : World} {g : Nat} {u : Bu}
set_option maxRecDepth 100000 in
theorem level_any (h : PU 46 w g u) : Calls Try.prog 16 #[.pointer (some ⟨g, 0, none⟩)] w fun e w' => e = .returned (.int .i64 (u.level : Int)) ∧ w' = w := by
  have c2 := h.c2
  clear h
  go_enter Try.func16, Try.ntmps16
  go_wp2
  go_ret
  exact ⟨rfl, rfl⟩
set_option maxRecDepth 100000 in
theorem take_any (h : PU 46 w g u) (n : Int) : Calls Try.prog 14 #[.pointer (some ⟨g, 0, none⟩), .int .i64 n] w fun e w' => e = .returned (.bool (u.has n)) ∧ Hid (ActB 46 w g (u.take n) w') := by
  have c2 := h.c2
  have f2 := h.fr 2
  have HH := Lib.hid h
  unfold Bu.has Bu.take
  by_cases h1 : 1 ≤ n ∧ n ≤ (u.level : Int)
  · rw [if_pos h1, decide_eq_true h1.1, decide_eq_true h1.2]
    have m1 : ¬ n < 1 := by omega
    have m2 : ¬ (u.level : Int) < n := by omega
    have HB : Hid (u.level ≤ 1000000) := Lib.hid (by have := h.ok.l; have := h.ok.b; omega)
    have e1 : IntKind.i64.wrap ((u.level : Int) - n) = ((u.level - n.toNat : Nat) : Int) := by
      have := HB.out
      rw [IntKind.wrap_i64]; omega
    have HL : Hid (u.level - n.toNat ≤ u.burst) := Lib.hid (by have := h.ok.l; omega)
    generalize u.level - n.toNat = l at e1 HL ⊢
    clear h h1
    go_enter Try.func14, Try.ntmps14
    go_wp2
    go_ret
    exact ⟨rfl, Lib.hid (HH.out.set HL.out)⟩
  · rw [if_neg h1]
    have hb : (decide (1 ≤ n) && decide (n ≤ (u.level : Int))) = false := by simp; omega
    rw [hb]
    clear hb
    by_cases m1 : n < 1
    · clear h h1
      go_enter Try.func14, Try.ntmps14
      go_wp2
      go_ret
      exact ⟨rfl, Lib.hid HH.out.same⟩
    · have m2 : (u.level : Int) < n := by omega
      clear h h1
      go_enter Try.func14, Try.ntmps14
      go_wp2
      go_ret
      exact ⟨rfl, Lib.hid HH.out.same⟩
set_option maxRecDepth 100000 in
theorem tick_any (h : PU 46 w g u) (n : Int) (hn : n ≤ 9223372036854775807) : Calls Try.prog 12 #[.pointer (some ⟨g, 0, none⟩), .int .i64 n] w fun e w' => e = .returned (.tuple #[]) ∧ Hid (ActB 46 w g (u.tick n) w') := by
  have c0 := h.c0
  have c1 := h.c1
  have c2 := h.c2
  have f2 := h.fr 2
  have HH := Lib.hid h
  unfold Bu.tick
  by_cases m1 : n < 1
  · rw [if_pos m1]
    clear h
    go_enter Try.func12, Try.ntmps12
    go_wp2
    refine bodyPost_ret (results_none rfl _ _ _) rfl ?_
    exact ⟨rfl, Lib.hid HH.out.same⟩
  · rw [if_neg m1]
    obtain ⟨k, rfl⟩ := Int.eq_ofNat_of_zero_le (show 0 ≤ n by omega)
    rw [Int.toNat_natCast]
    have hr := h.ok.r
    have hl := h.ok.l
    have hb := h.ok.b
    obtain ⟨R, hR⟩ : ∃ R, R = u.rate := ⟨_, rfl⟩
    obtain ⟨B, hB⟩ : ∃ B, B = u.burst := ⟨_, rfl⟩
    obtain ⟨L, hL⟩ : ∃ L, L = u.level := ⟨_, rfl⟩
    rw [← hR] at c0 hr ⊢
    rw [← hB] at c1 hl hb ⊢
    rw [← hL] at c2 hl ⊢
    have HB1 : Hid (B = u.burst) := Lib.hid hB
    obtain ⟨z, hz⟩ : ∃ z, z = min B (L + k * R) := ⟨_, rfl⟩
    rw [← hz]
    have HZ := Lib.hid hz
    clear hR hB hL h hz
    have e1 : IntKind.u64.wrap (k : Int) = (k : Int) := by rw [IntKind.wrap_u64]; omega
    have e2 : IntKind.u64.wrap (R : Int) = (R : Int) := by rw [IntKind.wrap_u64]; omega
    have e3 : IntKind.u64.wrap (L : Int) = (L : Int) := by rw [IntKind.wrap_u64]; omega
    have e4 : IntKind.u64.wrap (B : Int) = (B : Int) := by rw [IntKind.wrap_u64]; omega
    have HM := Lib.hid (mul_any k R (by omega) (by omega) w)
    have HK : Hid (k * R ≤ 9223372036854775807 * 1000000) := Lib.hid (Nat.mul_le_mul (by omega) hr)
    have HN := Lib.hid hr
    have HL := Lib.hid hl
    have HB2 := Lib.hid hb
    clear hr hl hb hn
    go_enter Try.func12, Try.ntmps12
    go_wp2_with fail
    refine HM.out.mono ?_
    rintro e w' ⟨⟨hi, lo, rfl, HP⟩, rfl⟩
    obtain ⟨s, hs⟩ : ∃ s, (lo + L) % 18446744073709551616 = s := ⟨_, rfl⟩
    obtain ⟨c, hc⟩ : ∃ c, (lo + L) / 18446744073709551616 = c := ⟨_, rfl⟩
    have HA := Lib.hid (add_any lo L s c hs hc w')
    have HS := Lib.hid hs
    have HC := Lib.hid hc
    clear HM hs hc
    have e5 : IntKind.u64.wrap ((hi : Int) + (c : Int)) = (hi : Int) + (c : Int) := by
      have h1 := HP.out
      have h2 := HK.out
      have h3 := HC.out
      have h4 := HL.out
      have h5 := HB2.out
      rw [IntKind.wrap_u64]; omega
    by_cases m2 : 0 < (hi : Int) + (c : Int)
    · have e6 : z = B := by
        have h0 := HZ.out
        have h1 := HP.out
        have h2 := HK.out
        have h3 := HC.out
        have h4 := HL.out
        have h5 := HB2.out
        omega
      subst e6
      have HF : Hid (ActB 46 w' g (u.lv z) (w'.setCell ⟨g, 2, none⟩ (.int .i64 (z : Int)))) := Lib.hid (HH.out.set (by rw [← HB1.out]; omega))
      go_wp2_with (simp only [HA.out])
      refine bodyPost_ret (results_none rfl _ _ _) rfl ?_
      exact ⟨rfl, HF⟩
    · have HQ : Hid (hi = 0 ∧ c = 0) := Lib.hid (by omega)
      have e6 : s = L + k * R := by
        have h1 := HP.out
        have h2 := HS.out
        have h3 := HC.out
        have h4 := HQ.out
        have h5 := HL.out
        omega
      have HF : Hid (ActB 46 w' g (u.lv z) (w'.setCell ⟨g, 2, none⟩ (.int .i64 (z : Int)))) := Lib.hid (HH.out.set (by rw [← HB1.out, HZ.out]; omega))
      have HU : Hid (B ≤ 9223372036854775807) := Lib.hid (by have := HB2.out; omega)
      by_cases m3 : s ≤ B
      · have e7 : z = s := by have := HZ.out; omega
        subst e7
        have e8 : IntKind.i64.wrap (z : Int) = (z : Int) := by
          have h5 := HB2.out
          rw [IntKind.wrap_i64]; omega
        have e9 : min (z : Int) (B : Int) = (z : Int) := by omega
        clear e6
        go_wp2_with (simp only [HA.out])
        refine bodyPost_end (results_none rfl _ _ _) rfl ?_
        exact ⟨rfl, HF⟩
      · have e7 : z = B := by have := HZ.out; omega
        have e9 : min (s : Int) (B : Int) = (B : Int) := Int.min_eq_right (Int.ofNat_le.2 (by omega))
        have h5 : (B : Int) ≤ 1000000 := Int.ofNat_le.2 HB2.out
        have h6 : 0 ≤ (B : Int) := Int.natCast_nonneg B
        have e10 : wrap64 (B : Int) = (B : Int) := IntWalk.wrap64_in _ ⟨by omega, by omega⟩
        have E10 := Lib.hid e10
        clear h5 h6 e10
        rw [e7] at HF
        have E7 := Lib.hid e7
        clear e6 e7 HZ
        go_wp2_with (simp only [HA.out])
        refine bodyPost_end (results_none rfl _ _ _) rfl ?_
        exact ⟨rfl, by rw [E10.out, E7.out]; exact HF⟩
set_option maxRecDepth 100000 in
/-- How long one waits. -/
theorem wait_any (h : PU 46 w g u) (n : Int) : Calls Try.prog 17 #[.pointer (some ⟨g, 0, none⟩), .int .i64 n] w fun e w' => e = .returned (.int .i64 (u.wait n)) ∧ ∃ q, w' = w.drewN q := by
  have c0 := h.c0
  have c1 := h.c1
  have c2 := h.c2
  have hr := h.ok.r
  have hl := h.ok.l
  have hb := h.ok.b
  unfold Bu.wait
  by_cases m0 : n < 1 ∨ (u.burst : Int) < n
  · rw [if_pos m0]
    by_cases m1 : n < 1
    · clear h m0
      go_enter Try.func17, Try.ntmps17
      go_wp2
      go_ret
      exact ⟨rfl, 0, rfl⟩
    · have m2 : (u.burst : Int) < n := by omega
      clear h m0
      go_enter Try.func17, Try.ntmps17
      go_wp2
      go_ret
      exact ⟨rfl, 0, rfl⟩
  rw [if_neg m0]
  have m1 : ¬ n < 1 := by omega
  have m2 : ¬ (u.burst : Int) < n := by omega
  clear m0
  by_cases m3 : n ≤ (u.level : Int)
  · rw [if_pos m3]
    clear h
    go_enter Try.func17, Try.ntmps17
    go_wp2
    go_ret
    exact ⟨rfl, 0, rfl⟩
  rw [if_neg m3]
  by_cases m4 : u.rate = 0
  · rw [if_pos m4]
    have m5 : ((u.rate : Int) == 0) = true := by simp; omega
    clear h m4
    go_enter Try.func17, Try.ntmps17
    go_wp2
    go_ret
    exact ⟨rfl, 0, rfl⟩
  rw [if_neg m4]
  obtain ⟨k, rfl⟩ := Int.eq_ofNat_of_zero_le (show 0 ≤ n by omega)
  rw [Int.toNat_natCast]
  have m5 : ((u.rate : Int) == 0) = false := by simp; omega
  have m6 : ¬ (u.rate : Int) = 0 := by omega
  have e1 : IntKind.i64.wrap ((k : Int) - (u.level : Int)) = (k : Int) - (u.level : Int) := by rw [IntKind.wrap_i64]; omega
  have e2 : IntKind.i64.wrap ((k : Int) - (u.level : Int) + (u.rate : Int)) = (k : Int) - (u.level : Int) + (u.rate : Int) := by rw [IntKind.wrap_i64]; omega
  have e3 : IntKind.i64.wrap ((k : Int) - (u.level : Int) + (u.rate : Int) - 1) = ((k - u.level + u.rate - 1 : Nat) : Int) := by rw [IntKind.wrap_i64]; omega
  have h0 : k - u.level + u.rate - 1 ≤ 2000000 := by omega
  generalize k - u.level + u.rate - 1 = y at e3 h0 ⊢
  have h1 : y / u.rate ≤ y := Nat.div_le_self _ _
  have e4 : IntKind.i64.wrap ((y : Int) / (u.rate : Int)) = ((y / u.rate : Nat) : Int) := by
    rw [← Int.natCast_ediv]
    generalize y / u.rate = z at h1 ⊢
    rw [IntKind.wrap_i64]
    omega
  generalize y / u.rate = z at e4 ⊢
  clear h0 h1
  clear h hr hl hb
  go_enter Try.func17, Try.ntmps17
  go_wp2_with fail
  go_quiet (fail)
  go_wp2
  go_ret
  exact ⟨rfl, _, rfl⟩
end
end Go.Proofs.Ytenmopnegedgjaa
