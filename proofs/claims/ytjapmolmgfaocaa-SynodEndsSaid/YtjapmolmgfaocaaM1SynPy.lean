/- Of the proofs of layer 4, merged: SynPy. -/
import Derived.Test.YtjapmolmgfaocaaMSynL
import Derived.Test.YtjapmolmgfaocaaM1SynGv
import Derived.Test.YtjapmolmgfaocaaM1QuG

/- Layer 11's laws: at, long, an act played, a room made. -/
namespace Go.Proofs.Ytjapmolmgfaocaa
open Go.RowKit Go.Maps

/-- A place among n. -/
def atN (a : Int) (n : Nat) : Nat := if n = 0 then 0 else (a % 18446744073709551616).toNat % n
theorem atN_lt (a : Int) {n : Nat} (h : 0 < n) : atN a n < n := by unfold atN; rw [if_neg (by omega)]; exact Nat.mod_lt _ h
set_option maxRecDepth 100000 in
set_option maxHeartbeats 1000000 in
theorem at_any (a : Int) (n : Nat) (hn : n ≤ 1000) (w : World) : Calls Try.prog 15 #[.int .i64 a, .int .i64 (n : Int)] w fun e w' => e = .returned (.int .i64 (atN a n : Int)) ∧ w = w' := by
  by_cases h0 : n = 0
  · subst h0
    go_enter Try.func15, Try.ntmps15
    go_wp2
    go_ret
    exact ⟨rfl, rfl⟩
  · have hn1 : ¬ (n : Int) < 1 := by omega
    have hw1 : IntKind.u64.wrap a = a % 18446744073709551616 := by rw [IntKind.wrap_u64]
    have hw2 : IntKind.u64.wrap (n : Int) = (n : Int) := by rw [IntKind.wrap_u64]; omega
    have hn0 : ¬ (n : Int) = 0 := by omega
    obtain ⟨u, hu⟩ : ∃ u : Nat, a % 18446744073709551616 = (u : Int) := ⟨(a % 18446744073709551616).toNat, by omega⟩
    have hat : atN a n = u % n := by unfold atN; rw [if_neg h0, hu, Int.toNat_natCast]
    have hlt : u % n < n := Nat.mod_lt _ (by omega)
    rw [hu] at hw1
    have hm : (u : Int).tmod (n : Int) = ((u % n : Nat) : Int) := by rw [Int.tmod_eq_emod_of_nonneg (by omega)]; rfl
    have hm2 : ((u : Int) % (n : Int)) = ((u % n : Nat) : Int) := rfl
    have hw3 : IntKind.i64.wrap ((u % n : Nat) : Int) = ((u % n : Nat) : Int) := by rw [IntKind.wrap_i64]; omega
    have hw4 : IntKind.u64.wrap ((u % n : Nat) : Int) = ((u % n : Nat) : Int) := by rw [IntKind.wrap_u64]; omega
    rw [hat]
    generalize u % n = z at *
    clear hat hu hlt h0
    go_enter Try.func15, Try.ntmps15
    go_wp2
    go_ret
    exact ⟨rfl, rfl⟩
def LongR (w : World) (e : Ending) (w' : World) : Prop := ∃ b, e = .returned (.bool b) ∧ w = w'
set_option maxRecDepth 100000 in
set_option maxHeartbeats 2000000 in
theorem long_any {w : World} {B n c : Nat} {A : Option Addr} {f : Nat → Ga} (hA : As11 w B A n f) (hc : n ≤ c ∧ c ≤ 9223372036854775807) : Calls Try.prog 10 #[.slice A n c] w (LongR w) := by
  obtain ⟨h1, h2⟩ := hc
  have HA := Lib.hid hA
  clear hA
  go_enter Try.func10, Try.ntmps10
  go_wp2_with fail
  go_loopg [3] n (fun gk i wr => ∃ k : Nat, i = .int .i64 (k : Int) ∧ k + gk = n ∧ w = wr)
  case atStart => exact ⟨0, rfl, by omega, rfl⟩
  case round =>
    obtain ⟨k, rfl, hkg, rfl⟩ := hrel
    by_cases hk : k < n
    · by_cases h200 : k < 200
      · have hkI : (k : Int) < (n : Int) := by omega
        have hk2 : (k : Int) < 200 := by omega
        obtain ⟨b, o, rfl, _, hi⟩ := HA.out (by omega)
        obtain ⟨_, _, _, q2⟩ := hi k hk
        clear hi
        by_cases hl : 1000 < (f k).n
        · have hlI : (1000 : Int) < ((f k).n : Int) := by omega
          go_wp2
          go_ret
          exact ⟨true, rfl, rfl⟩
        · have hlI : ¬ (1000 : Int) < ((f k).n : Int) := by omega
          go_wp2
          go_roundg (gk - 1)
          case measure => omega
          case rel => exact ⟨k + 1, by go_num, by omega, rfl⟩
      · have hkI : (k : Int) < (n : Int) := by omega
        have hk2 : ¬ (k : Int) < 200 := by omega
        go_wp2
        go_ret
        exact ⟨false, rfl, rfl⟩
    · have hkI : ¬ (k : Int) < (n : Int) := by omega
      go_wp2
      go_ret
      exact ⟨false, rfl, rfl⟩
/-! ### an act -/
def Ro.takes (r : Ro) : Nat → Ro
  | 0 => r
  | k + 1 => ((r.takes k).take 0).2
def Ro.play (r : Ro) (kd a : Int) (v : List UInt8) (n : Nat) : Ro :=
  if kd = 0 then (r.start (atN a n) v).2.2 else if kd = 1 ∨ kd = 2 ∨ kd = 3 ∨ kd = 4 then (r.take (atN a r.row.length)).2 else if kd = 5 then (r.drop (atN a r.row.length)).2
  else if kd = 6 then (r.twice (atN a r.row.length)).2 else if kd = 7 then (r.crash (atN a n)).2 else r.takes 60
section
variable {W w : World} {col : Nat → Nat} {g N n : Nat} {r : Ro}
set_option maxRecDepth 100000 in
set_option maxHeartbeats 8000000 in
theorem play_any (h : OwR W w col g N n r) (kd a : Int) (vA : Option Addr) (vn vc : Nat) (v : List UInt8) (hv : Fr w col vA vn v) : Calls Try.prog 12 #[.pointer (some ⟨g, 0, none⟩), .agg #[.int .i64 kd, .int .i64 a, .slice vA vn vc], .int .i64 (n : Int)] w fun e w' => e = .returned (.tuple #[]) ∧ Hid (RStep W w col g N n (r.play kd a v n) w') := by
  have hnn := h.rm.nn
  have hn12 : n ≤ 12 := by have := h.rm.ok.n12; have := h.rm.ok.len; omega
  have hlr : r.row.length ≤ 200 := h.rm.ok.most
  obtain ⟨W1, hW1⟩ : ∃ W1, W1 = w.alloc (.cells #[.int .i64 kd, .int .i64 a, .slice vA vn vc] 34) := ⟨_, rfl⟩
  have hb1 : Below w.heap.size w W1 := by rw [hW1]; exact bel1P _
  have hk1 : Bk W1 w.heap.size 34 #[.int .i64 kd, .int .i64 a, .slice vA vn vc] := by rw [hW1]; exact Bk.new w _ _
  have y0 : W1.cell? ⟨w.heap.size, 0, none⟩ = some (.int .i64 kd) := hk1.cell 0
  have y1 : W1.cell? ⟨w.heap.size, 1, none⟩ = some (.int .i64 a) := hk1.cell 1
  have y2 : W1.cell? ⟨w.heap.size, 2, none⟩ = some (.slice vA vn vc) := hk1.cell 2
  have h1 := h.below hb1
  have hv1 := Fr.below hv hb1
  have HW := Lib.hid hW1
  have HB := Lib.hid hb1
  have HAn := Lib.hid (fun w' => at_any a n (by omega) w')
  have HAl := Lib.hid (fun w' => at_any a r.row.length (by omega) w')
  have HLn := Lib.hid (fun W2 (hb : Below W1.heap.size W1 W2) => (h1.below hb).len)
  have HStep : Hid (∀ W2 r' w', Below W1.heap.size W1 W2 → RStep W W2 col g N n r' w' → RStep W w col g N n r' w') := Lib.hid fun W2 r' w' hb hs => by
    obtain ⟨col', p1, p2⟩ := hs
    exact ⟨col', p1, (Cl.of_below (below_then hb1 hb)).trans p2⟩
  rcases (by omega : kd = 0 ∨ kd = 1 ∨ kd = 2 ∨ kd = 3 ∨ kd = 4 ∨ kd = 5 ∨ kd = 6 ∨ kd = 7 ∨ (kd ≠ 0 ∧ kd ≠ 1 ∧ kd ≠ 2 ∧ kd ≠ 3 ∧ kd ≠ 4 ∧ kd ≠ 5 ∧ kd ≠ 6 ∧ kd ≠ 7)) with hk | hk | hk | hk | hk | hk | hk | hk | hk
  · have hp : r.play kd a v n = (r.start (atN a n) v).2.2 := by unfold Ro.play; rw [if_pos hk]
    obtain ⟨R', hR'⟩ : ∃ R', r.play kd a v n = R' := ⟨_, rfl⟩
    rw [hR'] at hp ⊢
    have HF : Hid (∀ W2, Below W1.heap.size W1 W2 → Calls Try.prog 21 #[.pointer (some ⟨g, 0, none⟩), .int .i64 (atN a n : Int), .slice vA vn vc] W2 fun e w' => (∃ (bn : Nat) (bd E : Int), e = .returned (.tuple #[.agg #[.int .u64 (bn : Int), .int .i64 bd], .int .i64 E])) ∧ Hid (RStep W w col g N n R' w')) := Lib.hid fun W2 hb => by
      refine ((h1.below hb).start (atN a n) vA vn vc v (Fr.below hv1 hb)).mono ?_
      rintro e w' ⟨⟨bn, bd, rfl, _⟩, hs⟩
      exact ⟨⟨bn, bd, _, rfl⟩, Lib.hid (by rw [hp]; exact HStep.out W2 _ w' hb hs.out)⟩
    have E0 : (kd == 0) = true := by rw [hk]; rfl
    clear h hv hnn hn12 hlr hW1 hb1 hk1 h1 hv1 hp hR' hk HStep
    go_enter Try.func12, Try.ntmps12
    go_upto_region 1 with (fail)
    rw [← HW.out]
    go_wp2_with fail
    go_region_law (go_simp; (first | (go_at_call 15; (refine (HAn.out _).mono ?_); rintro x W5 ⟨rfl, rfl⟩) | (go_at_call 21; (refine (HF.out _ (by (repeat' (first | assumption | exact Below.refl _ _ | apply Below.drew | exact bel_drewN (Below.refl _ _) _)))).mono ?_); rintro x W6 ⟨⟨bn, bd, E, rfl⟩, HT⟩)))
    all_goals
      go_wp2
      go_end0
      exact ⟨rfl, HT⟩
  · have hp : r.play kd a v n = (r.take (atN a r.row.length)).2 := by unfold Ro.play; rw [if_neg (by omega), if_pos (by omega)]
    obtain ⟨R', hR'⟩ : ∃ R', r.play kd a v n = R' := ⟨_, rfl⟩
    rw [hR'] at hp ⊢
    have HF : Hid (∀ W2, Below W1.heap.size W1 W2 → Calls Try.prog 22 #[.pointer (some ⟨g, 0, none⟩), .int .i64 (atN a r.row.length : Int)] W2 fun e w' => (∃ E, e = .returned (.bool E)) ∧ Hid (RStep W w col g N n R' w')) := Lib.hid fun W2 hb => by
      refine ((h1.below hb).take (atN a r.row.length)).mono ?_
      rintro e w' ⟨rfl, hs⟩
      exact ⟨⟨_, rfl⟩, Lib.hid (by rw [hp]; exact HStep.out W2 _ w' hb hs.out)⟩
    have e0 : ¬ kd = 0 := by omega
    have E0 : (kd == 0) = false := by simp; omega
    have E1 : (kd == 1) = true := by rw [hk]; rfl
    clear h hv hnn hn12 hlr hW1 hb1 hk1 h1 hv1 hp hR' hk HStep
    go_enter Try.func12, Try.ntmps12
    go_upto_region 1 with (fail)
    rw [← HW.out]
    go_wp2_with fail
    go_region_law (go_simp; (first | (go_at_call 15; (refine (HAl.out _).mono ?_); rintro x W5 ⟨rfl, rfl⟩) | (go_at_call 19; (refine (HLn.out _ (by (repeat' (first | assumption | exact Below.refl _ _ | apply Below.drew | exact bel_drewN (Below.refl _ _) _)))).mono ?_); rintro x W5 ⟨rfl, rfl⟩) | (go_at_call 22; (refine (HF.out _ (by (repeat' (first | assumption | exact Below.refl _ _ | apply Below.drew | exact bel_drewN (Below.refl _ _) _)))).mono ?_); rintro x W6 ⟨⟨E, rfl⟩, HT⟩)))
    all_goals
      go_wp2
      go_end0
      exact ⟨rfl, HT⟩
  · have hp : r.play kd a v n = (r.take (atN a r.row.length)).2 := by unfold Ro.play; rw [if_neg (by omega), if_pos (by omega)]
    obtain ⟨R', hR'⟩ : ∃ R', r.play kd a v n = R' := ⟨_, rfl⟩
    rw [hR'] at hp ⊢
    have HF : Hid (∀ W2, Below W1.heap.size W1 W2 → Calls Try.prog 22 #[.pointer (some ⟨g, 0, none⟩), .int .i64 (atN a r.row.length : Int)] W2 fun e w' => (∃ E, e = .returned (.bool E)) ∧ Hid (RStep W w col g N n R' w')) := Lib.hid fun W2 hb => by
      refine ((h1.below hb).take (atN a r.row.length)).mono ?_
      rintro e w' ⟨rfl, hs⟩
      exact ⟨⟨_, rfl⟩, Lib.hid (by rw [hp]; exact HStep.out W2 _ w' hb hs.out)⟩
    have e0 : ¬ kd = 0 := by omega
    have E0 : (kd == 0) = false := by simp; omega
    have e1 : ¬ kd = 1 := by omega
    have E1 : (kd == 1) = false := by simp; omega
    have E2 : (kd == 2) = true := by rw [hk]; rfl
    clear h hv hnn hn12 hlr hW1 hb1 hk1 h1 hv1 hp hR' hk HStep
    go_enter Try.func12, Try.ntmps12
    go_upto_region 1 with (fail)
    rw [← HW.out]
    go_wp2_with fail
    go_region_law (go_simp; (first | (go_at_call 15; (refine (HAl.out _).mono ?_); rintro x W5 ⟨rfl, rfl⟩) | (go_at_call 19; (refine (HLn.out _ (by (repeat' (first | assumption | exact Below.refl _ _ | apply Below.drew | exact bel_drewN (Below.refl _ _) _)))).mono ?_); rintro x W5 ⟨rfl, rfl⟩) | (go_at_call 22; (refine (HF.out _ (by (repeat' (first | assumption | exact Below.refl _ _ | apply Below.drew | exact bel_drewN (Below.refl _ _) _)))).mono ?_); rintro x W6 ⟨⟨E, rfl⟩, HT⟩)))
    all_goals
      go_wp2
      go_end0
      exact ⟨rfl, HT⟩
  · have hp : r.play kd a v n = (r.take (atN a r.row.length)).2 := by unfold Ro.play; rw [if_neg (by omega), if_pos (by omega)]
    obtain ⟨R', hR'⟩ : ∃ R', r.play kd a v n = R' := ⟨_, rfl⟩
    rw [hR'] at hp ⊢
    have HF : Hid (∀ W2, Below W1.heap.size W1 W2 → Calls Try.prog 22 #[.pointer (some ⟨g, 0, none⟩), .int .i64 (atN a r.row.length : Int)] W2 fun e w' => (∃ E, e = .returned (.bool E)) ∧ Hid (RStep W w col g N n R' w')) := Lib.hid fun W2 hb => by
      refine ((h1.below hb).take (atN a r.row.length)).mono ?_
      rintro e w' ⟨rfl, hs⟩
      exact ⟨⟨_, rfl⟩, Lib.hid (by rw [hp]; exact HStep.out W2 _ w' hb hs.out)⟩
    have e0 : ¬ kd = 0 := by omega
    have E0 : (kd == 0) = false := by simp; omega
    have e1 : ¬ kd = 1 := by omega
    have E1 : (kd == 1) = false := by simp; omega
    have e2 : ¬ kd = 2 := by omega
    have E2 : (kd == 2) = false := by simp; omega
    have E3 : (kd == 3) = true := by rw [hk]; rfl
    clear h hv hnn hn12 hlr hW1 hb1 hk1 h1 hv1 hp hR' hk HStep
    go_enter Try.func12, Try.ntmps12
    go_upto_region 1 with (fail)
    rw [← HW.out]
    go_wp2_with fail
    go_region_law (go_simp; (first | (go_at_call 15; (refine (HAl.out _).mono ?_); rintro x W5 ⟨rfl, rfl⟩) | (go_at_call 19; (refine (HLn.out _ (by (repeat' (first | assumption | exact Below.refl _ _ | apply Below.drew | exact bel_drewN (Below.refl _ _) _)))).mono ?_); rintro x W5 ⟨rfl, rfl⟩) | (go_at_call 22; (refine (HF.out _ (by (repeat' (first | assumption | exact Below.refl _ _ | apply Below.drew | exact bel_drewN (Below.refl _ _) _)))).mono ?_); rintro x W6 ⟨⟨E, rfl⟩, HT⟩)))
    all_goals
      go_wp2
      go_end0
      exact ⟨rfl, HT⟩
  · have hp : r.play kd a v n = (r.take (atN a r.row.length)).2 := by unfold Ro.play; rw [if_neg (by omega), if_pos (by omega)]
    obtain ⟨R', hR'⟩ : ∃ R', r.play kd a v n = R' := ⟨_, rfl⟩
    rw [hR'] at hp ⊢
    have HF : Hid (∀ W2, Below W1.heap.size W1 W2 → Calls Try.prog 22 #[.pointer (some ⟨g, 0, none⟩), .int .i64 (atN a r.row.length : Int)] W2 fun e w' => (∃ E, e = .returned (.bool E)) ∧ Hid (RStep W w col g N n R' w')) := Lib.hid fun W2 hb => by
      refine ((h1.below hb).take (atN a r.row.length)).mono ?_
      rintro e w' ⟨rfl, hs⟩
      exact ⟨⟨_, rfl⟩, Lib.hid (by rw [hp]; exact HStep.out W2 _ w' hb hs.out)⟩
    have e0 : ¬ kd = 0 := by omega
    have E0 : (kd == 0) = false := by simp; omega
    have e1 : ¬ kd = 1 := by omega
    have E1 : (kd == 1) = false := by simp; omega
    have e2 : ¬ kd = 2 := by omega
    have E2 : (kd == 2) = false := by simp; omega
    have e3 : ¬ kd = 3 := by omega
    have E3 : (kd == 3) = false := by simp; omega
    have E4 : (kd == 4) = true := by rw [hk]; rfl
    clear h hv hnn hn12 hlr hW1 hb1 hk1 h1 hv1 hp hR' hk HStep
    go_enter Try.func12, Try.ntmps12
    go_upto_region 1 with (fail)
    rw [← HW.out]
    go_wp2_with fail
    go_region_law (go_simp; (first | (go_at_call 15; (refine (HAl.out _).mono ?_); rintro x W5 ⟨rfl, rfl⟩) | (go_at_call 19; (refine (HLn.out _ (by (repeat' (first | assumption | exact Below.refl _ _ | apply Below.drew | exact bel_drewN (Below.refl _ _) _)))).mono ?_); rintro x W5 ⟨rfl, rfl⟩) | (go_at_call 22; (refine (HF.out _ (by (repeat' (first | assumption | exact Below.refl _ _ | apply Below.drew | exact bel_drewN (Below.refl _ _) _)))).mono ?_); rintro x W6 ⟨⟨E, rfl⟩, HT⟩)))
    all_goals
      go_wp2
      go_end0
      exact ⟨rfl, HT⟩
  · have hp : r.play kd a v n = (r.drop (atN a r.row.length)).2 := by unfold Ro.play; rw [if_neg (by omega), if_neg (by omega), if_pos hk]
    obtain ⟨R', hR'⟩ : ∃ R', r.play kd a v n = R' := ⟨_, rfl⟩
    rw [hR'] at hp ⊢
    have HF : Hid (∀ W2, Below W1.heap.size W1 W2 → Calls Try.prog 20 #[.pointer (some ⟨g, 0, none⟩), .int .i64 (atN a r.row.length : Int)] W2 fun e w' => (∃ E, e = .returned (.bool E)) ∧ Hid (RStep W w col g N n R' w')) := Lib.hid fun W2 hb => by
      refine ((h1.below hb).drop (atN a r.row.length)).mono ?_
      rintro e w' ⟨rfl, hs⟩
      exact ⟨⟨_, rfl⟩, Lib.hid (by rw [hp]; exact HStep.out W2 _ w' hb hs.out)⟩
    have e0 : ¬ kd = 0 := by omega
    have E0 : (kd == 0) = false := by simp; omega
    have e1 : ¬ kd = 1 := by omega
    have E1 : (kd == 1) = false := by simp; omega
    have e2 : ¬ kd = 2 := by omega
    have E2 : (kd == 2) = false := by simp; omega
    have e3 : ¬ kd = 3 := by omega
    have E3 : (kd == 3) = false := by simp; omega
    have e4 : ¬ kd = 4 := by omega
    have E4 : (kd == 4) = false := by simp; omega
    have E5 : (kd == 5) = true := by rw [hk]; rfl
    clear h hv hnn hn12 hlr hW1 hb1 hk1 h1 hv1 hp hR' hk HStep
    go_enter Try.func12, Try.ntmps12
    go_upto_region 1 with (fail)
    rw [← HW.out]
    go_wp2_with fail
    go_region_law (go_simp; (first | (go_at_call 15; (refine (HAl.out _).mono ?_); rintro x W5 ⟨rfl, rfl⟩) | (go_at_call 19; (refine (HLn.out _ (by (repeat' (first | assumption | exact Below.refl _ _ | apply Below.drew | exact bel_drewN (Below.refl _ _) _)))).mono ?_); rintro x W5 ⟨rfl, rfl⟩) | (go_at_call 20; (refine (HF.out _ (by (repeat' (first | assumption | exact Below.refl _ _ | apply Below.drew | exact bel_drewN (Below.refl _ _) _)))).mono ?_); rintro x W6 ⟨⟨E, rfl⟩, HT⟩)))
    all_goals
      go_wp2
      go_end0
      exact ⟨rfl, HT⟩
  · have hp : r.play kd a v n = (r.twice (atN a r.row.length)).2 := by unfold Ro.play; rw [if_neg (by omega), if_neg (by omega), if_neg (by omega), if_pos hk]
    obtain ⟨R', hR'⟩ : ∃ R', r.play kd a v n = R' := ⟨_, rfl⟩
    rw [hR'] at hp ⊢
    have HF : Hid (∀ W2, Below W1.heap.size W1 W2 → Calls Try.prog 28 #[.pointer (some ⟨g, 0, none⟩), .int .i64 (atN a r.row.length : Int)] W2 fun e w' => (∃ E, e = .returned (.bool E)) ∧ Hid (RStep W w col g N n R' w')) := Lib.hid fun W2 hb => by
      refine ((h1.below hb).twice (atN a r.row.length)).mono ?_
      rintro e w' ⟨rfl, hs⟩
      exact ⟨⟨_, rfl⟩, Lib.hid (by rw [hp]; exact HStep.out W2 _ w' hb hs.out)⟩
    have e0 : ¬ kd = 0 := by omega
    have E0 : (kd == 0) = false := by simp; omega
    have e1 : ¬ kd = 1 := by omega
    have E1 : (kd == 1) = false := by simp; omega
    have e2 : ¬ kd = 2 := by omega
    have E2 : (kd == 2) = false := by simp; omega
    have e3 : ¬ kd = 3 := by omega
    have E3 : (kd == 3) = false := by simp; omega
    have e4 : ¬ kd = 4 := by omega
    have E4 : (kd == 4) = false := by simp; omega
    have e5 : ¬ kd = 5 := by omega
    have E5 : (kd == 5) = false := by simp; omega
    have E6 : (kd == 6) = true := by rw [hk]; rfl
    clear h hv hnn hn12 hlr hW1 hb1 hk1 h1 hv1 hp hR' hk HStep
    go_enter Try.func12, Try.ntmps12
    go_upto_region 1 with (fail)
    rw [← HW.out]
    go_wp2_with fail
    go_region_law (go_simp; (first | (go_at_call 15; (refine (HAl.out _).mono ?_); rintro x W5 ⟨rfl, rfl⟩) | (go_at_call 19; (refine (HLn.out _ (by (repeat' (first | assumption | exact Below.refl _ _ | apply Below.drew | exact bel_drewN (Below.refl _ _) _)))).mono ?_); rintro x W5 ⟨rfl, rfl⟩) | (go_at_call 28; (refine (HF.out _ (by (repeat' (first | assumption | exact Below.refl _ _ | apply Below.drew | exact bel_drewN (Below.refl _ _) _)))).mono ?_); rintro x W6 ⟨⟨E, rfl⟩, HT⟩)))
    all_goals
      go_wp2
      go_end0
      exact ⟨rfl, HT⟩
  · have hp : r.play kd a v n = (r.crash (atN a n)).2 := by unfold Ro.play; rw [if_neg (by omega), if_neg (by omega), if_neg (by omega), if_neg (by omega), if_pos hk]
    obtain ⟨R', hR'⟩ : ∃ R', r.play kd a v n = R' := ⟨_, rfl⟩
    rw [hR'] at hp ⊢
    have HF : Hid (∀ W2, Below W1.heap.size W1 W2 → Calls Try.prog 29 #[.pointer (some ⟨g, 0, none⟩), .int .i64 (atN a n : Int)] W2 fun e w' => (∃ E : Int, e = .returned (.int .i64 E)) ∧ Hid (RStep W w col g N n R' w')) := Lib.hid fun W2 hb => by
      refine ((h1.below hb).crash (atN a n)).mono ?_
      rintro e w' ⟨rfl, hs⟩
      exact ⟨⟨_, rfl⟩, Lib.hid (by rw [hp]; exact HStep.out W2 _ w' hb hs.out)⟩
    have e0 : ¬ kd = 0 := by omega
    have E0 : (kd == 0) = false := by simp; omega
    have e1 : ¬ kd = 1 := by omega
    have E1 : (kd == 1) = false := by simp; omega
    have e2 : ¬ kd = 2 := by omega
    have E2 : (kd == 2) = false := by simp; omega
    have e3 : ¬ kd = 3 := by omega
    have E3 : (kd == 3) = false := by simp; omega
    have e4 : ¬ kd = 4 := by omega
    have E4 : (kd == 4) = false := by simp; omega
    have e5 : ¬ kd = 5 := by omega
    have E5 : (kd == 5) = false := by simp; omega
    have e6 : ¬ kd = 6 := by omega
    have E6 : (kd == 6) = false := by simp; omega
    have E7 : (kd == 7) = true := by rw [hk]; rfl
    clear h hv hnn hn12 hlr hW1 hb1 hk1 h1 hv1 hp hR' hk HStep
    go_enter Try.func12, Try.ntmps12
    go_upto_region 1 with (fail)
    rw [← HW.out]
    go_wp2_with fail
    refine (HAn.out _).mono ?_
    rintro x W5 ⟨rfl, rfl⟩
    go_wp2_with fail
    refine (HF.out _ (Below.refl _ _)).mono ?_
    rintro x W6 ⟨⟨E, rfl⟩, HT⟩
    all_goals
      go_wp2
      go_end0
      exact ⟨rfl, HT⟩
  · obtain ⟨d0, d1, d2, d3, d4, d5, d6, d7⟩ := hk
    have hp : r.play kd a v n = r.takes 60 := by unfold Ro.play; rw [if_neg d0, if_neg (by omega), if_neg d5, if_neg d6, if_neg d7]
    obtain ⟨R', hR'⟩ : ∃ R', r.play kd a v n = R' := ⟨_, rfl⟩
    rw [hR'] at hp ⊢
    have HTk : Hid (∀ W2 col2 k, OwR W W2 col2 g N n (r.takes k) → Cl col col2 w W2 → Calls Try.prog 22 #[.pointer (some ⟨g, 0, none⟩), .int .i64 0] W2 fun e w' => (∃ E, e = .returned (.bool E)) ∧ Hid (∃ col', OwR W w' col' g N n (r.takes (k + 1)) ∧ Cl col col' w w')) := Lib.hid fun W2 col2 k hq hc => by
      refine (hq.take 0).mono ?_
      rintro e w' ⟨rfl, hs⟩
      exact ⟨⟨_, rfl⟩, Lib.hid (by obtain ⟨col', p1, p2⟩ := hs.out; exact ⟨col', p1, hc.trans p2⟩)⟩
    have H0 : Hid (∃ col', OwR W W1 col' g N n (r.takes 0) ∧ Cl col col' w W1) := Lib.hid ⟨col, h1, Cl.of_below hb1⟩
    have Hp := Lib.hid hp
    have E0 : (kd == 0) = false := by simpa using d0
    have E1 : (kd == 1) = false := by simpa using d1
    have E2 : (kd == 2) = false := by simpa using d2
    have E3 : (kd == 3) = false := by simpa using d3
    have E4 : (kd == 4) = false := by simpa using d4
    have E5 : (kd == 5) = false := by simpa using d5
    have E6 : (kd == 6) = false := by simpa using d6
    have E7 : (kd == 7) = false := by simpa using d7
    clear h hv hnn hn12 hlr hW1 hb1 hk1 h1 hv1 hp hR' HStep
    go_enter Try.func12, Try.ntmps12
    go_upto_region 1 with (fail)
    rw [← HW.out]
    go_wp2_with fail
    go_loopg [6] 60 (fun gk i wr => ∃ k : Nat, i = .int .i64 (k : Int) ∧ k + gk = 60 ∧ Hid (∃ col', OwR W wr col' g N n (r.takes k) ∧ Cl col col' w wr))
    case atStart => exact ⟨0, rfl, by omega, H0⟩
    case round =>
      obtain ⟨k, rfl, hkg, HI⟩ := hrel
      obtain ⟨col', hR, hC⟩ := HI.out
      by_cases hk : k < 60
      · have hkI : (k : Int) < 60 := by omega
        have HTk5 := Lib.hid (HTk.out wr col' k hR hC)
        clear hR hC HI
        go_wp2_with fail
        refine HTk5.out.mono ?_
        rintro e w7 ⟨⟨b, rfl⟩, HO7⟩
        go_wp2
        go_roundg (gk - 1)
        case measure => omega
        case rel => exact ⟨k + 1, by go_num, by omega, HO7⟩
      · obtain rfl : k = 60 := by omega
        have HD : Hid (RStep W w col g N n R' wr) := Lib.hid (by rw [Hp.out]; exact ⟨col', hR, hC⟩)
        clear hR hC HI
        go_wp2
        go_end0
        exact ⟨rfl, HD⟩
end
end Go.Proofs.Ytjapmolmgfaocaa
