/- Of the proofs of layer 4, merged: FrameGet. -/
import Derived.Test.YtfghbhjljbdlmaaMConcat
import Derived.Handy
import Derived.Deep.RegionHeld3

/- frame.Get answers the plain frame at a place. -/
namespace Go.Proofs.Ytfghbhjljbdlmaa
open Go.RowKit

set_option maxRecDepth 100000 in
set_option maxHeartbeats 400000 in
theorem get_bad (A : Option Addr) (n c : Nat) (at_ e : Int) (w : World) (he : e ≠ 0)
    (HF : Hid (Calls Try.prog 106 #[.slice A n c, .int .i64 at_] (w.alloc (.cells #[.int .u8 0, .slice none 0 0] 132)) fun x w' => x = .returned (.tuple #[.int .i64 0, .int .i64 0, .int .i64 e]) ∧ w.alloc (.cells #[.int .u8 0, .slice none 0 0] 132) = w')) :
    Calls Try.prog 83 #[.slice A n c, .int .i64 at_] w fun x w' =>
      ∃ v, x = .returned (.tuple #[.agg #[.int .u8 0, v], .int .i64 0, .int .i64 e]) ∧ w'.ownsRow w.heap.size 5 1 v 0 [] ∧ Below w.heap.size w w' := by
  have hne : (e != 0) = true := by simp; exact he
  go_enter Try.func83, Try.ntmps83
  go_wp2_with fail
  refine HF.out.mono ?_
  rintro x w' ⟨rfl, rfl⟩
  go_wp2
  go_returns
  exact ⟨_, rfl, World.ownsRow_nil _ _ _ _, (Below.refl _ _).alloc (Nat.le_refl _) _⟩

/-- Where the body lies well. -/
theorem plF_good {l : List UInt8} {a : Int} (h : (plF l a).2.2 = 0) : ∃ k N : Nat, a = k ∧ N ≤ 1024 ∧ k + (6 + N) ≤ l.length ∧ (l.drop k).getD 0 0 = 167 ∧ N = be (((l.drop k).drop 2).take 4) ∧ plF l a = ((k : Int) + 6, (k : Int) + 6 + (N : Int), 0) ∧
    getF (l.drop k) = (if l.length - k < 10 + N then .error 10 else if be (((l.drop k).drop (6 + N)).take 4) ≠ crcSum ((l.drop k).take (6 + N)) then .error 21 else .ok (((l.drop k).getD 1 0, ((l.drop k).drop 6).take N), 10 + N)) := by
  unfold plF at h ⊢
  by_cases h1 : a < 0 ∨ (l.length : Int) < a
  · rw [if_pos h1] at h; simp at h
  rw [if_neg h1] at h ⊢
  obtain ⟨k, rfl⟩ := Int.eq_ofNat_of_zero_le (show 0 ≤ a by omega)
  rw [Int.toNat_natCast] at h ⊢
  have hdl : (l.drop k).length = l.length - k := List.length_drop ..
  unfold getF
  rw [hdl] at h ⊢
  by_cases h2 : l.length - k = 0
  · rw [if_pos h2] at h; simp at h
  rw [if_neg h2] at h ⊢
  by_cases h3 : (l.drop k).getD 0 0 ≠ 167
  · rw [if_pos h3] at h; simp at h
  rw [if_neg h3] at h ⊢
  by_cases h4 : l.length - k < 6
  · rw [if_pos h4] at h; simp at h
  rw [if_neg h4] at h ⊢
  by_cases h5 : 1024 < be (((l.drop k).drop 2).take 4)
  · rw [if_pos h5] at h; simp at h
  rw [if_neg h5] at h ⊢
  by_cases h6 : l.length - k < 6 + be (((l.drop k).drop 2).take 4)
  · rw [if_pos h6] at h; simp at h
  rw [if_neg h6]
  refine ⟨k, be (((l.drop k).drop 2).take 4), rfl, by omega, by omega, by simpa using h3, rfl, rfl, ?_⟩
  rw [hdl, if_neg h2, if_neg h3, if_neg h4, if_neg h5]
theorem plF_bad {l : List UInt8} {a : Int} (h : (plF l a).2.2 ≠ 0) : ∃ e : Int, 0 ≤ e ∧ e ≤ 100 ∧ e ≠ 0 ∧ plF l a = (0, 0, e) ∧ getA l a = (0, [], 0, e) := by
  unfold plF at h ⊢
  unfold getA
  by_cases h1 : a < 0 ∨ (l.length : Int) < a
  · rw [if_pos h1, if_pos h1]; exact ⟨2, by decide, by decide, by decide, rfl, rfl⟩
  rw [if_neg h1] at h ⊢
  rw [if_neg h1]
  unfold getF
  by_cases h2 : (l.drop a.toNat).length = 0
  · rw [if_pos h2, if_pos h2]; exact ⟨10, by decide, by decide, by decide, rfl, rfl⟩
  rw [if_neg h2] at h ⊢
  rw [if_neg h2]
  by_cases h3 : (l.drop a.toNat).getD 0 0 ≠ 167
  · rw [if_pos h3, if_pos h3]; exact ⟨20, by decide, by decide, by decide, rfl, rfl⟩
  rw [if_neg h3] at h ⊢
  rw [if_neg h3]
  by_cases h4 : (l.drop a.toNat).length < 6
  · rw [if_pos h4, if_pos h4]; exact ⟨10, by decide, by decide, by decide, rfl, rfl⟩
  rw [if_neg h4] at h ⊢
  rw [if_neg h4]
  by_cases h5 : 1024 < be (((l.drop a.toNat).drop 2).take 4)
  · rw [if_pos h5, if_pos h5]; exact ⟨3, by decide, by decide, by decide, rfl, rfl⟩
  rw [if_neg h5] at h ⊢
  rw [if_neg h5]
  by_cases h6 : (l.drop a.toNat).length < 6 + be (((l.drop a.toNat).drop 2).take 4)
  · rw [if_pos h6, if_pos (by omega)]; exact ⟨10, by decide, by decide, by decide, rfl, rfl⟩
  rw [if_neg h6] at h
  simp at h

section
variable (b o n c a N S S' : Nat) (l p : List UInt8) (w : World) (hn : n ≤ 140737488355328) (hc : n ≤ c) (hm : c ≤ 9223372036854775807) (hN : N ≤ 1024)
set_option maxHeartbeats 400000 in
set_option maxRecDepth 100000 in
theorem get_short
    (HP : Hid (∀ W, Rd W w.heap.size (some ⟨b, o, none⟩) n l → Calls Try.prog 106 #[.slice (some ⟨b, o, none⟩) n c, .int .i64 (a : Int)] W fun e w' => e = .returned (.tuple #[.int .i64 ((a : Int) + 6), .int .i64 ((a : Int) + 6 + (N : Int)), .int .i64 0]) ∧ W = w'))
    (HF : Hid (∀ W, Rd W w.heap.size (some ⟨b, o, none⟩) n l → Calls Try.prog 107 #[.slice (some ⟨b, o, none⟩) n c, .int .i64 ((a : Int) + 6 + (N : Int))] W fun e w' => e = .returned (.tuple #[.int .u32 0, .int .i64 0, .int .i64 10]) ∧ W = w'))
    (HR : Hid (Rd w w.heap.size (some ⟨b, o, none⟩) n l)) :
    Calls Try.prog 83 #[.slice (some ⟨b, o, none⟩) n c, .int .i64 (a : Int)] w fun x w' =>
      ∃ v, x = .returned (.tuple #[.agg #[.int .u8 0, v], .int .i64 0, .int .i64 10]) ∧ w'.ownsRow w.heap.size 5 1 v 0 [] ∧ Below w.heap.size w w' := by
  go_enter Try.func83, Try.ntmps83
  go_wp2_with fail
  refine (HP.out _ (HR.out.alloc (Nat.le_refl _) _)).mono ?_
  rintro x w' ⟨rfl, rfl⟩
  go_wp2_with fail
  refine (HF.out _ (HR.out.alloc (Nat.le_refl _) _)).mono ?_
  rintro x w' ⟨rfl, rfl⟩
  go_wp2
  go_returns
  exact ⟨_, rfl, World.ownsRow_nil _ _ _ _, (Below.refl _ _).alloc (Nat.le_refl _) _⟩

set_option maxHeartbeats 400000 in
set_option maxRecDepth 100000 in
include hc hN in
theorem get_sum (ha : a + (10 + N) ≤ n)
    (HP : Hid (∀ W, Rd W w.heap.size (some ⟨b, o, none⟩) n l → Calls Try.prog 106 #[.slice (some ⟨b, o, none⟩) n c, .int .i64 (a : Int)] W fun e w' => e = .returned (.tuple #[.int .i64 ((a : Int) + 6), .int .i64 ((a : Int) + 6 + (N : Int)), .int .i64 0]) ∧ W = w'))
    (HF : Hid (∀ W, Rd W w.heap.size (some ⟨b, o, none⟩) n l → Calls Try.prog 107 #[.slice (some ⟨b, o, none⟩) n c, .int .i64 ((a : Int) + 6 + (N : Int))] W fun e w' => e = .returned (.tuple #[.int .u32 (S' : Int), .int .i64 ((a : Int) + (10 + (N : Int))), .int .i64 0]) ∧ W = w'))
    (HS : Hid (∀ W g, g = W.heap.size → w.heap.size ≤ W.heap.size → Rd W w.heap.size (some ⟨b, o + a, none⟩) (6 + N) p → Calls Try.prog 101 #[.slice (some ⟨g, 0, none⟩) 1 1] (W.alloc (.cells #[.slice (some ⟨b, o + a, none⟩) (6 + N) (c - a)] 32)) fun e w' => e = .returned (.int .u32 (S : Int)) ∧ W.alloc (.cells #[.slice (some ⟨b, o + a, none⟩) (6 + N) (c - a)] 32) = w'))
    (HR : Hid (Rd w w.heap.size (some ⟨b, o, none⟩) n l)) (HQ : Hid (Rd w w.heap.size (some ⟨b, o + a, none⟩) (6 + N) p)) (hS : S' ≠ S) :
    Calls Try.prog 83 #[.slice (some ⟨b, o, none⟩) n c, .int .i64 (a : Int)] w fun x w' =>
      ∃ v, x = .returned (.tuple #[.agg #[.int .u8 0, v], .int .i64 0, .int .i64 21]) ∧ w'.ownsRow w.heap.size 5 1 v 0 [] ∧ Below w.heap.size w w' := by
  go_enter Try.func83, Try.ntmps83
  go_wp2_with fail
  refine (HP.out _ (HR.out.alloc (Nat.le_refl _) _)).mono ?_
  rintro x w' ⟨rfl, rfl⟩
  go_wp2_with fail
  refine (HF.out _ (HR.out.alloc (Nat.le_refl _) _)).mono ?_
  rintro x w' ⟨rfl, rfl⟩
  have hE : ((a : Int) + 6 + (N : Int)) = ((a + 6 + N : Nat) : Int) := by omega
  have hE2 : a + (6 + N) = a + 6 + N := by omega
  rw [hE]
  generalize hEE : a + 6 + N = E
  go_wp2_with fail
  rw [show E - a = 6 + N by omega]
  refine (HS.out _ _ (by simp) (by simp) (HQ.out.alloc (Nat.le_refl _) _)).mono ?_
  rintro x w' ⟨rfl, rfl⟩
  have hS3 : ((S' : Int) != (S : Int)) = true := by simp; omega
  clear HP HF HS HR HQ
  go_wp2
  go_returns
  exact ⟨_, rfl, World.ownsRow_nil _ _ _ _, ((Below.refl _ _).alloc (Nat.le_refl _) _).alloc (by simp) _⟩

set_option maxHeartbeats 400000 in
set_option maxRecDepth 100000 in
include hn hc hm hN in
theorem get_good (ha : a + (10 + N) ≤ n) (K : UInt8) (body : List UInt8)
    (HP : Hid (∀ W, Rd W w.heap.size (some ⟨b, o, none⟩) n l → Calls Try.prog 106 #[.slice (some ⟨b, o, none⟩) n c, .int .i64 (a : Int)] W fun e w' => e = .returned (.tuple #[.int .i64 ((a : Int) + 6), .int .i64 ((a : Int) + 6 + (N : Int)), .int .i64 0]) ∧ W = w'))
    (HF : Hid (∀ W, Rd W w.heap.size (some ⟨b, o, none⟩) n l → Calls Try.prog 107 #[.slice (some ⟨b, o, none⟩) n c, .int .i64 ((a : Int) + 6 + (N : Int))] W fun e w' => e = .returned (.tuple #[.int .u32 (S : Int), .int .i64 ((a : Int) + (10 + (N : Int))), .int .i64 0]) ∧ W = w'))
    (HS : Hid (∀ W g, g = W.heap.size → w.heap.size ≤ W.heap.size → Rd W w.heap.size (some ⟨b, o + a, none⟩) (6 + N) p → Calls Try.prog 101 #[.slice (some ⟨g, 0, none⟩) 1 1] (W.alloc (.cells #[.slice (some ⟨b, o + a, none⟩) (6 + N) (c - a)] 32)) fun e w' => e = .returned (.int .u32 (S : Int)) ∧ W.alloc (.cells #[.slice (some ⟨b, o + a, none⟩) (6 + N) (c - a)] 32) = w'))
    (HC : Hid (∀ W, w.heap.size ≤ W.heap.size → Rd W w.heap.size (some ⟨b, o + (a + 6), none⟩) N body → Calls Try.prog 71 #[.slice (some ⟨b, o + (a + 6), none⟩) N (c - (a + 6))] W fun e w' => ∃ v, e = .returned v ∧ w'.ownsRow W.heap.size 5 1 v N (u8s body) ∧ Below W.heap.size W w'))
    (HR : Hid (Rd w w.heap.size (some ⟨b, o, none⟩) n l)) (HQ : Hid (Rd w w.heap.size (some ⟨b, o + a, none⟩) (6 + N) p)) (HB : Hid (Rd w w.heap.size (some ⟨b, o + (a + 6), none⟩) N body))
    (hK : w.cell? ⟨b, o + (a + 1), none⟩ = some (.int .u8 (K.toNat : Int))) (hB : b < w.heap.size) :
    Calls Try.prog 83 #[.slice (some ⟨b, o, none⟩) n c, .int .i64 (a : Int)] w fun x w' =>
      ∃ v, x = .returned (.tuple #[.agg #[.int .u8 (K.toNat : Int), v], .int .i64 ((a : Int) + (10 + (N : Int))), .int .i64 0]) ∧ w'.ownsRow w.heap.size 5 1 v N (u8s body) ∧ Below w.heap.size w w' := by
  go_enter Try.func83, Try.ntmps83
  go_wp2_with fail
  refine (HP.out _ (HR.out.alloc (Nat.le_refl _) _)).mono ?_
  rintro x w' ⟨rfl, rfl⟩
  go_wp2_with fail
  refine (HF.out _ (HR.out.alloc (Nat.le_refl _) _)).mono ?_
  rintro x w' ⟨rfl, rfl⟩
  have hE : ((a : Int) + 6 + (N : Int)) = ((a + 6 + N : Nat) : Int) := by omega
  have hE2 : a + (6 + N) = a + 6 + N := by omega
  rw [hE]
  generalize hEE : a + 6 + N = E
  go_wp2_with fail
  rw [show E - a = 6 + N by omega]
  refine (HS.out _ _ (by simp) (by simp) (HQ.out.alloc (Nat.le_refl _) _)).mono ?_
  rintro x w' ⟨rfl, rfl⟩
  clear HP HF HS HR HQ
  have hk0 : ((w.alloc (.cells #[.int .u8 0, .slice none 0 0] 132)).alloc (.cells #[.slice (some ⟨b, o + a, none⟩) (6 + N) (c - a)] 32)).cell? ⟨b, o + (a + 1), none⟩ = some (.int .u8 (K.toNat : Int)) := by
    rw [(((Below.refl _ _).alloc (Nat.le_refl _) _).alloc (by simp) _ : Below w.heap.size w _).cell (by exact hB)]; exact hK
  have hbk0 : Bk ((w.alloc (.cells #[.int .u8 0, .slice none 0 0] 132)).alloc (.cells #[.slice (some ⟨b, o + a, none⟩) (6 + N) (c - a)] 32)) w.heap.size 132 #[.int .u8 0, .slice none 0 0] := (Bk.new _ _ _).below ((Below.refl _ _).alloc (Nat.le_refl _) _) (by simp)
  have HW : Hid (∀ q, w.heap.size + 1 ≤ (((w.alloc (.cells #[.int .u8 0, .slice none 0 0] 132)).alloc (.cells #[.slice (some ⟨b, o + a, none⟩) (6 + N) (c - a)] 32)).drewN q).heap.size) := Lib.hid (fun q => by simp [World.drewN])
  have HB2 : Hid (∀ q, Rd (((w.alloc (.cells #[.int .u8 0, .slice none 0 0] 132)).alloc (.cells #[.slice (some ⟨b, o + a, none⟩) (6 + N) (c - a)] 32)).drewN q) w.heap.size (some ⟨b, o + (a + 6), none⟩) N body) := Lib.hid (fun q => ((HB.out.alloc (Nat.le_refl _) _).alloc (by simp) _).drewN q)
  have Hbelow : Hid (∀ q w2, Below (((w.alloc (.cells #[.int .u8 0, .slice none 0 0] 132)).alloc (.cells #[.slice (some ⟨b, o + a, none⟩) (6 + N) (c - a)] 32)).drewN q).heap.size (((w.alloc (.cells #[.int .u8 0, .slice none 0 0] 132)).alloc (.cells #[.slice (some ⟨b, o + a, none⟩) (6 + N) (c - a)] 32)).drewN q) w2 → Below w.heap.size w w2 ∧ Bk w2 w.heap.size 132 #[.int .u8 0, .slice none 0 0]) := Lib.hid (fun q w2 hb => ⟨(bel_drewN (((Below.refl _ _).alloc (Nat.le_refl _) _).alloc (by simp) _) q).trans (hb.mono (Nat.le_of_succ_le (HW.out q))), Bk.below (w := ((w.alloc (.cells #[.int .u8 0, .slice none 0 0] 132)).alloc (.cells #[.slice (some ⟨b, o + a, none⟩) (6 + N) (c - a)] 32)).drewN q) hbk0 hb (by simp [World.drewN]; omega)⟩)
  have g1 : (0 : Int) ≤ (a : Int) + 1 := by omega
  have g2 : (a : Int) + 1 < (n : Int) := by omega
  have g3 : IntKind.i64.wrap ((a : Int) + 1) = (a : Int) + 1 := by rw [IntKind.wrap_i64]; omega
  have g4 : ((a : Int) + 1).toNat = a + 1 := by omega
  have g5 : (0 : Int) ≤ (a : Int) + 6 := by omega
  have g6 : (a : Int) + 6 ≤ (E : Int) := by omega
  have g7 : (E : Int) ≤ (c : Int) := by omega
  have g8 : ((a : Int) + 6).toNat = a + 6 := by omega
  have g9 : ¬ c = a + 6 := by omega
  have g10 : ¬ c - (a + 6) = 0 := by omega
  have g11 : ¬ ((n : Int) ≤ (a : Int) + 1) := by omega
  have g12 : a + 1 < n := by omega
  have g13 : a + 6 ≤ E := by omega
  have g14 : E ≤ c := by omega
  go_wp2_with fail
  go_region_held3 (fun w' => w'.cell? ⟨b, o + (a + 1), none⟩ = some (.int .u8 (K.toNat : Int))) (first | exact hk0 | exact k0 | exact k3 | go_keep)
    (first | (go_at_call 71; rw [show E - (a + 6) = N by omega]; refine (HC.out _ (Nat.le_of_succ_le (HW.out 1)) (HB2.out 1)).mono ?_; rintro x w2 ⟨v, rfl, hown, hbel⟩; obtain ⟨Av, cv, rfl, _⟩ := own_shape hown; obtain ⟨hb2, hbk2⟩ := Hbelow.out 1 w2 hbel; have Ho := Lib.hid (own_mono hown (HW.out 1)); have Hb := Lib.hid hb2; have k0 : w2.cell? ⟨b, o + (a + 1), none⟩ = some (.int .u8 (K.toNat : Int)) := (hb2.cell (by exact hB)).trans hK; have k3 : ((w2.setCell ⟨w.heap.size, 0, none⟩ (.int .u8 (K.toNat : Int))).setCell ⟨w.heap.size, 1, none⟩ (.slice Av N cv)).cell? ⟨b, o + (a + 1), none⟩ = some (.int .u8 (K.toNat : Int)) := (((hb2.setCell (Nat.le_refl _) _).setCell (Nat.le_refl _) _).cell (by exact hB)).trans hK; have f0 := hbk2.frozen 0; have f1 := hbk2.frozen 1; have d0 := hbk2.cell 0; have d1 := hbk2.cell 1; simp only [List.getElem?_toArray, List.getElem?_cons_zero, List.getElem?_cons_succ] at d0 d1; clear hown hbel hb2))
  have hs0 := hbk2.set_ 0 (.int .u8 (K.toNat : Int))
  have e0 : (w2.setCell ⟨w.heap.size, 0, none⟩ (.int .u8 (K.toNat : Int))).cell? ⟨w.heap.size, 0, none⟩ = some (.int .u8 (K.toNat : Int)) := by rw [hs0.cell]; rfl
  have e1 : ((w2.setCell ⟨w.heap.size, 0, none⟩ (.int .u8 (K.toNat : Int))).setCell ⟨w.heap.size, 1, none⟩ (.slice Av N cv)).cell? ⟨w.heap.size, 1, none⟩ = some (.slice Av N cv) := by rw [(hs0.set_ 1 _).cell]; rfl
  go_wp2
  refine bodyPost_ret (by simp [results, Try.results83, go_sem, e0, e1]; try rfl) rfl ?_
  refine ⟨_, rfl, ?_, (Hb.out.setCell (Nat.le_refl _) _).setCell (Nat.le_refl _) _⟩
  exact own_mono (own_grown (own_grown Ho.out (grown_set _ _ _ _) (by omega)) (grown_set _ _ _ _) (by omega)) (by omega)
end

set_option maxRecDepth 100000 in
theorem frameGet_any (A : Option Addr) (n c : Nat) (at_ : Int) (l : List UInt8) (w : World) (hc : n ≤ c) (hn : n ≤ 140737488355328) (hm : c ≤ 9223372036854775807) (h : Rd w w.heap.size A n l) :
    Calls Try.prog 83 #[.slice A n c, .int .i64 at_] w fun e w' =>
      ∃ v, e = .returned (.tuple #[.agg #[.int .u8 ((getA l at_).1.toNat : Int), v], .int .i64 (getA l at_).2.2.1, .int .i64 (getA l at_).2.2.2]) ∧ w'.ownsRow w.heap.size 5 1 v (getA l at_).2.1.length (u8s (getA l at_).2.1) ∧ Below w.heap.size w w' := by
  by_cases hp : (plF l at_).2.2 = 0
  · obtain ⟨a, N, rfl, hN1, hN2, h0, hN, hpl, hg⟩ := plF_good hp
    have hl := h.1
    rw [hl] at hN2 hg
    obtain ⟨b, o, rfl, hB, hcell⟩ := h.2 (by omega)
    have hK := hcell (a + 1) (by omega)
    have hx1 : (l.drop a).getD 1 0 = l[a + 1]'(by omega) := by simp [List.getD, List.getElem?_eq_getElem (show a + 1 < l.length by omega)]
    rw [← hx1] at hK
    have hP := h.part (i := a) (k := 6 + N) (by omega)
    have hBd := h.part (i := a + 6) (k := N) (by omega)
    have HP : ∀ W, Rd W w.heap.size (some ⟨b, o, none⟩) n l → Calls Try.prog 106 #[.slice (some ⟨b, o, none⟩) n c, .int .i64 (a : Int)] W fun e w' => e = .returned (.tuple #[.int .i64 ((a : Int) + 6), .int .i64 ((a : Int) + 6 + (N : Int)), .int .i64 0]) ∧ W = w' := by
      intro W hW
      have := place_any (some ⟨b, o, none⟩) n c w.heap.size (a : Int) l W hc hn hm hW
      rwa [hpl] at this
    have F : ∀ W, Rd W w.heap.size (some ⟨b, o, none⟩) n l → Calls Try.prog 107 #[.slice (some ⟨b, o, none⟩) n c, .int .i64 ((a : Int) + 6 + (N : Int))] W fun e w' => e = .returned (.tuple #[.int .u32 (fixAt l ((a : Int) + 6 + (N : Int))).1, .int .i64 (fixAt l ((a : Int) + 6 + (N : Int))).2.1, .int .i64 (fixAt l ((a : Int) + 6 + (N : Int))).2.2]) ∧ W = w' :=
      fun W hW => binFixed_any (some ⟨b, o, none⟩) n c w.heap.size ((a : Int) + 6 + (N : Int)) l W hc hm hW
    unfold getA
    rw [if_neg (by omega), Int.toNat_natCast, hg]
    by_cases hs : n - a < 10 + N
    · have e : fixAt l ((a : Int) + 6 + (N : Int)) = (0, 0, 10) := by
        unfold fixAt
        rw [if_neg (by omega), if_pos (by omega)]
      rw [e] at F
      rw [if_pos hs]
      exact get_short b o n c a N l w (Lib.hid HP) (Lib.hid F) (Lib.hid h)
    · have e : fixAt l ((a : Int) + 6 + (N : Int)) = (((be (((l.drop a).drop (6 + N)).take 4) : Nat) : Int), (a : Int) + (10 + (N : Int)), 0) := by
        unfold fixAt
        rw [if_neg (by omega), if_neg (by omega), show ((a : Int) + 6 + (N : Int)).toNat = a + (6 + N) by omega, List.drop_drop]
        exact Prod.ext rfl (Prod.ext (by show (a : Int) + 6 + (N : Int) + 4 = (a : Int) + (10 + (N : Int)); omega) rfl)
      rw [e] at F
      rw [if_neg hs]
      have HS : ∀ W g, g = W.heap.size → w.heap.size ≤ W.heap.size → Rd W w.heap.size (some ⟨b, o + a, none⟩) (6 + N) ((l.drop a).take (6 + N)) → Calls Try.prog 101 #[.slice (some ⟨g, 0, none⟩) 1 1] (W.alloc (.cells #[.slice (some ⟨b, o + a, none⟩) (6 + N) (c - a)] 32)) fun e w' => e = .returned (.int .u32 (crcSum ((l.drop a).take (6 + N)) : Int)) ∧ W.alloc (.cells #[.slice (some ⟨b, o + a, none⟩) (6 + N) (c - a)] 32) = w' := by
        rintro W g rfl hW hr
        have := sum_any (some ⟨W.heap.size, 0, none⟩) 1 1 (W.heap.size + 1) [(l.drop a).take (6 + N)] (W.alloc (.cells #[.slice (some ⟨b, o + a, none⟩) (6 + N) (c - a)] 32)) (by decide) (Parts.lit [(some ⟨b, o + a, none⟩, 6 + N, c - a)] _ rfl rfl rfl rfl (by
          intro i h1 h2
          match i, h1, h2 with
          | 0, _, _ => exact ⟨show 6 + N ≤ c - a by omega, show c - a ≤ _ by omega, hr.more hW⟩))
        simpa using this
      by_cases hs2 : be (((l.drop a).drop (6 + N)).take 4) ≠ crcSum ((l.drop a).take (6 + N))
      · rw [if_pos hs2]
        exact get_sum b o n c a N _ _ l _ w hc hN1 (by omega) (Lib.hid HP) (Lib.hid F) (Lib.hid HS) (Lib.hid h) (Lib.hid hP) hs2
      · rw [if_neg hs2]
        have hs' : be (((l.drop a).drop (6 + N)).take 4) = crcSum ((l.drop a).take (6 + N)) := by simpa using hs2
        rw [hs'] at F
        have hlen : (((l.drop a).drop 6).take N).length = N := by rw [List.length_take, List.length_drop, List.length_drop]; omega
        have HC : ∀ W, w.heap.size ≤ W.heap.size → Rd W w.heap.size (some ⟨b, o + (a + 6), none⟩) N (((l.drop a).drop 6).take N) → Calls Try.prog 71 #[.slice (some ⟨b, o + (a + 6), none⟩) N (c - (a + 6))] W fun e w' => ∃ v, e = .returned v ∧ w'.ownsRow W.heap.size 5 1 v N (u8s (((l.drop a).drop 6).take N)) ∧ Below W.heap.size W w' :=
          fun W hW hr => clone_any _ _ _ _ _ W (by omega) hW hr
        have := get_good b o n c a N _ l _ w hn hc hm hN1 (by omega) _ (((l.drop a).drop 6).take N) (Lib.hid HP) (Lib.hid F) (Lib.hid HS) (Lib.hid HC) (Lib.hid h) (Lib.hid hP) (Lib.hid (by rw [List.drop_drop]; exact hBd)) hK hB
        simp only [hlen]
        exact this
  · obtain ⟨e, _, _, he, hpl, hg⟩ := plF_bad hp
    rw [hg]
    have := place_any A n c w.heap.size at_ l (w.alloc (.cells #[.int .u8 0, .slice none 0 0] 132)) hc hn hm (h.alloc (Nat.le_refl _) _)
    rw [hpl] at this
    exact get_bad A n c at_ e w he (Lib.hid this)
end Go.Proofs.Ytfghbhjljbdlmaa
