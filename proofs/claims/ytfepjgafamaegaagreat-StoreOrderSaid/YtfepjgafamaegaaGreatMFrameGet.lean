/- Of the proofs of layer 4, merged: FrameGet, Seek, Scan, Same2. -/
import Derived.Test.YtfepjgafamaegaaGreatMConcat
import Derived.Handy
import Derived.Deep.RegionHeld3
import Derived.Test.YtfepjgafamaegaaGreatMLent
import Derived.Deep.QuietTactic

/- frame.Get answers the plain frame at a place. -/
namespace Go.Proofs.YtfepjgafamaegaaGreat
open Go.RowKit

set_option maxRecDepth 100000 in
set_option maxHeartbeats 400000 in
theorem get_bad (A : Option Addr) (n c : Nat) (at_ e : Int) (w : World) (he : e ≠ 0)
    (HF : Hid (Calls Tryz.prog 153 #[.slice A n c, .int .i64 at_] (w.alloc (.cells #[.int .u8 0, .slice none 0 0] 167)) fun x w' => x = .returned (.tuple #[.int .i64 0, .int .i64 0, .int .i64 e]) ∧ w.alloc (.cells #[.int .u8 0, .slice none 0 0] 167) = w')) :
    Calls Tryz.prog 125 #[.slice A n c, .int .i64 at_] w fun x w' =>
      ∃ v, x = .returned (.tuple #[.agg #[.int .u8 0, v], .int .i64 0, .int .i64 e]) ∧ w'.ownsRow w.heap.size 5 1 v 0 [] ∧ Below w.heap.size w w' := by
  have hne : (e != 0) = true := by simp; exact he
  go_enter Tryz.func125, Tryz.ntmps125
  go_wp2_with fail
  refine HF.out.mono ?_
  rintro x w' ⟨rfl, rfl⟩
  go_wp2
  go_returns
  exact ⟨_, rfl, World.ownsRow_nil _ _ _ _, (Below.refl _ _).alloc (Nat.le_refl _) _⟩

/-- Where the body lies well. -/
theorem plF_good {l : List UInt8} {a : Int} (h : (plF l a).2.2 = 0) : ∃ k N : Nat, a = k ∧ N ≤ 1024 ∧ k + (6 + N) ≤ l.length ∧ (l.drop k).getD 0 0 = 167 ∧ N = be (((l.drop k).drop 2).take 4) ∧ plF l a = ((k : Int) + 6, (k : Int) + 6 + (N : Int), 0) ∧
    getF (l.drop k) = (if l.length - k < 10 + N then .error 10 else if be (((l.drop k).drop (6 + N)).take 4) ≠ crcSum ((l.drop k).take (6 + N)) then .error 21 else .ok (((l.drop k).getD 1 0, ((l.drop k).drop 6).take N), 10 + N)) := by
  unfold plF at h ⊢
  by_cases h1 : a < 0 ∨ (l.length : Int) < a
  · rw [if_pos h1] at h; simp at h
  rw [if_neg h1] at h ⊢
  obtain ⟨k, rfl⟩ := Int.eq_ofNat_of_zero_le (show 0 ≤ a by omega)
  rw [Int.toNat_natCast] at h ⊢
  have hdl : (l.drop k).length = l.length - k := List.length_drop ..
  unfold getF
  rw [hdl] at h ⊢
  by_cases h2 : l.length - k = 0
  · rw [if_pos h2] at h; simp at h
  rw [if_neg h2] at h ⊢
  by_cases h3 : (l.drop k).getD 0 0 ≠ 167
  · rw [if_pos h3] at h; simp at h
  rw [if_neg h3] at h ⊢
  by_cases h4 : l.length - k < 6
  · rw [if_pos h4] at h; simp at h
  rw [if_neg h4] at h ⊢
  by_cases h5 : 1024 < be (((l.drop k).drop 2).take 4)
  · rw [if_pos h5] at h; simp at h
  rw [if_neg h5] at h ⊢
  by_cases h6 : l.length - k < 6 + be (((l.drop k).drop 2).take 4)
  · rw [if_pos h6] at h; simp at h
  rw [if_neg h6]
  refine ⟨k, be (((l.drop k).drop 2).take 4), rfl, by omega, by omega, by simpa using h3, rfl, rfl, ?_⟩
  rw [hdl, if_neg h2, if_neg h3, if_neg h4, if_neg h5]
theorem plF_bad {l : List UInt8} {a : Int} (h : (plF l a).2.2 ≠ 0) : ∃ e : Int, 0 ≤ e ∧ e ≤ 100 ∧ e ≠ 0 ∧ plF l a = (0, 0, e) ∧ getA l a = (0, [], 0, e) := by
  unfold plF at h ⊢
  unfold getA
  by_cases h1 : a < 0 ∨ (l.length : Int) < a
  · rw [if_pos h1, if_pos h1]; exact ⟨2, by decide, by decide, by decide, rfl, rfl⟩
  rw [if_neg h1] at h ⊢
  rw [if_neg h1]
  unfold getF
  by_cases h2 : (l.drop a.toNat).length = 0
  · rw [if_pos h2, if_pos h2]; exact ⟨10, by decide, by decide, by decide, rfl, rfl⟩
  rw [if_neg h2] at h ⊢
  rw [if_neg h2]
  by_cases h3 : (l.drop a.toNat).getD 0 0 ≠ 167
  · rw [if_pos h3, if_pos h3]; exact ⟨20, by decide, by decide, by decide, rfl, rfl⟩
  rw [if_neg h3] at h ⊢
  rw [if_neg h3]
  by_cases h4 : (l.drop a.toNat).length < 6
  · rw [if_pos h4, if_pos h4]; exact ⟨10, by decide, by decide, by decide, rfl, rfl⟩
  rw [if_neg h4] at h ⊢
  rw [if_neg h4]
  by_cases h5 : 1024 < be (((l.drop a.toNat).drop 2).take 4)
  · rw [if_pos h5, if_pos h5]; exact ⟨3, by decide, by decide, by decide, rfl, rfl⟩
  rw [if_neg h5] at h ⊢
  rw [if_neg h5]
  by_cases h6 : (l.drop a.toNat).length < 6 + be (((l.drop a.toNat).drop 2).take 4)
  · rw [if_pos h6, if_pos (by omega)]; exact ⟨10, by decide, by decide, by decide, rfl, rfl⟩
  rw [if_neg h6] at h
  simp at h

section
variable (b o n c a N S S' : Nat) (l p : List UInt8) (w : World) (hn : n ≤ 140737488355328) (hc : n ≤ c) (hm : c ≤ 9223372036854775807) (hN : N ≤ 1024)
set_option maxHeartbeats 400000 in
set_option maxRecDepth 100000 in
theorem get_short
    (HP : Hid (∀ W, Rd W w.heap.size (some ⟨b, o, none⟩) n l → Calls Tryz.prog 153 #[.slice (some ⟨b, o, none⟩) n c, .int .i64 (a : Int)] W fun e w' => e = .returned (.tuple #[.int .i64 ((a : Int) + 6), .int .i64 ((a : Int) + 6 + (N : Int)), .int .i64 0]) ∧ W = w'))
    (HF : Hid (∀ W, Rd W w.heap.size (some ⟨b, o, none⟩) n l → Calls Tryz.prog 154 #[.slice (some ⟨b, o, none⟩) n c, .int .i64 ((a : Int) + 6 + (N : Int))] W fun e w' => e = .returned (.tuple #[.int .u32 0, .int .i64 0, .int .i64 10]) ∧ W = w'))
    (HR : Hid (Rd w w.heap.size (some ⟨b, o, none⟩) n l)) :
    Calls Tryz.prog 125 #[.slice (some ⟨b, o, none⟩) n c, .int .i64 (a : Int)] w fun x w' =>
      ∃ v, x = .returned (.tuple #[.agg #[.int .u8 0, v], .int .i64 0, .int .i64 10]) ∧ w'.ownsRow w.heap.size 5 1 v 0 [] ∧ Below w.heap.size w w' := by
  go_enter Tryz.func125, Tryz.ntmps125
  go_wp2_with fail
  refine (HP.out _ (HR.out.alloc (Nat.le_refl _) _)).mono ?_
  rintro x w' ⟨rfl, rfl⟩
  go_wp2_with fail
  refine (HF.out _ (HR.out.alloc (Nat.le_refl _) _)).mono ?_
  rintro x w' ⟨rfl, rfl⟩
  go_wp2
  go_returns
  exact ⟨_, rfl, World.ownsRow_nil _ _ _ _, (Below.refl _ _).alloc (Nat.le_refl _) _⟩

set_option maxHeartbeats 400000 in
set_option maxRecDepth 100000 in
include hc hN in
theorem get_sum (ha : a + (10 + N) ≤ n)
    (HP : Hid (∀ W, Rd W w.heap.size (some ⟨b, o, none⟩) n l → Calls Tryz.prog 153 #[.slice (some ⟨b, o, none⟩) n c, .int .i64 (a : Int)] W fun e w' => e = .returned (.tuple #[.int .i64 ((a : Int) + 6), .int .i64 ((a : Int) + 6 + (N : Int)), .int .i64 0]) ∧ W = w'))
    (HF : Hid (∀ W, Rd W w.heap.size (some ⟨b, o, none⟩) n l → Calls Tryz.prog 154 #[.slice (some ⟨b, o, none⟩) n c, .int .i64 ((a : Int) + 6 + (N : Int))] W fun e w' => e = .returned (.tuple #[.int .u32 (S' : Int), .int .i64 ((a : Int) + (10 + (N : Int))), .int .i64 0]) ∧ W = w'))
    (HS : Hid (∀ W g, g = W.heap.size → w.heap.size ≤ W.heap.size → Rd W w.heap.size (some ⟨b, o + a, none⟩) (6 + N) p → Calls Tryz.prog 155 #[.slice (some ⟨g, 0, none⟩) 1 1] (W.alloc (.cells #[.slice (some ⟨b, o + a, none⟩) (6 + N) (c - a)] 23)) fun e w' => e = .returned (.int .u32 (S : Int)) ∧ W.alloc (.cells #[.slice (some ⟨b, o + a, none⟩) (6 + N) (c - a)] 23) = w'))
    (HR : Hid (Rd w w.heap.size (some ⟨b, o, none⟩) n l)) (HQ : Hid (Rd w w.heap.size (some ⟨b, o + a, none⟩) (6 + N) p)) (hS : S' ≠ S) :
    Calls Tryz.prog 125 #[.slice (some ⟨b, o, none⟩) n c, .int .i64 (a : Int)] w fun x w' =>
      ∃ v, x = .returned (.tuple #[.agg #[.int .u8 0, v], .int .i64 0, .int .i64 21]) ∧ w'.ownsRow w.heap.size 5 1 v 0 [] ∧ Below w.heap.size w w' := by
  go_enter Tryz.func125, Tryz.ntmps125
  go_wp2_with fail
  refine (HP.out _ (HR.out.alloc (Nat.le_refl _) _)).mono ?_
  rintro x w' ⟨rfl, rfl⟩
  go_wp2_with fail
  refine (HF.out _ (HR.out.alloc (Nat.le_refl _) _)).mono ?_
  rintro x w' ⟨rfl, rfl⟩
  have hE : ((a : Int) + 6 + (N : Int)) = ((a + 6 + N : Nat) : Int) := by omega
  have hE2 : a + (6 + N) = a + 6 + N := by omega
  rw [hE]
  generalize hEE : a + 6 + N = E
  go_wp2_with fail
  rw [show E - a = 6 + N by omega]
  refine (HS.out _ _ (by simp) (by simp) (HQ.out.alloc (Nat.le_refl _) _)).mono ?_
  rintro x w' ⟨rfl, rfl⟩
  have hS3 : ((S' : Int) != (S : Int)) = true := by simp; omega
  clear HP HF HS HR HQ
  go_wp2
  go_returns
  exact ⟨_, rfl, World.ownsRow_nil _ _ _ _, ((Below.refl _ _).alloc (Nat.le_refl _) _).alloc (by simp) _⟩

set_option maxHeartbeats 400000 in
set_option maxRecDepth 100000 in
include hn hc hm hN in
theorem get_good (ha : a + (10 + N) ≤ n) (K : UInt8) (body : List UInt8)
    (HP : Hid (∀ W, Rd W w.heap.size (some ⟨b, o, none⟩) n l → Calls Tryz.prog 153 #[.slice (some ⟨b, o, none⟩) n c, .int .i64 (a : Int)] W fun e w' => e = .returned (.tuple #[.int .i64 ((a : Int) + 6), .int .i64 ((a : Int) + 6 + (N : Int)), .int .i64 0]) ∧ W = w'))
    (HF : Hid (∀ W, Rd W w.heap.size (some ⟨b, o, none⟩) n l → Calls Tryz.prog 154 #[.slice (some ⟨b, o, none⟩) n c, .int .i64 ((a : Int) + 6 + (N : Int))] W fun e w' => e = .returned (.tuple #[.int .u32 (S : Int), .int .i64 ((a : Int) + (10 + (N : Int))), .int .i64 0]) ∧ W = w'))
    (HS : Hid (∀ W g, g = W.heap.size → w.heap.size ≤ W.heap.size → Rd W w.heap.size (some ⟨b, o + a, none⟩) (6 + N) p → Calls Tryz.prog 155 #[.slice (some ⟨g, 0, none⟩) 1 1] (W.alloc (.cells #[.slice (some ⟨b, o + a, none⟩) (6 + N) (c - a)] 23)) fun e w' => e = .returned (.int .u32 (S : Int)) ∧ W.alloc (.cells #[.slice (some ⟨b, o + a, none⟩) (6 + N) (c - a)] 23) = w'))
    (HC : Hid (∀ W, w.heap.size ≤ W.heap.size → Rd W w.heap.size (some ⟨b, o + (a + 6), none⟩) N body → Calls Tryz.prog 86 #[.slice (some ⟨b, o + (a + 6), none⟩) N (c - (a + 6))] W fun e w' => ∃ v, e = .returned v ∧ w'.ownsRow W.heap.size 5 1 v N (u8s body) ∧ Below W.heap.size W w'))
    (HR : Hid (Rd w w.heap.size (some ⟨b, o, none⟩) n l)) (HQ : Hid (Rd w w.heap.size (some ⟨b, o + a, none⟩) (6 + N) p)) (HB : Hid (Rd w w.heap.size (some ⟨b, o + (a + 6), none⟩) N body))
    (hK : w.cell? ⟨b, o + (a + 1), none⟩ = some (.int .u8 (K.toNat : Int))) (hB : b < w.heap.size) :
    Calls Tryz.prog 125 #[.slice (some ⟨b, o, none⟩) n c, .int .i64 (a : Int)] w fun x w' =>
      ∃ v, x = .returned (.tuple #[.agg #[.int .u8 (K.toNat : Int), v], .int .i64 ((a : Int) + (10 + (N : Int))), .int .i64 0]) ∧ w'.ownsRow w.heap.size 5 1 v N (u8s body) ∧ Below w.heap.size w w' := by
  go_enter Tryz.func125, Tryz.ntmps125
  go_wp2_with fail
  refine (HP.out _ (HR.out.alloc (Nat.le_refl _) _)).mono ?_
  rintro x w' ⟨rfl, rfl⟩
  go_wp2_with fail
  refine (HF.out _ (HR.out.alloc (Nat.le_refl _) _)).mono ?_
  rintro x w' ⟨rfl, rfl⟩
  have hE : ((a : Int) + 6 + (N : Int)) = ((a + 6 + N : Nat) : Int) := by omega
  have hE2 : a + (6 + N) = a + 6 + N := by omega
  rw [hE]
  generalize hEE : a + 6 + N = E
  go_wp2_with fail
  rw [show E - a = 6 + N by omega]
  refine (HS.out _ _ (by simp) (by simp) (HQ.out.alloc (Nat.le_refl _) _)).mono ?_
  rintro x w' ⟨rfl, rfl⟩
  clear HP HF HS HR HQ
  have hk0 : ((w.alloc (.cells #[.int .u8 0, .slice none 0 0] 167)).alloc (.cells #[.slice (some ⟨b, o + a, none⟩) (6 + N) (c - a)] 23)).cell? ⟨b, o + (a + 1), none⟩ = some (.int .u8 (K.toNat : Int)) := by
    rw [(((Below.refl _ _).alloc (Nat.le_refl _) _).alloc (by simp) _ : Below w.heap.size w _).cell (by exact hB)]; exact hK
  have hbk0 : Bk ((w.alloc (.cells #[.int .u8 0, .slice none 0 0] 167)).alloc (.cells #[.slice (some ⟨b, o + a, none⟩) (6 + N) (c - a)] 23)) w.heap.size 167 #[.int .u8 0, .slice none 0 0] := (Bk.new _ _ _).below ((Below.refl _ _).alloc (Nat.le_refl _) _) (by simp)
  have HW : Hid (∀ q, w.heap.size + 1 ≤ (((w.alloc (.cells #[.int .u8 0, .slice none 0 0] 167)).alloc (.cells #[.slice (some ⟨b, o + a, none⟩) (6 + N) (c - a)] 23)).drewN q).heap.size) := Lib.hid (fun q => by simp [World.drewN])
  have HB2 : Hid (∀ q, Rd (((w.alloc (.cells #[.int .u8 0, .slice none 0 0] 167)).alloc (.cells #[.slice (some ⟨b, o + a, none⟩) (6 + N) (c - a)] 23)).drewN q) w.heap.size (some ⟨b, o + (a + 6), none⟩) N body) := Lib.hid (fun q => ((HB.out.alloc (Nat.le_refl _) _).alloc (by simp) _).drewN q)
  have Hbelow : Hid (∀ q w2, Below (((w.alloc (.cells #[.int .u8 0, .slice none 0 0] 167)).alloc (.cells #[.slice (some ⟨b, o + a, none⟩) (6 + N) (c - a)] 23)).drewN q).heap.size (((w.alloc (.cells #[.int .u8 0, .slice none 0 0] 167)).alloc (.cells #[.slice (some ⟨b, o + a, none⟩) (6 + N) (c - a)] 23)).drewN q) w2 → Below w.heap.size w w2 ∧ Bk w2 w.heap.size 167 #[.int .u8 0, .slice none 0 0]) := Lib.hid (fun q w2 hb => ⟨(bel_drewN (((Below.refl _ _).alloc (Nat.le_refl _) _).alloc (by simp) _) q).trans (hb.mono (Nat.le_of_succ_le (HW.out q))), Bk.below (w := ((w.alloc (.cells #[.int .u8 0, .slice none 0 0] 167)).alloc (.cells #[.slice (some ⟨b, o + a, none⟩) (6 + N) (c - a)] 23)).drewN q) hbk0 hb (by simp [World.drewN]; omega)⟩)
  have g1 : (0 : Int) ≤ (a : Int) + 1 := by omega
  have g2 : (a : Int) + 1 < (n : Int) := by omega
  have g3 : IntKind.i64.wrap ((a : Int) + 1) = (a : Int) + 1 := by rw [IntKind.wrap_i64]; omega
  have g4 : ((a : Int) + 1).toNat = a + 1 := by omega
  have g5 : (0 : Int) ≤ (a : Int) + 6 := by omega
  have g6 : (a : Int) + 6 ≤ (E : Int) := by omega
  have g7 : (E : Int) ≤ (c : Int) := by omega
  have g8 : ((a : Int) + 6).toNat = a + 6 := by omega
  have g9 : ¬ c = a + 6 := by omega
  have g10 : ¬ c - (a + 6) = 0 := by omega
  have g11 : ¬ ((n : Int) ≤ (a : Int) + 1) := by omega
  have g12 : a + 1 < n := by omega
  have g13 : a + 6 ≤ E := by omega
  have g14 : E ≤ c := by omega
  go_wp2_with fail
  go_region_held3 (fun w' => w'.cell? ⟨b, o + (a + 1), none⟩ = some (.int .u8 (K.toNat : Int))) (first | exact hk0 | exact k0 | exact k3 | go_keep)
    (first | (go_at_call 86; rw [show E - (a + 6) = N by omega]; refine (HC.out _ (Nat.le_of_succ_le (HW.out 1)) (HB2.out 1)).mono ?_; rintro x w2 ⟨v, rfl, hown, hbel⟩; obtain ⟨Av, cv, rfl, _⟩ := own_shape hown; obtain ⟨hb2, hbk2⟩ := Hbelow.out 1 w2 hbel; have Ho := Lib.hid (own_mono hown (HW.out 1)); have Hb := Lib.hid hb2; have k0 : w2.cell? ⟨b, o + (a + 1), none⟩ = some (.int .u8 (K.toNat : Int)) := (hb2.cell (by exact hB)).trans hK; have k3 : ((w2.setCell ⟨w.heap.size, 0, none⟩ (.int .u8 (K.toNat : Int))).setCell ⟨w.heap.size, 1, none⟩ (.slice Av N cv)).cell? ⟨b, o + (a + 1), none⟩ = some (.int .u8 (K.toNat : Int)) := (((hb2.setCell (Nat.le_refl _) _).setCell (Nat.le_refl _) _).cell (by exact hB)).trans hK; have f0 := hbk2.frozen 0; have f1 := hbk2.frozen 1; have d0 := hbk2.cell 0; have d1 := hbk2.cell 1; simp only [List.getElem?_toArray, List.getElem?_cons_zero, List.getElem?_cons_succ] at d0 d1; clear hown hbel hb2))
  have hs0 := hbk2.set_ 0 (.int .u8 (K.toNat : Int))
  have e0 : (w2.setCell ⟨w.heap.size, 0, none⟩ (.int .u8 (K.toNat : Int))).cell? ⟨w.heap.size, 0, none⟩ = some (.int .u8 (K.toNat : Int)) := by rw [hs0.cell]; rfl
  have e1 : ((w2.setCell ⟨w.heap.size, 0, none⟩ (.int .u8 (K.toNat : Int))).setCell ⟨w.heap.size, 1, none⟩ (.slice Av N cv)).cell? ⟨w.heap.size, 1, none⟩ = some (.slice Av N cv) := by rw [(hs0.set_ 1 _).cell]; rfl
  go_wp2
  refine bodyPost_ret (by simp [results, Tryz.results125, go_sem, e0, e1]; try rfl) rfl ?_
  refine ⟨_, rfl, ?_, (Hb.out.setCell (Nat.le_refl _) _).setCell (Nat.le_refl _) _⟩
  exact own_mono (own_grown (own_grown Ho.out (grown_set _ _ _ _) (by omega)) (grown_set _ _ _ _) (by omega)) (by omega)
end

set_option maxRecDepth 100000 in
theorem frameGet_any (A : Option Addr) (n c : Nat) (at_ : Int) (l : List UInt8) (w : World) (hc : n ≤ c) (hn : n ≤ 140737488355328) (hm : c ≤ 9223372036854775807) (h : Rd w w.heap.size A n l) :
    Calls Tryz.prog 125 #[.slice A n c, .int .i64 at_] w fun e w' =>
      ∃ v, e = .returned (.tuple #[.agg #[.int .u8 ((getA l at_).1.toNat : Int), v], .int .i64 (getA l at_).2.2.1, .int .i64 (getA l at_).2.2.2]) ∧ w'.ownsRow w.heap.size 5 1 v (getA l at_).2.1.length (u8s (getA l at_).2.1) ∧ Below w.heap.size w w' := by
  by_cases hp : (plF l at_).2.2 = 0
  · obtain ⟨a, N, rfl, hN1, hN2, h0, hN, hpl, hg⟩ := plF_good hp
    have hl := h.1
    rw [hl] at hN2 hg
    obtain ⟨b, o, rfl, hB, hcell⟩ := h.2 (by omega)
    have hK := hcell (a + 1) (by omega)
    have hx1 : (l.drop a).getD 1 0 = l[a + 1]'(by omega) := by simp [List.getD, List.getElem?_eq_getElem (show a + 1 < l.length by omega)]
    rw [← hx1] at hK
    have hP := h.part (i := a) (k := 6 + N) (by omega)
    have hBd := h.part (i := a + 6) (k := N) (by omega)
    have HP : ∀ W, Rd W w.heap.size (some ⟨b, o, none⟩) n l → Calls Tryz.prog 153 #[.slice (some ⟨b, o, none⟩) n c, .int .i64 (a : Int)] W fun e w' => e = .returned (.tuple #[.int .i64 ((a : Int) + 6), .int .i64 ((a : Int) + 6 + (N : Int)), .int .i64 0]) ∧ W = w' := by
      intro W hW
      have := place_any (some ⟨b, o, none⟩) n c w.heap.size (a : Int) l W hc hn hm hW
      rwa [hpl] at this
    have F : ∀ W, Rd W w.heap.size (some ⟨b, o, none⟩) n l → Calls Tryz.prog 154 #[.slice (some ⟨b, o, none⟩) n c, .int .i64 ((a : Int) + 6 + (N : Int))] W fun e w' => e = .returned (.tuple #[.int .u32 (fixAt l ((a : Int) + 6 + (N : Int))).1, .int .i64 (fixAt l ((a : Int) + 6 + (N : Int))).2.1, .int .i64 (fixAt l ((a : Int) + 6 + (N : Int))).2.2]) ∧ W = w' :=
      fun W hW => binFixed_any (some ⟨b, o, none⟩) n c w.heap.size ((a : Int) + 6 + (N : Int)) l W hc hm hW
    unfold getA
    rw [if_neg (by omega), Int.toNat_natCast, hg]
    by_cases hs : n - a < 10 + N
    · have e : fixAt l ((a : Int) + 6 + (N : Int)) = (0, 0, 10) := by
        unfold fixAt
        rw [if_neg (by omega), if_pos (by omega)]
      rw [e] at F
      rw [if_pos hs]
      exact get_short b o n c a N l w (Lib.hid HP) (Lib.hid F) (Lib.hid h)
    · have e : fixAt l ((a : Int) + 6 + (N : Int)) = (((be (((l.drop a).drop (6 + N)).take 4) : Nat) : Int), (a : Int) + (10 + (N : Int)), 0) := by
        unfold fixAt
        rw [if_neg (by omega), if_neg (by omega), show ((a : Int) + 6 + (N : Int)).toNat = a + (6 + N) by omega, List.drop_drop]
        exact Prod.ext rfl (Prod.ext (by show (a : Int) + 6 + (N : Int) + 4 = (a : Int) + (10 + (N : Int)); omega) rfl)
      rw [e] at F
      rw [if_neg hs]
      have HS : ∀ W g, g = W.heap.size → w.heap.size ≤ W.heap.size → Rd W w.heap.size (some ⟨b, o + a, none⟩) (6 + N) ((l.drop a).take (6 + N)) → Calls Tryz.prog 155 #[.slice (some ⟨g, 0, none⟩) 1 1] (W.alloc (.cells #[.slice (some ⟨b, o + a, none⟩) (6 + N) (c - a)] 23)) fun e w' => e = .returned (.int .u32 (crcSum ((l.drop a).take (6 + N)) : Int)) ∧ W.alloc (.cells #[.slice (some ⟨b, o + a, none⟩) (6 + N) (c - a)] 23) = w' := by
        rintro W g rfl hW hr
        have := sum_any (some ⟨W.heap.size, 0, none⟩) 1 1 (W.heap.size + 1) [(l.drop a).take (6 + N)] (W.alloc (.cells #[.slice (some ⟨b, o + a, none⟩) (6 + N) (c - a)] 23)) (by decide) (Parts.lit [(some ⟨b, o + a, none⟩, 6 + N, c - a)] _ rfl rfl rfl rfl (by
          intro i h1 h2
          match i, h1, h2 with
          | 0, _, _ => exact ⟨show 6 + N ≤ c - a by omega, show c - a ≤ _ by omega, hr.more hW⟩))
        simpa using this
      by_cases hs2 : be (((l.drop a).drop (6 + N)).take 4) ≠ crcSum ((l.drop a).take (6 + N))
      · rw [if_pos hs2]
        exact get_sum b o n c a N _ _ l _ w hc hN1 (by omega) (Lib.hid HP) (Lib.hid F) (Lib.hid HS) (Lib.hid h) (Lib.hid hP) hs2
      · rw [if_neg hs2]
        have hs' : be (((l.drop a).drop (6 + N)).take 4) = crcSum ((l.drop a).take (6 + N)) := by simpa using hs2
        rw [hs'] at F
        have hlen : (((l.drop a).drop 6).take N).length = N := by rw [List.length_take, List.length_drop, List.length_drop]; omega
        have HC : ∀ W, w.heap.size ≤ W.heap.size → Rd W w.heap.size (some ⟨b, o + (a + 6), none⟩) N (((l.drop a).drop 6).take N) → Calls Tryz.prog 86 #[.slice (some ⟨b, o + (a + 6), none⟩) N (c - (a + 6))] W fun e w' => ∃ v, e = .returned v ∧ w'.ownsRow W.heap.size 5 1 v N (u8s (((l.drop a).drop 6).take N)) ∧ Below W.heap.size W w' :=
          fun W hW hr => clone_any _ _ _ _ _ W (by omega) hW hr
        have := get_good b o n c a N _ l _ w hn hc hm hN1 (by omega) _ (((l.drop a).drop 6).take N) (Lib.hid HP) (Lib.hid F) (Lib.hid HS) (Lib.hid HC) (Lib.hid h) (Lib.hid hP) (Lib.hid (by rw [List.drop_drop]; exact hBd)) hK hB
        simp only [hlen]
        exact this
  · obtain ⟨e, _, _, he, hpl, hg⟩ := plF_bad hp
    rw [hg]
    have := place_any A n c w.heap.size at_ l (w.alloc (.cells #[.int .u8 0, .slice none 0 0] 167)) hc hn hm (h.alloc (Nat.le_refl _) _)
    rw [hpl] at this
    exact get_bad A n c at_ e w he (Lib.hid this)
end Go.Proofs.YtfepjgafamaegaaGreat

/- The next place of a frame: the program's and the document's. -/
namespace Go.Proofs.YtfepjgafamaegaaGreat
open Go.RowKit

theorem getF_err {l : List UInt8} {e : Nat} (h : getF l = .error e) : 0 < e ∧ e ≤ 100 := by
  unfold getF at h
  repeat' split at h
  all_goals first | (injection h with h; omega) | cases h
theorem getA_err {l : List UInt8} {k e : Nat} (hk : k ≤ l.length) (h : getF (l.drop k) = .error e) : getA l (k : Int) = (0, [], 0, (e : Int)) := by
  unfold getA
  rw [if_neg (by omega), Int.toNat_natCast, h]
theorem getA_ok {l : List UInt8} {k m : Nat} {f : Fr} (hk : k ≤ l.length) (h : getF (l.drop k) = .ok (f, m)) : getA l (k : Int) = (f.1, f.2, ((k + m : Nat) : Int), 0) := by
  unfold getA
  rw [if_neg (by omega), Int.toNat_natCast, h]
  simp

end Go.Proofs.YtfepjgafamaegaaGreat

/- The frames of any bytes, one behind the other: the program's and the document's. -/
namespace Go.Proofs.YtfepjgafamaegaaGreat
open Go.RowKit

def frCells (fs : List Fr) (vals : List Value) : List Value := (List.zipWith (fun (f : Fr) v => [Value.int .u8 (f.1.toNat : Int), v]) fs vals).flatten
theorem frCells_push (fs : List Fr) (vals : List Value) (f : Fr) (v : Value) (h : fs.length = vals.length) : frCells (fs ++ [f]) (vals ++ [v]) = frCells fs vals ++ [.int .u8 (f.1.toNat : Int), v] := by
  unfold frCells
  rw [List.zipWith_append h, List.flatten_append]
  rfl
/-- A row of frames, each body its own. -/
structure Frames (w : World) (base : Nat) (v : Value) (vals : List Value) (fs : List Fr) : Prop where
  row : w.ownsRow base 167 2 v fs.length (frCells fs vals)
  fam : Fam w base vals (fs.map (·.2))

theorem Frames.nil (w : World) (base : Nat) : Frames w base (.slice none 0 0) [] [] := ⟨World.ownsRow_nil _ _ _ _, Fam.nil _ _⟩
theorem Frames.len {w : World} {base : Nat} {v : Value} {vals : List Value} {fs : List Fr} (h : Frames w base v vals fs) : vals.length = fs.length := by simpa using h.fam.len
theorem Frames.up {w w' : World} {base : Nat} {v : Value} {vals : List Value} {fs : List Fr} (h : Frames w base v vals fs) (hb : Below w.heap.size w w') : Frames w' base v vals fs :=
  ⟨own_below h.row hb fun k hk => (h.row.lt k hk).2, h.fam.up hb⟩
theorem Frames.push {w w1 w2 w3 : World} {base : Nat} {v v' x : Value} {vals : List Value} {fs : List Fr} {f : Fr} (h : Frames w base v vals fs) (hb : Below w.heap.size w w1) (hx : w1.ownsRow w.heap.size 5 1 x f.2.length (u8s f.2)) (hbase : base ≤ w.heap.size) (hb2 : Below w1.heap.size w1 w2)
    (ha : App w2 w3 base 167 2 v v' fs.length 1 (frCells fs vals) [.int .u8 (f.1.toNat : Int), x]) : Frames w3 base v' (vals ++ [x]) (fs ++ [f]) := by
  have hf : Fam w2 base (vals ++ [x]) ((fs ++ [f]).map (·.2)) := by rw [List.map_append]; exact (h.fam.push hb hx hbase).up hb2
  refine ⟨?_, hf.grown ha.grow fun i u hu => ?_⟩
  · rw [frCells_push _ _ _ _ h.len.symm, List.length_append]
    exact ha.own
  · exact own_types_ne (hf.each i u hu) ((h.up hb).up hb2).row (by decide)

/-- A block's cells, as append asks for them. -/
theorem Bk.cells {w : World} {g : Nat} {t : TypeId} {cs : Array Value} (h : Bk w g t cs) {l : List Value} (hl : cs = l.toArray) : ∀ a, (some ⟨g, 0, none⟩ : Option Addr) = some a → ∀ j u, l[j]? = some u → w.cell? (a.add j) = some u := by
  intro a e j u hu
  obtain rfl := Option.some.inj e
  rw [Addr.add_lit, Nat.zero_add, h.cell, hl]
  simpa using hu
theorem Tryz.infoFrame : (Tryz.prog.info? 167).map (fun i => (i.zero, i.size, i.bytes)) = some (some (.agg #[.int .u8 0, .slice none 0 0]), 2, 32) := by kernel_rfl

set_option maxRecDepth 100000 in
set_option maxHeartbeats 1000000 in
theorem frameScan_any (A : Option Addr) (n c : Nat) (l : List UInt8) (w : World) (hc : n ≤ c) (hn : n ≤ 1099511627776) (hm : c ≤ 9223372036854775807) (h : Rd w w.heap.size A n l) :
    Calls Tryz.prog 93 #[.slice A n c] w fun e w' => ∃ v vals, e = .returned (.tuple #[v, .int .i64 ((scanF l).2 : Nat)]) ∧ Frames w' w.heap.size v vals (scanF l).1 ∧ Below w.heap.size w w' := by
  obtain ⟨i0, hi0, hz0, hz1, hz2⟩ := info_parts Tryz.infoFrame
  have HL := Lib.hid h.1
  have H := Lib.hid h
  have HG : Hid (∀ W k, Below w.heap.size w W → Calls Tryz.prog 125 #[.slice A n c, .int .i64 (k : Nat)] W fun e w' =>
      ∃ v, e = .returned (.tuple #[.agg #[.int .u8 ((getA l k).1.toNat : Int), v], .int .i64 (getA l k).2.2.1, .int .i64 (getA l k).2.2.2]) ∧ w'.ownsRow W.heap.size 5 1 v (getA l k).2.1.length (u8s (getA l k).2.1) ∧ Below W.heap.size W w') :=
    Lib.hid fun W k hW => frameGet_any A n c k l W hc (by omega) hm ((h.below hW).more hW.size)
  clear h
  go_enter Tryz.func93, Tryz.ntmps93
  go_wp2
  go_loopg [4, 5] n (fun g v r wr => ∃ (vv : Value) (k : Nat) (vals : List Value) (fs : List Fr), v = vv ∧ r = .int .i64 k ∧ k + g = n ∧ Hid (scanF l = (fs ++ (scanF (l.drop k)).1, k + (scanF (l.drop k)).2)) ∧ 10 * fs.length ≤ k ∧ Hid (Frames wr w.heap.size vv vals fs) ∧ Hid (Below w.heap.size w wr))
  case atStart => exact ⟨_, 0, [], [], rfl, rfl, by omega, Lib.hid (by simp), by simp, Frames.nil _ _, Below.refl _ _⟩
  case round =>
    obtain ⟨vv, k, vals, fs, rfl, rfl, hk, Hs, hfs, Hf, Hb⟩ := hrel
    have hkn : k ≤ n := by omega
    obtain ⟨Af, cf, rfl, hcf⟩ := own_shape Hf.out.row
    cases hg : getF (l.drop k) with
    | error e =>
      have HC := Lib.hid (HG.out _ k Hb.out)
      rw [getA_err (by rw [HL.out]; omega) hg] at HC
      have he := getF_err hg
      have hne : ((e : Int) != 0) = true := by simp; omega
      have hnx := Hs.out
      rw [scanF_err hg] at hnx
      have Hn := Lib.hid hnx
      clear hg hnx
      go_wp2_with fail
      refine HC.out.mono ?_
      rintro x w2 ⟨v, rfl, ho, hb⟩
      obtain ⟨Av, cv, rfl, _⟩ := own_shape ho
      have Hf2 := Lib.hid (Hf.out.up hb)
      have Hb2 := Lib.hid (Hb.out.trans (hb.mono Hb.out.size))
      clear ho hb HC
      go_wp2
      go_ret2
      refine ⟨.slice Af fs.length cf, vals, ?_, ?_, Hb2.out.alloc Hb2.out.size _⟩
      · rw [Hn.out]; rfl
      · rw [Hn.out]
        simp only [List.append_nil]
        exact Hf2.out.up ((Below.refl _ _).alloc (Nat.le_refl _) _)
    | ok fk =>
      obtain ⟨f, m⟩ := fk
      have HC := Lib.hid (HG.out _ k Hb.out)
      rw [getA_ok (by rw [HL.out]; omega) hg] at HC
      have hnx := Hs.out
      rw [scanF_ok hg] at hnx
      have hfm := getF_le hg
      rw [List.length_drop, HL.out] at hfm
      have Hn := Lib.hid hnx
      clear hg hnx
      go_wp2_with fail
      refine HC.out.mono ?_
      rintro x w2 ⟨v, rfl, ho, hb⟩
      obtain ⟨Av, cv, rfl, _⟩ := own_shape ho
      have Ho := Lib.hid ho
      have HB := Lib.hid hb
      have Hf2 : Hid (Frames ((w2.alloc (.cells #[.int .u8 (f.1.toNat : Int), .slice Av f.2.length cv] 167)).alloc (.cells #[.int .u8 (f.1.toNat : Int), .slice Av f.2.length cv] 167)) w.heap.size _ vals fs) := Lib.hid ((Hf.out.up hb).up (((Below.refl _ _).alloc (Nat.le_refl _) _).alloc (by simp) _))
      have hsz : w.heap.size ≤ w2.heap.size := Nat.le_trans Hb.out.size hb.size
      have hbk : Bk ((w2.alloc (.cells #[.int .u8 (f.1.toNat : Int), .slice Av f.2.length cv] 167)).alloc (.cells #[.int .u8 (f.1.toNat : Int), .slice Av f.2.length cv] 167)) (w2.heap.size + 1) 167 #[.int .u8 (f.1.toNat : Int), .slice Av f.2.length cv] := by
        have := Bk.new (w2.alloc (.cells #[.int .u8 (f.1.toNat : Int), .slice Av f.2.length cv] 167)) 167 #[.int .u8 (f.1.toNat : Int), .slice Av f.2.length cv]
        simpa using this
      have HK := Lib.hid hbk
      clear ho hb HC hbk
      go_wp2_with (at_builtin; go_loud (refine wpList_append_app _ rfl _ _ 159 rfl w.heap.size 167 i0 (.agg #[.int .u8 0, .slice none 0 0]) 2 32 Tryz.underlying159 hi0 hz0 hz1 hz2 rfl _ _ _ rfl Hf2.out.row (some ⟨w2.heap.size + 1, 0, none⟩) 1 1 [.int .u8 (f.1.toNat : Int), .slice Av f.2.length cv] rfl rfl (by intro e; cases e) (Bk.cells HK.out rfl) (by intro u hu; simp at hu; rcases hu with rfl | rfl <;> rfl) (by unfold maxLen; omega) (by omega) (by simp; omega) ?_))
      intro v' w3 ha
      have Hf3 := Lib.hid (Frames.push (f := f) Hf.out HB.out Ho.out Hb.out.size (((Below.refl _ _).alloc (Nat.le_refl _) _).alloc (by simp) _) ha)
      have hb2 : Below w.heap.size w ((w2.alloc (.cells #[.int .u8 (f.1.toNat : Int), .slice Av f.2.length cv] 167)).alloc (.cells #[.int .u8 (f.1.toNat : Int), .slice Av f.2.length cv] 167)) := (((Hb.out.trans (HB.out.mono Hb.out.size)).alloc hsz _).alloc (by simp; omega) _)
      have Hb3 := Lib.hid (ha.below hb2 (by simp; omega) (own_block_ge Hf2.out.row))
      clear ha hb2 HK Hf2 Ho HB
      go_wp2
      go_roundg (gk - m)
      case measure => omega
      case rel => exact ⟨_, k + m, vals ++ [.slice Av f.2.length cv], fs ++ [f], rfl, by go_num, by omega, Lib.hid (by rw [Hn.out, List.drop_drop, List.append_assoc]; simp [Nat.add_assoc]), by rw [List.length_append]; simp; omega, Hf3, Hb3⟩
end Go.Proofs.YtfepjgafamaegaaGreat

/- Whether two rows of frames are the same: the document's own. -/
namespace Go.Proofs.YtfepjgafamaegaaGreat
open Go.RowKit

/-- A slice of frames reads as these. -/
def FrRd (w : World) (B : Nat) (A : Option Addr) (k : Nat) (fs : List Fr) : Prop :=
  fs.length = k ∧ ∀ i (h : i < fs.length), ∃ b o A' n' c', A = some ⟨b, o, none⟩ ∧ b < B ∧ w.cell? ⟨b, o + i * 2, none⟩ = some (.int .u8 (fs[i].1.toNat : Int)) ∧ w.cell? ⟨b, o + i * 2 + 1, none⟩ = some (.slice A' n' c') ∧ n' ≤ c' ∧ c' ≤ 9223372036854775807 ∧ Rd w B A' n' fs[i].2
theorem FrRd.below {w w' : World} {B k : Nat} {A : Option Addr} {fs : List Fr} (h : FrRd w B A k fs) (hb : Below B w w') : FrRd w' B A k fs :=
  ⟨h.1, fun i hi => by
    obtain ⟨b, o, A', n', c', e, hlt, hc, hc2, h1, h2, h3⟩ := h.2 i hi
    exact ⟨b, o, A', n', c', e, hlt, (hb.cell hlt).trans hc, (hb.cell hlt).trans hc2, h1, h2, h3.below hb⟩⟩
theorem FrRd.more {w : World} {B B' k : Nat} {A : Option Addr} {fs : List Fr} (h : FrRd w B A k fs) (hB : B ≤ B') : FrRd w B' A k fs :=
  ⟨h.1, fun i hi => by
    obtain ⟨b, o, A', n', c', e, hlt, hc, hc2, h1, h2, h3⟩ := h.2 i hi
    exact ⟨b, o, A', n', c', e, by omega, hc, hc2, h1, h2, h3.more hB⟩⟩

theorem takes_ne {fs gs : List Fr} {k : Nat} {f g : Fr} (h1 : fs.take (k + 1) = fs.take k ++ [f]) (h2 : gs.take (k + 1) = gs.take k ++ [g]) (h : f ≠ g) : (fs == gs) = false := by
  rw [beq_eq_false_iff_ne]
  intro e
  rw [e] at h1
  rw [h1] at h2
  exact h (by simpa using List.append_inj_right h2 rfl)

theorem frCells_at (fs : List Fr) (vals : List Value) (h : vals.length = fs.length) (i : Nat) (hi : i < fs.length) : (frCells fs vals)[i * 2]? = some (.int .u8 (fs[i].1.toNat : Int)) ∧ (frCells fs vals)[i * 2 + 1]? = some (vals[i]'(by omega)) := by
  induction fs generalizing vals i with
  | nil => simp at hi
  | cons f fs ih =>
    cases vals with
    | nil => simp at h
    | cons v vals =>
      cases i with
      | zero => exact ⟨rfl, rfl⟩
      | succ i =>
        have := ih vals (by simpa using h) i (by simpa using hi)
        show (_ :: _ :: frCells fs vals)[(i + 1) * 2]? = _ ∧ (_ :: _ :: frCells fs vals)[(i + 1) * 2 + 1]? = _
        rw [show (i + 1) * 2 = i * 2 + 1 + 1 by omega, show i * 2 + 1 + 1 + 1 = (i * 2 + 1) + 1 + 1 by omega]
        simpa using this

/-- What the call owns reads. -/
theorem Frames.rd {w : World} {base n c : Nat} {A : Option Addr} {vals : List Value} {fs : List Fr} (h : Frames w base (.slice A n c) vals fs) : FrRd w w.heap.size A n fs := by
  obtain ⟨A0, c0, hv, _⟩ := own_shape h.row
  injection hv with _ hn _
  subst hn
  refine ⟨rfl, fun i hi => ?_⟩
  obtain ⟨c1, c2⟩ := frCells_at fs vals h.len i hi
  have hvi : vals[i]? = some (vals[i]'(by rw [h.len]; exact hi)) := List.getElem?_eq_getElem _
  have ho := h.fam.each i _ hvi
  have hl : (fs.map (·.2)).getD i [] = fs[i].2 := by simp [List.getD, hi]
  rw [hl] at ho
  generalize vals[i]'(by rw [h.len]; exact hi) = x at *
  obtain ⟨Ax, cx, rfl, hx1, hx2⟩ := own_shape ho
  rcases h.row.2 with ⟨hv0, h0⟩ | ⟨g, cap, cur, hv0, hg, hh, _⟩
  · omega
  · have hA : A = some ⟨g, 0, none⟩ := by injection hv0
    subst hA
    have q1 := h.row.cells (g := g) rfl _ _ c1
    have q2 := h.row.cells (g := g) rfl _ _ c2
    rw [Addr.add_lit] at q1 q2
    refine ⟨g, 0, Ax, _, cx, rfl, (Array.getElem?_eq_some_iff.1 hh).1, q1, ?_, hx1, by unfold maxLen at hx2; omega, Rd.of_own ho⟩
    rw [Nat.add_assoc]; exact q2
end Go.Proofs.YtfepjgafamaegaaGreat
