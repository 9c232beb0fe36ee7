/- Of the proofs of layer 4, merged: SesE. -/
import Derived.Test.YtfghbhjljbdlmaaM1SesD

/- The program's Parse and Bytes, whole. -/
namespace Go.Proofs.Ytfghbhjljbdlmaa
open Go.RowKit Go.Maps

theorem getF_err_pos {l : List UInt8} {e : Nat} (hg : getF l = .error e) : e ≠ 0 := by
  intro e0
  unfold getF at hg
  repeat' (split at hg)
  all_goals first | (injection hg with hg; omega) | cases hg

set_option maxRecDepth 100000 in
set_option maxHeartbeats 1000000 in
theorem sparse_bad (A : Option Addr) (n c : Nat) (l : List UInt8) (E : Nat) (w : World) (hc : n ≤ c) (hn : n ≤ 140737488355328) (hm : c ≤ 9223372036854775807) (h : Rd w w.heap.size A n l)
    (hbad : (getF l = .error E) ∨ (∃ f k, getF l = .ok (f, k) ∧ E = 11 ∧ (k < l.length ∨ (k = l.length ∧ f.1 ≠ 3 ∧ f.1 ≠ 4)))) :
    Calls Try.prog 38 #[.slice A n c] w fun e w' => e = .returned (.tuple #[sgV Sg.zero (.slice none 0 0), .int .i64 (E : Int)]) ∧ Below w.heap.size w w' := by
  have hl := h.1
  obtain ⟨W0, hW0⟩ : ∃ W, W = w.alloc (.cells #[.int .u64 0, .int .u64 0, .bool false, .slice none 0 0] 60) := ⟨_, rfl⟩
  have hb0 : Below w.heap.size w W0 := by rw [hW0]; exact (Below.refl _ _).alloc (Nat.le_refl _) _
  have hk0 : Bk W0 w.heap.size 60 #[.int .u64 0, .int .u64 0, .bool false, .slice none 0 0] := by rw [hW0]; exact Bk.new w 60 _
  have HG0 := frameGet_any A n c 0 l W0 hc hn hm (h.up hb0)
  obtain ⟨K, hK⟩ : ∃ K : Int, K = (((getA l 0).1.toNat : Nat) : Int) := ⟨_, rfl⟩
  obtain ⟨N, hN⟩ : ∃ N, N = (getA l 0).2.1.length := ⟨_, rfl⟩
  obtain ⟨to_, hto⟩ : ∃ t : Int, t = (getA l 0).2.2.1 := ⟨_, rfl⟩
  obtain ⟨er, her⟩ : ∃ t : Int, t = (getA l 0).2.2.2 := ⟨_, rfl⟩
  have HG : Hid (Calls Try.prog 83 #[.slice A n c, .int .i64 0] W0 fun e w' => ∃ A3 c3, e = .returned (.tuple #[.agg #[.int .u8 K, .slice A3 N c3], .int .i64 to_, .int .i64 er]) ∧ Below W0.heap.size W0 w') := by
    refine Lib.hid (HG0.mono ?_)
    rintro e w' ⟨v, rfl, ho, hb⟩
    obtain ⟨A3, c3, rfl, _, _⟩ := own_shape ho
    exact ⟨A3, c3, by rw [hK, hN, hto, her], hb⟩
  have Hend : Hid (∀ W1 : World, Bk W1 w.heap.size 60 #[.int .u64 0, .int .u64 0, .bool false, .slice none 0 0] → Bk ((((W1.setCell ⟨w.heap.size, 0, none⟩ (.int .u64 0)).setCell ⟨w.heap.size, 1, none⟩ (.int .u64 0)).setCell ⟨w.heap.size, 2, none⟩ (.bool false)).setCell ⟨w.heap.size, 3, none⟩ (.slice none 0 0)) w.heap.size 60 #[.int .u64 0, .int .u64 0, .bool false, .slice none 0 0] ∧ W1.grownBy ((((W1.setCell ⟨w.heap.size, 0, none⟩ (.int .u64 0)).setCell ⟨w.heap.size, 1, none⟩ (.int .u64 0)).setCell ⟨w.heap.size, 2, none⟩ (.bool false)).setCell ⟨w.heap.size, 3, none⟩ (.slice none 0 0)) (some w.heap.size)) :=
    Lib.hid fun W1 h => ⟨by have := (((h.set_ 0 (.int .u64 0)).set_ 1 (.int .u64 0)).set_ 2 (.bool false)).set_ 3 (.slice none 0 0); simpa using this, grown_trans (grown_trans (grown_trans (grown_set _ _ _ _) (grown_set _ _ _ _)) (grown_set _ _ _ _)) (grown_set _ _ _ _)⟩
  have HW0 := Lib.hid hW0
  have Hb0 := Lib.hid hb0
  have Hk0 := Lib.hid hk0
  have hcase : (er ≠ 0 ∧ er = (E : Int)) ∨ (er = 0 ∧ E = 11 ∧ to_ < (n : Int)) ∨ (er = 0 ∧ E = 11 ∧ to_ = (n : Int) ∧ K ≠ 3 ∧ K ≠ 4) := by
    unfold getA at hK hto her
    rw [if_neg (by omega)] at hK hto her
    simp only [Int.toNat_zero, List.drop_zero] at hK hto her
    rcases hbad with hg | ⟨f, k, hg, hE, hcs⟩
    · rw [hg] at her
      have := getF_err_pos hg
      exact .inl ⟨by rw [her]; simp only; omega, her⟩
    · rw [hg] at her hK hto
      simp only at her hK hto
      rcases hcs with hk | ⟨hk, h3, h4⟩
      · exact .inr (.inl ⟨her, hE, by omega⟩)
      · refine .inr (.inr ⟨her, hE, by omega, ?_, ?_⟩)
        · rw [hK]; intro e; exact h3 (UInt8.toNat_inj.1 (by have : f.1.toNat = 3 := by omega
                                                            rw [this]; rfl))
        · rw [hK]; intro e; exact h4 (UInt8.toNat_inj.1 (by have : f.1.toNat = 4 := by omega
                                                            rw [this]; rfl))
  clear HG0 hK hN hto her hbad hW0 hb0 hk0 h hl
  rcases hcase with ⟨h1, h2⟩ | ⟨rfl, rfl, h3⟩ | ⟨rfl, rfl, rfl, h3, h4⟩
  · subst h2
    have hne : ((E : Int) != 0) = true := by simpa using h1
    clear h1
    go_enter Try.func38, Try.ntmps38
    go_wp2_with fail
    rw [← HW0.out]
    refine HG.out.mono ?_
    rintro e w1 ⟨A3, c3, rfl, hb1⟩
    obtain ⟨W2, hW2⟩ : ∃ W, W = w1.alloc (.cells #[.int .u8 K, .slice A3 N c3] 132) := ⟨_, rfl⟩
    have hb2 : Below w1.heap.size w1 W2 := by rw [hW2]; exact (Below.refl _ _).alloc (Nat.le_refl _) _
    have Hk1 := Lib.hid (Hk0.out.below hb1 Hk0.out.lt)
    have z1' : w.heap.size < w1.heap.size := Nat.lt_of_lt_of_le Hk0.out.lt hb1.size
    have Hk2 := Lib.hid (Hk1.out.below hb2 z1')
    have HB2 := Lib.hid (below_then (below_then Hb0.out hb1) hb2)
    have hkf : W2.cell? ⟨w1.heap.size, 0, none⟩ = some (.int .u8 K) := by
      have : Bk W2 w1.heap.size 132 #[.int .u8 K, .slice A3 N c3] := by rw [hW2]; exact Bk.new w1 _ _
      exact this.cell 0
    have f0 : w1.cell? ⟨w.heap.size, 0, none⟩ = some (.int .u64 0) := Hk1.out.cell 0
    have f1 : w1.cell? ⟨w.heap.size, 1, none⟩ = some (.int .u64 0) := Hk1.out.cell 1
    have f2 : w1.cell? ⟨w.heap.size, 2, none⟩ = some (.bool false) := Hk1.out.cell 2
    have f3 : w1.cell? ⟨w.heap.size, 3, none⟩ = some (.slice none 0 0) := Hk1.out.cell 3
    have z0 : w1.frozen? ⟨w.heap.size, 0, none⟩ = false := Hk1.out.frozen 0
    have z1 : w1.frozen? ⟨w.heap.size, 1, none⟩ = false := Hk1.out.frozen 1
    have z2 : w1.frozen? ⟨w.heap.size, 2, none⟩ = false := Hk1.out.frozen 2
    have z3 : w1.frozen? ⟨w.heap.size, 3, none⟩ = false := Hk1.out.frozen 3
    rw [hW2] at hkf
    have zne : ¬ w.heap.size = w1.heap.size := by omega
    have n0 := World.new_ne w1 ⟨w.heap.size, 0, none⟩ (by rw [f0])
    have n1 := World.new_ne w1 ⟨w.heap.size, 1, none⟩ (by rw [f1])
    have n2 := World.new_ne w1 ⟨w.heap.size, 2, none⟩ (by rw [f2])
    have n3 := World.new_ne w1 ⟨w.heap.size, 3, none⟩ (by rw [f3])
    have HW2 := Lib.hid hW2
    clear hb2 hW2
    go_wp2
    obtain ⟨hk3, hgr⟩ := Hend.out w1 Hk1.out
    have HB1 := Lib.hid (below_then Hb0.out hb1)
    generalize (((w1.setCell ⟨w.heap.size, 0, none⟩ (.int .u64 0)).setCell ⟨w.heap.size, 1, none⟩ (.int .u64 0)).setCell ⟨w.heap.size, 2, none⟩ (.bool false)).setCell ⟨w.heap.size, 3, none⟩ (.slice none 0 0) = w10 at *
    have hb11 : Below w10.heap.size w10 (w10.alloc (.cells #[.int .u8 K, .slice A3 N c3] 132)) := (Below.refl _ _).alloc (Nat.le_refl _) _
    have hk4 := hk3.below hb11 hk3.lt
    have HB10 := HB1.out.trans (below_of_grown hgr HB1.out.size (Nat.le_refl _))
    have HB11 := Lib.hid (below_then HB10 hb11)
    generalize w10.alloc (.cells #[.int .u8 K, .slice A3 N c3] 132) = w11 at *
    have j0 : w11.cell? ⟨w.heap.size, 0, none⟩ = some (.int .u64 0) := hk4.cell 0
    have j1 : w11.cell? ⟨w.heap.size, 1, none⟩ = some (.int .u64 0) := hk4.cell 1
    have j2 : w11.cell? ⟨w.heap.size, 2, none⟩ = some (.bool false) := hk4.cell 2
    have j3 : w11.cell? ⟨w.heap.size, 3, none⟩ = some (.slice none 0 0) := hk4.cell 3
    refine bodyPost_ret (by simp [results, Try.results38, go_sem, j0, j1, j2, j3]; try rfl) rfl ?_
    exact ⟨rfl, HB11.out⟩
  · have hlt : decide (to_ < (n : Int)) = true := by simp [h3]
    go_enter Try.func38, Try.ntmps38
    go_wp2_with fail
    rw [← HW0.out]
    refine HG.out.mono ?_
    rintro e w1 ⟨A3, c3, rfl, hb1⟩
    obtain ⟨W2, hW2⟩ : ∃ W, W = w1.alloc (.cells #[.int .u8 K, .slice A3 N c3] 132) := ⟨_, rfl⟩
    have hb2 : Below w1.heap.size w1 W2 := by rw [hW2]; exact (Below.refl _ _).alloc (Nat.le_refl _) _
    have Hk1 := Lib.hid (Hk0.out.below hb1 Hk0.out.lt)
    have z1' : w.heap.size < w1.heap.size := Nat.lt_of_lt_of_le Hk0.out.lt hb1.size
    have Hk2 := Lib.hid (Hk1.out.below hb2 z1')
    have HB2 := Lib.hid (below_then (below_then Hb0.out hb1) hb2)
    have hkf : W2.cell? ⟨w1.heap.size, 0, none⟩ = some (.int .u8 K) := by
      have : Bk W2 w1.heap.size 132 #[.int .u8 K, .slice A3 N c3] := by rw [hW2]; exact Bk.new w1 _ _
      exact this.cell 0
    have f0 : w1.cell? ⟨w.heap.size, 0, none⟩ = some (.int .u64 0) := Hk1.out.cell 0
    have f1 : w1.cell? ⟨w.heap.size, 1, none⟩ = some (.int .u64 0) := Hk1.out.cell 1
    have f2 : w1.cell? ⟨w.heap.size, 2, none⟩ = some (.bool false) := Hk1.out.cell 2
    have f3 : w1.cell? ⟨w.heap.size, 3, none⟩ = some (.slice none 0 0) := Hk1.out.cell 3
    have z0 : w1.frozen? ⟨w.heap.size, 0, none⟩ = false := Hk1.out.frozen 0
    have z1 : w1.frozen? ⟨w.heap.size, 1, none⟩ = false := Hk1.out.frozen 1
    have z2 : w1.frozen? ⟨w.heap.size, 2, none⟩ = false := Hk1.out.frozen 2
    have z3 : w1.frozen? ⟨w.heap.size, 3, none⟩ = false := Hk1.out.frozen 3
    rw [hW2] at hkf
    have zne : ¬ w.heap.size = w1.heap.size := by omega
    have n0 := World.new_ne w1 ⟨w.heap.size, 0, none⟩ (by rw [f0])
    have n1 := World.new_ne w1 ⟨w.heap.size, 1, none⟩ (by rw [f1])
    have n2 := World.new_ne w1 ⟨w.heap.size, 2, none⟩ (by rw [f2])
    have n3 := World.new_ne w1 ⟨w.heap.size, 3, none⟩ (by rw [f3])
    have HW2 := Lib.hid hW2
    clear hb2 hW2
    go_wp2
    obtain ⟨hk3, hgr⟩ := Hend.out w1 Hk1.out
    have HB1 := Lib.hid (below_then Hb0.out hb1)
    generalize (((w1.setCell ⟨w.heap.size, 0, none⟩ (.int .u64 0)).setCell ⟨w.heap.size, 1, none⟩ (.int .u64 0)).setCell ⟨w.heap.size, 2, none⟩ (.bool false)).setCell ⟨w.heap.size, 3, none⟩ (.slice none 0 0) = w10 at *
    have hb11 : Below w10.heap.size w10 (w10.alloc (.cells #[.int .u8 K, .slice A3 N c3] 132)) := (Below.refl _ _).alloc (Nat.le_refl _) _
    have hk4 := hk3.below hb11 hk3.lt
    have HB10 := HB1.out.trans (below_of_grown hgr HB1.out.size (Nat.le_refl _))
    have HB11 := Lib.hid (below_then HB10 hb11)
    generalize w10.alloc (.cells #[.int .u8 K, .slice A3 N c3] 132) = w11 at *
    have j0 : w11.cell? ⟨w.heap.size, 0, none⟩ = some (.int .u64 0) := hk4.cell 0
    have j1 : w11.cell? ⟨w.heap.size, 1, none⟩ = some (.int .u64 0) := hk4.cell 1
    have j2 : w11.cell? ⟨w.heap.size, 2, none⟩ = some (.bool false) := hk4.cell 2
    have j3 : w11.cell? ⟨w.heap.size, 3, none⟩ = some (.slice none 0 0) := hk4.cell 3
    refine bodyPost_ret (by simp [results, Try.results38, go_sem, j0, j1, j2, j3]; try rfl) rfl ?_
    exact ⟨rfl, HB11.out⟩
  · have q3 : (K != 3) = true := by simp [h3]
    have q4 : (K != 4) = true := by simp [h4]
    clear h3 h4
    go_enter Try.func38, Try.ntmps38
    go_wp2_with fail
    rw [← HW0.out]
    refine HG.out.mono ?_
    rintro e w1 ⟨A3, c3, rfl, hb1⟩
    obtain ⟨W2, hW2⟩ : ∃ W, W = w1.alloc (.cells #[.int .u8 K, .slice A3 N c3] 132) := ⟨_, rfl⟩
    have hb2 : Below w1.heap.size w1 W2 := by rw [hW2]; exact (Below.refl _ _).alloc (Nat.le_refl _) _
    have Hk1 := Lib.hid (Hk0.out.below hb1 Hk0.out.lt)
    have z1' : w.heap.size < w1.heap.size := Nat.lt_of_lt_of_le Hk0.out.lt hb1.size
    have Hk2 := Lib.hid (Hk1.out.below hb2 z1')
    have HB2 := Lib.hid (below_then (below_then Hb0.out hb1) hb2)
    have hkf : W2.cell? ⟨w1.heap.size, 0, none⟩ = some (.int .u8 K) := by
      have : Bk W2 w1.heap.size 132 #[.int .u8 K, .slice A3 N c3] := by rw [hW2]; exact Bk.new w1 _ _
      exact this.cell 0
    have f0 : w1.cell? ⟨w.heap.size, 0, none⟩ = some (.int .u64 0) := Hk1.out.cell 0
    have f1 : w1.cell? ⟨w.heap.size, 1, none⟩ = some (.int .u64 0) := Hk1.out.cell 1
    have f2 : w1.cell? ⟨w.heap.size, 2, none⟩ = some (.bool false) := Hk1.out.cell 2
    have f3 : w1.cell? ⟨w.heap.size, 3, none⟩ = some (.slice none 0 0) := Hk1.out.cell 3
    have z0 : w1.frozen? ⟨w.heap.size, 0, none⟩ = false := Hk1.out.frozen 0
    have z1 : w1.frozen? ⟨w.heap.size, 1, none⟩ = false := Hk1.out.frozen 1
    have z2 : w1.frozen? ⟨w.heap.size, 2, none⟩ = false := Hk1.out.frozen 2
    have z3 : w1.frozen? ⟨w.heap.size, 3, none⟩ = false := Hk1.out.frozen 3
    rw [hW2] at hkf
    have zne : ¬ w.heap.size = w1.heap.size := by omega
    have n0 := World.new_ne w1 ⟨w.heap.size, 0, none⟩ (by rw [f0])
    have n1 := World.new_ne w1 ⟨w.heap.size, 1, none⟩ (by rw [f1])
    have n2 := World.new_ne w1 ⟨w.heap.size, 2, none⟩ (by rw [f2])
    have n3 := World.new_ne w1 ⟨w.heap.size, 3, none⟩ (by rw [f3])
    have HW2 := Lib.hid hW2
    clear hb2 hW2
    go_wp2
    obtain ⟨hk3, hgr⟩ := Hend.out w1 Hk1.out
    have HB1 := Lib.hid (below_then Hb0.out hb1)
    generalize (((w1.setCell ⟨w.heap.size, 0, none⟩ (.int .u64 0)).setCell ⟨w.heap.size, 1, none⟩ (.int .u64 0)).setCell ⟨w.heap.size, 2, none⟩ (.bool false)).setCell ⟨w.heap.size, 3, none⟩ (.slice none 0 0) = w10 at *
    have hb11 : Below w10.heap.size w10 (w10.alloc (.cells #[.int .u8 K, .slice A3 N c3] 132)) := (Below.refl _ _).alloc (Nat.le_refl _) _
    have hk4 := hk3.below hb11 hk3.lt
    have HB10 := HB1.out.trans (below_of_grown hgr HB1.out.size (Nat.le_refl _))
    have HB11 := Lib.hid (below_then HB10 hb11)
    generalize w10.alloc (.cells #[.int .u8 K, .slice A3 N c3] 132) = w11 at *
    have j0 : w11.cell? ⟨w.heap.size, 0, none⟩ = some (.int .u64 0) := hk4.cell 0
    have j1 : w11.cell? ⟨w.heap.size, 1, none⟩ = some (.int .u64 0) := hk4.cell 1
    have j2 : w11.cell? ⟨w.heap.size, 2, none⟩ = some (.bool false) := hk4.cell 2
    have j3 : w11.cell? ⟨w.heap.size, 3, none⟩ = some (.slice none 0 0) := hk4.cell 3
    refine bodyPost_ret (by simp [results, Try.results38, go_sem, j0, j1, j2, j3]; try rfl) rfl ?_
    exact ⟨rfl, HB11.out⟩
end Go.Proofs.Ytfghbhjljbdlmaa
