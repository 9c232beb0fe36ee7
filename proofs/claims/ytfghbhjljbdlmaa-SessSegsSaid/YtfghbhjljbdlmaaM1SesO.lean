/- Of the proofs of layer 4, merged: SesO. -/
import Derived.Test.YtfghbhjljbdlmaaM1SesN
import Derived.Test.YtfghbhjljbdlmaaMRefFrameGet
import Derived.Test.YtfghbhjljbdlmaaMBinUint

/- The document's Parse. -/
namespace Go.Proofs.Ytfghbhjljbdlmaa
open Go.RowKit Go.Maps

theorem parseS_e {l : List UInt8} {f : Fr} {k : Nat} (hg : getF l = .ok (f, k)) (h : (nextU (nextU f.2 0).2.1 (nextU f.2 0).2.2).2.2 ≠ 0) : parseS l = (Sg.zero, 11) := by
  unfold parseS
  rw [hg]
  simp only
  split
  · rfl
  · rw [if_pos (.inl h)]

theorem parseS_d {l : List UInt8} {f : Fr} {k u1 u2 : Nat} {r1 r2 : List UInt8} (hg : getF l = .ok (f, k)) (h1 : nextU f.2 0 = (u1, r1, 0)) (h2 : nextU r1 0 = (u2, r2, 0)) :
    parseS l = if Sg.right ⟨u1, u2, f.1 == 4, r2⟩ = true ∧ bytesS ⟨u1, u2, f.1 == 4, r2⟩ = l then (⟨u1, u2, f.1 == 4, r2⟩, 0) else (Sg.zero, 11) := by
  have hp : parseS l = if k < l.length ∨ (f.1 ≠ 3 ∧ f.1 ≠ 4) then (Sg.zero, 11) else if Sg.right ⟨u1, u2, f.1 == 4, r2⟩ = false then (Sg.zero, 11) else (⟨u1, u2, f.1 == 4, r2⟩, 0) := by
    unfold parseS
    rw [hg]
    simp only [h1, h2, ne_eq, not_true_eq_false, false_or]
  have hlt : (r1.length ≤ f.2.length) := by have := nextU_suf f.2 0; rw [h1] at this; exact this.1
  have hk := getF_le hg
  have hok : Sg.Ok ⟨u1, u2, f.1 == 4, r2⟩ := by
    have a := nextU_back (l := f.2) (by omega) (by rw [h1])
    have b := nextU_back (l := r1) (by omega) (by rw [h2])
    rw [h1] at a
    rw [h2] at b
    exact ⟨a.2, b.2⟩
  by_cases hc : Sg.right ⟨u1, u2, f.1 == 4, r2⟩ = true ∧ bytesS ⟨u1, u2, f.1 == 4, r2⟩ = l
  · rw [if_pos hc]
    have := parse_bytes _ hok hc.1
    rwa [hc.2] at this
  · rw [if_neg hc, hp]
    split
    · rfl
    rename_i hn
    split
    · rfl
    rename_i hr
    exfalso
    have hr' : Sg.right ⟨u1, u2, f.1 == 4, r2⟩ = true := by simpa using hr
    rw [if_neg hn, if_neg hr] at hp
    have := parse_back (l := l) (by rw [hp])
    rw [hp] at this
    exact hc ⟨hr', this.2.2⟩

/-- Bytes, by the document. -/
theorem rbytes_any (s : Sg) (hok : s.Ok) (A : Option Addr) (n c : Nat) (w : World) (hc : n ≤ c) (hm : c ≤ 9223372036854775807) (h : Rd w w.heap.size A n s.body) :
    Calls Try.prog 37 #[sgV s (.slice A n c)] w fun e w' => ∃ v, e = .returned (.tuple #[v, .int .i64 (if s.right then 0 else 2)]) ∧ w'.ownsRow w.heap.size 5 1 v (if s.right then bytesS s else []).length (u8s (if s.right then bytesS s else [])) ∧ Below w.heap.size w w' := by
  cases hr : s.right with
  | true => exact rbytes_ok s hok hr A n c w hc hm h
  | false =>
    refine (rbytes_bad s hr A n c w h.1).mono ?_
    rintro e w' ⟨rfl, hb⟩
    exact ⟨_, rfl, World.ownsRow_nil _ _ _ _, hb⟩

set_option maxRecDepth 100000 in
set_option maxHeartbeats 2000000 in
theorem rparse_err (A : Option Addr) (n c : Nat) (l : List UInt8) (E : Nat) (w : World) (hc : n ≤ c) (hn : n ≤ 140737488355328) (hm : c ≤ 9223372036854775807) (h : Rd w w.heap.size A n l)
    (hbad : (getF l = .error E) ∨ (∃ f k, getF l = .ok (f, k) ∧ E = 11 ∧ ((∃ e : Nat, 1 ≤ e ∧ uintAt f.2 0 = (0, 0, (e : Int))) ∨ (∃ v k e : Nat, 1 ≤ e ∧ uintAt f.2 0 = ((v : Int), (k : Int), 0) ∧ uintAt f.2 (k : Int) = (0, 0, (e : Int)))))) :
    Calls Try.prog 39 #[.slice A n c] w fun e w' => e = .returned (.tuple #[sgV Sg.zero (.slice none 0 0), .int .i64 (E : Int)]) ∧ Below w.heap.size w w' := by
  have hl := h.1
  obtain ⟨W0, hW0⟩ : ∃ W, W = w.alloc (.cells #[.int .u64 0, .int .u64 0, .bool false, .slice none 0 0] 60) := ⟨_, rfl⟩
  have hb0 : Below w.heap.size w W0 := by rw [hW0]; exact (Below.refl _ _).alloc (Nat.le_refl _) _
  have hk0 : Bk W0 w.heap.size 60 #[.int .u64 0, .int .u64 0, .bool false, .slice none 0 0] := by rw [hW0]; exact Bk.new w 60 _
  have HG0 := refGetF_any A n c 0 l W0 hc hn hm (h.up hb0)
  obtain ⟨K, hK⟩ : ∃ K : Int, K = (((getA l 0).1.toNat : Nat) : Int) := ⟨_, rfl⟩
  obtain ⟨bd, hbd⟩ : ∃ b, b = (getA l 0).2.1 := ⟨_, rfl⟩
  obtain ⟨to_, hto⟩ : ∃ t : Int, t = (getA l 0).2.2.1 := ⟨_, rfl⟩
  obtain ⟨er, her⟩ : ∃ t : Int, t = (getA l 0).2.2.2 := ⟨_, rfl⟩
  rw [← hK, ← hbd, ← hto, ← her] at HG0
  obtain ⟨N, hN⟩ : ∃ N, N = bd.length := ⟨_, rfl⟩
  have HG : Hid (Calls Try.prog 88 #[.slice A n c, .int .i64 0] W0 fun e w' => ∃ A3 c3, e = .returned (.tuple #[.agg #[.int .u8 K, .slice A3 N c3], .int .i64 to_, .int .i64 er]) ∧ N ≤ c3 ∧ c3 ≤ 9223372036854775807 ∧ Rd w' w'.heap.size A3 N bd ∧ Below W0.heap.size W0 w') := by
    refine Lib.hid (HG0.mono ?_)
    rintro e w' ⟨v, rfl, ho, hb⟩
    rw [← hN] at ho
    obtain ⟨A3, c3, rfl, h1, h2⟩ := own_shape ho
    exact ⟨A3, c3, rfl, h1, by unfold maxLen at h2; omega, Rd.of_own ho, hb⟩
  have HU : Hid (∀ W A3 c3 at_, N ≤ c3 → c3 ≤ 9223372036854775807 → Rd W W.heap.size A3 N bd → Calls Try.prog 89 #[.slice A3 N c3, .int .i64 at_] W fun e w' => e = .returned (.tuple #[.int .u64 (uintAt bd at_).1, .int .i64 (uintAt bd at_).2.1, .int .i64 (uintAt bd at_).2.2]) ∧ W = w') :=
    Lib.hid fun W A3 c3 at_ h1 h2 h3 => refUint_any A3 N c3 W.heap.size at_ bd W h1 h2 h3
  have Hend : Hid (∀ W1 : World, Bk W1 w.heap.size 60 #[.int .u64 0, .int .u64 0, .bool false, .slice none 0 0] → Bk ((((W1.setCell ⟨w.heap.size, 0, none⟩ (.int .u64 0)).setCell ⟨w.heap.size, 1, none⟩ (.int .u64 0)).setCell ⟨w.heap.size, 2, none⟩ (.bool false)).setCell ⟨w.heap.size, 3, none⟩ (.slice none 0 0)) w.heap.size 60 #[.int .u64 0, .int .u64 0, .bool false, .slice none 0 0] ∧ W1.grownBy ((((W1.setCell ⟨w.heap.size, 0, none⟩ (.int .u64 0)).setCell ⟨w.heap.size, 1, none⟩ (.int .u64 0)).setCell ⟨w.heap.size, 2, none⟩ (.bool false)).setCell ⟨w.heap.size, 3, none⟩ (.slice none 0 0)) (some w.heap.size)) :=
    Lib.hid fun W1 h => ⟨by have := (((h.set_ 0 (.int .u64 0)).set_ 1 (.int .u64 0)).set_ 2 (.bool false)).set_ 3 (.slice none 0 0); simpa using this, grown_trans (grown_trans (grown_trans (grown_set _ _ _ _) (grown_set _ _ _ _)) (grown_set _ _ _ _)) (grown_set _ _ _ _)⟩
  have HW0 := Lib.hid hW0
  have Hb0 := Lib.hid hb0
  have Hk0 := Lib.hid hk0
  have hcase : (er ≠ 0 ∧ er = (E : Int)) ∨ (er = 0 ∧ E = 11 ∧ ∃ e : Nat, 1 ≤ e ∧ uintAt bd 0 = (0, 0, (e : Int))) ∨ (er = 0 ∧ E = 11 ∧ ∃ v k e : Nat, 1 ≤ e ∧ uintAt bd 0 = ((v : Int), (k : Int), 0) ∧ uintAt bd (k : Int) = (0, 0, (e : Int))) := by
    unfold getA at hbd her
    rw [if_neg (by omega)] at hbd her
    simp only [Int.toNat_zero, List.drop_zero] at hbd her
    rcases hbad with hg | ⟨f, k, hg, hE, hcs⟩
    · rw [hg] at her
      have := getF_err_pos hg
      exact .inl ⟨by rw [her]; simp only; omega, her⟩
    · rw [hg] at her hbd
      simp only at her hbd
      rw [hbd]
      rcases hcs with hx | hx
      · exact .inr (.inl ⟨her, hE, hx⟩)
      · exact .inr (.inr ⟨her, hE, hx⟩)
  clear HG0 hK hto her hbad hW0 hb0 hk0 h hl hbd hN
  rcases hcase with ⟨h1, h2⟩ | ⟨rfl, rfl, e1, h3, h4⟩ | ⟨rfl, rfl, v1, k1, e1, h3, h4, h5⟩
  · subst h2
    have hne : ((E : Int) != 0) = true := by simpa using h1
    clear h1
    go_enter Try.func39, Try.ntmps39
    go_wp2_with fail
    rw [← HW0.out]
    refine HG.out.mono ?_
    rintro e w1 ⟨A3, c3, rfl, a1, a2, a3, hb1⟩
    have z1' : w.heap.size < w1.heap.size := Nat.lt_of_lt_of_le Hk0.out.lt hb1.size
    have Hk1 := Lib.hid (Hk0.out.below hb1 Hk0.out.lt)
    have HB1 := Lib.hid (below_then Hb0.out hb1)
    have HkX := Hk1
    have zne : ¬ w.heap.size = w1.heap.size := by omega
    have f0 : w1.cell? ⟨w.heap.size, 0, none⟩ = some (.int .u64 0) := HkX.out.cell 0
    have z0 : w1.frozen? ⟨w.heap.size, 0, none⟩ = false := HkX.out.frozen 0
    have f1 : w1.cell? ⟨w.heap.size, 1, none⟩ = some (.int .u64 0) := HkX.out.cell 1
    have z1 : w1.frozen? ⟨w.heap.size, 1, none⟩ = false := HkX.out.frozen 1
    have f2 : w1.cell? ⟨w.heap.size, 2, none⟩ = some (.bool false) := HkX.out.cell 2
    have z2 : w1.frozen? ⟨w.heap.size, 2, none⟩ = false := HkX.out.frozen 2
    have f3 : w1.cell? ⟨w.heap.size, 3, none⟩ = some (.slice none 0 0) := HkX.out.cell 3
    have z3 : w1.frozen? ⟨w.heap.size, 3, none⟩ = false := HkX.out.frozen 3
    have n0 := World.new_ne w1 ⟨w.heap.size, 0, none⟩ (by rw [f0])
    have n1 := World.new_ne w1 ⟨w.heap.size, 1, none⟩ (by rw [f1])
    have n2 := World.new_ne w1 ⟨w.heap.size, 2, none⟩ (by rw [f2])
    have n3 := World.new_ne w1 ⟨w.heap.size, 3, none⟩ (by rw [f3])
    clear a3 hb1
    go_wp2
    obtain ⟨hk3, hgr⟩ := Hend.out w1 HkX.out
    generalize (((w1.setCell ⟨w.heap.size, 0, none⟩ (.int .u64 0)).setCell ⟨w.heap.size, 1, none⟩ (.int .u64 0)).setCell ⟨w.heap.size, 2, none⟩ (.bool false)).setCell ⟨w.heap.size, 3, none⟩ (.slice none 0 0) = w10 at *
    have hb11 : Below w10.heap.size w10 (w10.alloc (.cells #[.int .u8 K, .slice A3 N c3] 132)) := (Below.refl _ _).alloc (Nat.le_refl _) _
    have hk4 := hk3.below hb11 hk3.lt
    have HB10 := HB1.out.trans (below_of_grown hgr HB1.out.size (Nat.le_refl _))
    have HB11 := Lib.hid (below_then HB10 hb11)
    generalize w10.alloc (.cells #[.int .u8 K, .slice A3 N c3] 132) = w11 at *
    have j0 : w11.cell? ⟨w.heap.size, 0, none⟩ = some (.int .u64 0) := hk4.cell 0
    have j1 : w11.cell? ⟨w.heap.size, 1, none⟩ = some (.int .u64 0) := hk4.cell 1
    have j2 : w11.cell? ⟨w.heap.size, 2, none⟩ = some (.bool false) := hk4.cell 2
    have j3 : w11.cell? ⟨w.heap.size, 3, none⟩ = some (.slice none 0 0) := hk4.cell 3
    refine bodyPost_ret (by simp [results, Try.results39, go_sem, j0, j1, j2, j3]; try rfl) rfl ?_
    exact ⟨rfl, HB11.out⟩
  · have hne : ((e1 : Int) != 0) = true := by simp; omega
    have U1 := Lib.hid h4
    clear h3 h4
    go_enter Try.func39, Try.ntmps39
    go_wp2_with fail
    rw [← HW0.out]
    refine HG.out.mono ?_
    rintro e w1 ⟨A3, c3, rfl, a1, a2, a3, hb1⟩
    have z1' : w.heap.size < w1.heap.size := Nat.lt_of_lt_of_le Hk0.out.lt hb1.size
    have Hk1 := Lib.hid (Hk0.out.below hb1 Hk0.out.lt)
    have HB1 := Lib.hid (below_then Hb0.out hb1)
    obtain ⟨W2, hW2⟩ : ∃ W, W = w1.alloc (.cells #[.int .u8 K, .slice A3 N c3] 132) := ⟨_, rfl⟩
    have hb2 : Below w1.heap.size w1 W2 := by rw [hW2]; exact (Below.refl _ _).alloc (Nat.le_refl _) _
    have HkX := Lib.hid (Hk1.out.below hb2 z1')
    have HB2 := Lib.hid (below_then HB1.out hb2)
    have hkf : Bk W2 w1.heap.size 132 #[.int .u8 K, .slice A3 N c3] := by rw [hW2]; exact Bk.new w1 _ _
    have kf1 : W2.cell? ⟨w1.heap.size, 1, none⟩ = some (.slice A3 N c3) := hkf.cell 1
    have HR2 := Lib.hid (Rd.up a3 hb2)
    have f0 : W2.cell? ⟨w.heap.size, 0, none⟩ = some (.int .u64 0) := HkX.out.cell 0
    have z0 : W2.frozen? ⟨w.heap.size, 0, none⟩ = false := HkX.out.frozen 0
    have f1 : W2.cell? ⟨w.heap.size, 1, none⟩ = some (.int .u64 0) := HkX.out.cell 1
    have z1 : W2.frozen? ⟨w.heap.size, 1, none⟩ = false := HkX.out.frozen 1
    have f2 : W2.cell? ⟨w.heap.size, 2, none⟩ = some (.bool false) := HkX.out.cell 2
    have z2 : W2.frozen? ⟨w.heap.size, 2, none⟩ = false := HkX.out.frozen 2
    have f3 : W2.cell? ⟨w.heap.size, 3, none⟩ = some (.slice none 0 0) := HkX.out.cell 3
    have z3 : W2.frozen? ⟨w.heap.size, 3, none⟩ = false := HkX.out.frozen 3
    have HW2 := Lib.hid hW2
    clear a3 hb1 hb2 hW2 hkf
    go_wp2_with fail
    rw [← HW2.out]
    have HU1 := HU.out W2 A3 c3 0 a1 a2 HR2.out
    rw [U1.out] at HU1
    replace HU1 := Lib.hid HU1
    refine HU1.out.mono ?_
    rintro e w' ⟨rfl, rfl⟩
    go_wp2
    obtain ⟨hk3, hgr⟩ := Hend.out W2 HkX.out
    generalize (((W2.setCell ⟨w.heap.size, 0, none⟩ (.int .u64 0)).setCell ⟨w.heap.size, 1, none⟩ (.int .u64 0)).setCell ⟨w.heap.size, 2, none⟩ (.bool false)).setCell ⟨w.heap.size, 3, none⟩ (.slice none 0 0) = w10 at *
    have HB11 := Lib.hid (HB2.out.trans (below_of_grown hgr HB2.out.size (Nat.le_refl _)))
    have hk4 := hk3
    generalize w10 = w11 at *
    have j0 : w11.cell? ⟨w.heap.size, 0, none⟩ = some (.int .u64 0) := hk4.cell 0
    have j1 : w11.cell? ⟨w.heap.size, 1, none⟩ = some (.int .u64 0) := hk4.cell 1
    have j2 : w11.cell? ⟨w.heap.size, 2, none⟩ = some (.bool false) := hk4.cell 2
    have j3 : w11.cell? ⟨w.heap.size, 3, none⟩ = some (.slice none 0 0) := hk4.cell 3
    refine bodyPost_ret (by simp [results, Try.results39, go_sem, j0, j1, j2, j3]; try rfl) rfl ?_
    exact ⟨rfl, HB11.out⟩
  · have hne : ((e1 : Int) != 0) = true := by simp; omega
    have U1 := Lib.hid h4
    have U2 := Lib.hid h5
    clear h3 h4 h5
    go_enter Try.func39, Try.ntmps39
    go_wp2_with fail
    rw [← HW0.out]
    refine HG.out.mono ?_
    rintro e w1 ⟨A3, c3, rfl, a1, a2, a3, hb1⟩
    have z1' : w.heap.size < w1.heap.size := Nat.lt_of_lt_of_le Hk0.out.lt hb1.size
    have Hk1 := Lib.hid (Hk0.out.below hb1 Hk0.out.lt)
    have HB1 := Lib.hid (below_then Hb0.out hb1)
    obtain ⟨W2, hW2⟩ : ∃ W, W = w1.alloc (.cells #[.int .u8 K, .slice A3 N c3] 132) := ⟨_, rfl⟩
    have hb2 : Below w1.heap.size w1 W2 := by rw [hW2]; exact (Below.refl _ _).alloc (Nat.le_refl _) _
    have HkX := Lib.hid (Hk1.out.below hb2 z1')
    have HB2 := Lib.hid (below_then HB1.out hb2)
    have hkf : Bk W2 w1.heap.size 132 #[.int .u8 K, .slice A3 N c3] := by rw [hW2]; exact Bk.new w1 _ _
    have kf1 : W2.cell? ⟨w1.heap.size, 1, none⟩ = some (.slice A3 N c3) := hkf.cell 1
    have HR2 := Lib.hid (Rd.up a3 hb2)
    have f0 : W2.cell? ⟨w.heap.size, 0, none⟩ = some (.int .u64 0) := HkX.out.cell 0
    have z0 : W2.frozen? ⟨w.heap.size, 0, none⟩ = false := HkX.out.frozen 0
    have f1 : W2.cell? ⟨w.heap.size, 1, none⟩ = some (.int .u64 0) := HkX.out.cell 1
    have z1 : W2.frozen? ⟨w.heap.size, 1, none⟩ = false := HkX.out.frozen 1
    have f2 : W2.cell? ⟨w.heap.size, 2, none⟩ = some (.bool false) := HkX.out.cell 2
    have z2 : W2.frozen? ⟨w.heap.size, 2, none⟩ = false := HkX.out.frozen 2
    have f3 : W2.cell? ⟨w.heap.size, 3, none⟩ = some (.slice none 0 0) := HkX.out.cell 3
    have z3 : W2.frozen? ⟨w.heap.size, 3, none⟩ = false := HkX.out.frozen 3
    have HW2 := Lib.hid hW2
    clear a3 hb1 hb2 hW2 hkf
    go_wp2_with fail
    rw [← HW2.out]
    have HU1 := HU.out W2 A3 c3 0 a1 a2 HR2.out
    rw [U1.out] at HU1
    replace HU1 := Lib.hid HU1
    refine HU1.out.mono ?_
    rintro e w' ⟨rfl, rfl⟩
    have HU2 := HU.out W2 A3 c3 (k1 : Int) a1 a2 HR2.out
    rw [U2.out] at HU2
    replace HU2 := Lib.hid HU2
    go_wp2_with fail
    refine HU2.out.mono ?_
    rintro e w' ⟨rfl, rfl⟩
    go_wp2
    obtain ⟨hk3, hgr⟩ := Hend.out W2 HkX.out
    generalize (((W2.setCell ⟨w.heap.size, 0, none⟩ (.int .u64 0)).setCell ⟨w.heap.size, 1, none⟩ (.int .u64 0)).setCell ⟨w.heap.size, 2, none⟩ (.bool false)).setCell ⟨w.heap.size, 3, none⟩ (.slice none 0 0) = w10 at *
    have HB11 := Lib.hid (HB2.out.trans (below_of_grown hgr HB2.out.size (Nat.le_refl _)))
    have hk4 := hk3
    generalize w10 = w11 at *
    have j0 : w11.cell? ⟨w.heap.size, 0, none⟩ = some (.int .u64 0) := hk4.cell 0
    have j1 : w11.cell? ⟨w.heap.size, 1, none⟩ = some (.int .u64 0) := hk4.cell 1
    have j2 : w11.cell? ⟨w.heap.size, 2, none⟩ = some (.bool false) := hk4.cell 2
    have j3 : w11.cell? ⟨w.heap.size, 3, none⟩ = some (.slice none 0 0) := hk4.cell 3
    refine bodyPost_ret (by simp [results, Try.results39, go_sem, j0, j1, j2, j3]; try rfl) rfl ?_
    exact ⟨rfl, HB11.out⟩
end Go.Proofs.Ytfghbhjljbdlmaa
