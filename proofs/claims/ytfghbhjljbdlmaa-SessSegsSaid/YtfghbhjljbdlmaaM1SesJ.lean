/- Of the proofs of layer 4, merged: SesJ. -/
import Derived.Test.YtfghbhjljbdlmaaM1SesO

/- The document's Parse, whole. -/
namespace Go.Proofs.Ytfghbhjljbdlmaa
open Go.RowKit Go.Maps

set_option maxRecDepth 100000 in
set_option maxHeartbeats 2000000 in
theorem rparse_d (A : Option Addr) (n c : Nat) (l : List UInt8) (f : Fr) (k v1 k1 v2 k2 : Nat) (w : World) (hc : n ≤ c) (hn : n ≤ 140737488355328) (hm : c ≤ 9223372036854775807) (h : Rd w w.heap.size A n l)
    (hg : getF l = .ok (f, k)) (h1 : uintAt f.2 0 = ((v1 : Int), (k1 : Int), 0)) (h2 : uintAt f.2 (k1 : Int) = ((v2 : Int), (k2 : Int), 0)) (hk2 : k2 ≤ f.2.length) (hv1 : v1 < 18446744073709551616) (hv2 : v2 < 18446744073709551616) :
    Calls Try.prog 39 #[.slice A n c] w fun e w' => ∃ A' n' c', e = .returned (.tuple #[sgV (if Sg.right ⟨v1, v2, f.1 == 4, f.2.drop k2⟩ = true ∧ bytesS ⟨v1, v2, f.1 == 4, f.2.drop k2⟩ = l then ⟨v1, v2, f.1 == 4, f.2.drop k2⟩ else Sg.zero) (.slice A' n' c'), .int .i64 (if Sg.right ⟨v1, v2, f.1 == 4, f.2.drop k2⟩ = true ∧ bytesS ⟨v1, v2, f.1 == 4, f.2.drop k2⟩ = l then 0 else 11)]) ∧ n' ≤ c' ∧ c' ≤ 9223372036854775807 ∧ Rd w' w'.heap.size A' n' (if Sg.right ⟨v1, v2, f.1 == 4, f.2.drop k2⟩ = true ∧ bytesS ⟨v1, v2, f.1 == 4, f.2.drop k2⟩ = l then (f.2.drop k2) else []) ∧ (0 < n' → ∀ b o, A' = some ⟨b, o, none⟩ → w.heap.size < b) ∧ Below w.heap.size w w' := by
  have hl := h.1
  obtain ⟨W0, hW0⟩ : ∃ W, W = w.alloc (.cells #[.int .u64 0, .int .u64 0, .bool false, .slice none 0 0] 60) := ⟨_, rfl⟩
  have hb0 : Below w.heap.size w W0 := by rw [hW0]; exact (Below.refl _ _).alloc (Nat.le_refl _) _
  have hk0 : Bk W0 w.heap.size 60 #[.int .u64 0, .int .u64 0, .bool false, .slice none 0 0] := by rw [hW0]; exact Bk.new w 60 _
  obtain ⟨K, hK⟩ : ∃ K : Int, K = ((f.1.toNat : Nat) : Int) := ⟨_, rfl⟩
  obtain ⟨N, hN⟩ : ∃ N, N = f.2.length := ⟨_, rfl⟩
  obtain ⟨kb, hkb⟩ : ∃ b, b = (f.1 == 4) := ⟨_, rfl⟩
  have hkK : (K == 4) = kb := by
    rw [hkb, hK, Bool.eq_iff_iff]
    simp only [beq_iff_eq]
    constructor
    · intro e; exact UInt8.toNat_inj.1 (by have : f.1.toNat = 4 := by omega
                                           rw [this]; rfl)
    · intro e; rw [e]; rfl
  have hfl := (getF_le hg)
  have HG : Hid (Calls Try.prog 88 #[.slice A n c, .int .i64 0] W0 fun e w' => ∃ A3 c3 to_, e = .returned (.tuple #[.agg #[.int .u8 K, .slice A3 N c3], .int .i64 to_, .int .i64 0]) ∧ N ≤ c3 ∧ c3 ≤ 9223372036854775807 ∧ Rd w' w'.heap.size A3 N f.2 ∧ (∀ b o, A3 = some ⟨b, o, none⟩ → W0.heap.size ≤ b) ∧ Below W0.heap.size W0 w') := by
    have hga : getA l 0 = (f.1, f.2, (k : Int), 0) := by
      unfold getA
      rw [if_neg (by omega)]
      simp only [Int.toNat_zero, List.drop_zero, hg]
      simp
    have := refGetF_any A n c 0 l W0 hc hn hm (h.up hb0)
    rw [hga] at this
    refine Lib.hid (this.mono ?_)
    rintro e w' ⟨v, rfl, ho, hb'⟩
    obtain ⟨A3, c3, rfl, h1, h2⟩ := own_shape ho
    simp only at ho
    rw [hN, hK]
    refine ⟨A3, c3, _, rfl, h1, by unfold maxLen at h2; omega, Rd.of_own ho, ?_, hb'⟩
    intro b o hA
    rcases ho.2 with ⟨hv, _⟩ | ⟨g, cap, cur, hv, hge, _⟩
    · injection hv with hv _ _; rw [hv] at hA; cases hA
    · injection hv with hv _ _
      rw [hv] at hA
      injection hA with hA
      injection hA with h1 _ _
      omega
  have HU1 : Hid (∀ W A3 c3, N ≤ c3 → c3 ≤ 9223372036854775807 → Rd W W.heap.size A3 N f.2 → Calls Try.prog 89 #[.slice A3 N c3, .int .i64 0] W fun e w' => e = .returned (.tuple #[.int .u64 (v1 : Int), .int .i64 (k1 : Int), .int .i64 0]) ∧ W = w') := by
    refine Lib.hid fun W A3 c3 a1 a2 a3 => ?_
    have := refUint_any A3 N c3 W.heap.size 0 f.2 W a1 a2 a3
    rwa [h1] at this
  have HU2 : Hid (∀ W A3 c3, N ≤ c3 → c3 ≤ 9223372036854775807 → Rd W W.heap.size A3 N f.2 → Calls Try.prog 89 #[.slice A3 N c3, .int .i64 (k1 : Int)] W fun e w' => e = .returned (.tuple #[.int .u64 (v2 : Int), .int .i64 (k2 : Int), .int .i64 0]) ∧ W = w') := by
    refine Lib.hid fun W A3 c3 a1 a2 a3 => ?_
    have := refUint_any A3 N c3 W.heap.size (k1 : Int) f.2 W a1 a2 a3
    rwa [h2] at this
  rw [← hkb]
  have hok : Sg.Ok ⟨v1, v2, kb, f.2.drop k2⟩ := ⟨hv1, hv2⟩
  have HBy : Hid (∀ W A4 n4 c4, n4 ≤ c4 → c4 ≤ 9223372036854775807 → Rd W W.heap.size A4 n4 (f.2.drop k2) → Calls Try.prog 37 #[.agg #[.int .u64 (v1 : Int), .int .u64 (v2 : Int), .bool kb, .slice A4 n4 c4]] W fun e w' => ∃ v, e = .returned (.tuple #[v, .int .i64 (if Sg.right ⟨v1, v2, kb, f.2.drop k2⟩ then 0 else 2)]) ∧ w'.ownsRow W.heap.size 5 1 v (if Sg.right ⟨v1, v2, kb, f.2.drop k2⟩ then bytesS ⟨v1, v2, kb, f.2.drop k2⟩ else []).length (u8s (if Sg.right ⟨v1, v2, kb, f.2.drop k2⟩ then bytesS ⟨v1, v2, kb, f.2.drop k2⟩ else [])) ∧ Below W.heap.size W w') :=
    Lib.hid fun W A4 n4 c4 a1 a2 a3 => rbytes_any ⟨v1, v2, kb, f.2.drop k2⟩ hok A4 n4 c4 W a1 a2 a3
  have hk2N : k2 ≤ N := by omega
  have HA : Hid (∀ W, Below w.heap.size w W → Rd W W.heap.size A n l) := Lib.hid fun W hb => h.up hb
  have HW0 := Lib.hid hW0
  have Hb0 := Lib.hid hb0
  have Hk0 := Lib.hid hk0
  generalize hbs : bytesS ⟨v1, v2, kb, f.2.drop k2⟩ = BS at *
  generalize hri : Sg.right ⟨v1, v2, kb, f.2.drop k2⟩ = rr at *
  generalize hSS : (if rr = true ∧ BS = l then (⟨v1, v2, kb, f.2.drop k2⟩ : Sg) else Sg.zero) = SS
  generalize hEE : (if rr = true ∧ BS = l then (0 : Int) else 11) = EE
  generalize hBD : (if rr = true ∧ BS = l then (f.2.drop k2) else []) = BD
  have HSS := Lib.hid hSS
  have HEE := Lib.hid hEE
  have HBD := Lib.hid hBD
  clear hSS hEE hBD
  clear h hg h1 h2 hk2 hv1 hv2 hfl hN hkb hW0 hb0 hk0 hok hK
  go_enter Try.func39, Try.ntmps39
  go_wp2_with fail
  rw [← HW0.out]
  refine HG.out.mono ?_
  rintro e w1 ⟨A3, c3, to_, rfl, a1, a2, a3, a4, hb1⟩
  have z1' : w.heap.size < w1.heap.size := Nat.lt_of_lt_of_le Hk0.out.lt hb1.size
  obtain ⟨W2, hW2⟩ : ∃ W, W = w1.alloc (.cells #[.int .u8 K, .slice A3 N c3] 132) := ⟨_, rfl⟩
  have hb2 : Below w1.heap.size w1 W2 := by rw [hW2]; exact (Below.refl _ _).alloc (Nat.le_refl _) _
  have Hk2 := Lib.hid ((Hk0.out.below hb1 Hk0.out.lt).below hb2 z1')
  have HB2 := Lib.hid (below_then (below_then Hb0.out hb1) hb2)
  have hkf : Bk W2 w1.heap.size 132 #[.int .u8 K, .slice A3 N c3] := by rw [hW2]; exact Bk.new w1 _ _
  have kf0 : W2.cell? ⟨w1.heap.size, 0, none⟩ = some (.int .u8 K) := hkf.cell 0
  have kf1 : W2.cell? ⟨w1.heap.size, 1, none⟩ = some (.slice A3 N c3) := hkf.cell 1
  have HR2 := Lib.hid (Rd.up a3 hb2)
  have HW2 := Lib.hid hW2
  have Hb0s := Lib.hid Hk0.out.lt
  have HA3 := Lib.hid a4
  clear a3 a4 hb1 hb2 hW2 hkf
  go_wp2_with fail
  rw [← HW2.out]
  refine (HU1.out W2 A3 c3 a1 a2 HR2.out).mono ?_
  rintro e w' ⟨rfl, rfl⟩
  go_wp2_with fail
  refine (HU2.out W2 A3 c3 a1 a2 HR2.out).mono ?_
  rintro e w' ⟨rfl, rfl⟩
  go_wp2_with fail
  have hks : ((k2 : Int) ≤ (N : Int)) := by omega
  go_region_held3 (fun w' => w'.cell? ⟨w1.heap.size, 0, none⟩ = some (.int .u8 K) ∧ w'.cell? ⟨w1.heap.size, 1, none⟩ = some (.slice A3 N c3)) (first | exact ⟨kf0, kf1⟩ | go_keep) (fail)
  obtain ⟨Ax, nx, cx, hAx, hnx, hcx⟩ : ∃ Ax nx cx, Ax = (if c3 = k2 then A3 else Option.map (fun x => x.add k2) A3) ∧ nx = N - k2 ∧ cx = c3 - k2 := ⟨_, _, _, rfl, rfl, rfl⟩
  rw [← hAx, ← hnx, ← hcx]
  have hrd := HR2.out.tail7 a1 hk2N
  rw [← hAx, ← hnx] at hrd
  have HAx : Hid (0 < nx → ∀ b o, Ax = some ⟨b, o, none⟩ → w.heap.size < b) := by
    refine Lib.hid fun hpos b o e => ?_
    obtain ⟨b3, o3, hA3, _, _⟩ := HR2.out.2 (by omega)
    have hq : Option.map (fun x => x.add k2) (some (⟨b3, o3, none⟩ : Addr)) = some ⟨b3, o3 + k2, none⟩ := by simp [Addr.add]
    rw [hAx, if_neg (by omega), hA3, hq] at e
    injection e with e
    injection e with e1 _ _
    exact Nat.lt_of_lt_of_le Hb0s.out (by rw [← e1]; exact HA3.out b3 o3 hA3)
  have hcap1 : nx ≤ cx := by omega
  have hcap2 : cx ≤ 9223372036854775807 := by omega
  obtain ⟨W3, hW3⟩ : ∃ W, W = (W2.alloc (.cells #[.int .u64 (v1 : Int), .int .u64 (v2 : Int), .bool kb, .slice Ax nx cx] 60)).drew := ⟨_, rfl⟩
  rw [← hW3]
  have hb3 : Below W2.heap.size W2 W3 := by rw [hW3]; exact ((Below.refl W2.heap.size W2).alloc (Nat.le_refl _) _).drew
  have hk3 : Bk W3 W2.heap.size 60 #[.int .u64 (v1 : Int), .int .u64 (v2 : Int), .bool kb, .slice Ax nx cx] := by rw [hW3]; exact Bk.new W2 60 _
  have Hk3 := Lib.hid hk3
  have HR3 := Lib.hid (Rd.up hrd hb3)
  have HB3 := Lib.hid (below_then HB2.out hb3)
  have Hk3r := Lib.hid (Hk2.out.below hb3 Hk2.out.lt)
  have g0 : W3.cell? ⟨W2.heap.size, 0, none⟩ = some (.int .u64 (v1 : Int)) := hk3.cell 0
  have g1 : W3.cell? ⟨W2.heap.size, 1, none⟩ = some (.int .u64 (v2 : Int)) := hk3.cell 1
  have g2 : W3.cell? ⟨W2.heap.size, 2, none⟩ = some (.bool kb) := hk3.cell 2
  have g3 : W3.cell? ⟨W2.heap.size, 3, none⟩ = some (.slice Ax nx cx) := hk3.cell 3
  have Hend : Hid (∀ W1 u0 u1 u2 u3, Bk W1 w.heap.size 60 #[.int .u64 0, .int .u64 0, .bool false, .slice none 0 0] → Bk ((((W1.setCell ⟨w.heap.size, 0, none⟩ u0).setCell ⟨w.heap.size, 1, none⟩ u1).setCell ⟨w.heap.size, 2, none⟩ u2).setCell ⟨w.heap.size, 3, none⟩ u3) w.heap.size 60 #[u0, u1, u2, u3] ∧ W1.grownBy ((((W1.setCell ⟨w.heap.size, 0, none⟩ u0).setCell ⟨w.heap.size, 1, none⟩ u1).setCell ⟨w.heap.size, 2, none⟩ u2).setCell ⟨w.heap.size, 3, none⟩ u3) (some w.heap.size)) :=
    Lib.hid fun W1 v0 v1 v2 v3 h => ⟨by have := (((h.set_ 0 v0).set_ 1 v1).set_ 2 v2).set_ 3 v3; simpa using this, grown_trans (grown_trans (grown_trans (grown_set _ _ _ _) (grown_set _ _ _ _)) (grown_set _ _ _ _)) (grown_set _ _ _ _)⟩
  have HY := HBy.out W3 Ax nx cx hcap1 hcap2 HR3.out
  have hzero : ∀ w', Below w.heap.size w w' → ¬ (rr = true ∧ BS = l) → ∃ A' n' c', Ending.returned (.tuple #[.agg #[.int .u64 0, .int .u64 0, .bool false, .slice none 0 0], .int .i64 11]) = .returned (.tuple #[sgV SS (.slice A' n' c'), .int .i64 EE]) ∧ n' ≤ c' ∧ c' ≤ 9223372036854775807 ∧ Rd w' w'.heap.size A' n' BD ∧ (0 < n' → ∀ b o, A' = some ⟨b, o, none⟩ → w.heap.size < b) ∧ Below w.heap.size w w' := by
    intro w' hb hne
    rw [← HSS.out, ← HEE.out, ← HBD.out, if_neg hne, if_neg hne, if_neg hne]
    exact ⟨none, 0, 0, rfl, Nat.le_refl _, by omega, Rd.nil _ _ _, fun h => absurd h (by omega), hb⟩
  have Hzero := Lib.hid hzero
  clear hzero HBy hb3 hk3 hrd hAx hnx hcx hW3 kf0 kf1 hks hk2N a1 a2 hkK hbs hri
  cases rr with
  | false =>
    simp only [Bool.false_eq_true, if_false] at HY
    replace HY := Lib.hid HY
    go_wp2_with fail
    refine HY.out.mono ?_
    rintro e w4 ⟨v, rfl, ho4, hb4⟩
    have HB4 := Lib.hid (below_then HB3.out hb4)
    have Hk4 := Lib.hid (Hk3r.out.below hb4 Hk3r.out.lt)
    have f0 : w4.cell? ⟨w.heap.size, 0, none⟩ = some (.int .u64 0) := Hk4.out.cell 0
    have z0 : w4.frozen? ⟨w.heap.size, 0, none⟩ = false := Hk4.out.frozen 0
    have f1 : w4.cell? ⟨w.heap.size, 1, none⟩ = some (.int .u64 0) := Hk4.out.cell 1
    have z1 : w4.frozen? ⟨w.heap.size, 1, none⟩ = false := Hk4.out.frozen 1
    have f2 : w4.cell? ⟨w.heap.size, 2, none⟩ = some (.bool false) := Hk4.out.cell 2
    have z2 : w4.frozen? ⟨w.heap.size, 2, none⟩ = false := Hk4.out.frozen 2
    have f3 : w4.cell? ⟨w.heap.size, 3, none⟩ = some (.slice none 0 0) := Hk4.out.cell 3
    have z3 : w4.frozen? ⟨w.heap.size, 3, none⟩ = false := Hk4.out.frozen 3
    clear ho4 hb4 g0 g1 g2 g3
    go_wp2
    obtain ⟨hk5, hgr⟩ := Hend.out w4 (.int .u64 0) (.int .u64 0) (.bool false) (.slice none 0 0) Hk4.out
    have HB5 := Lib.hid (HB4.out.trans (below_of_grown hgr HB4.out.size (Nat.le_refl _)))
    generalize (((w4.setCell ⟨w.heap.size, 0, none⟩ (.int .u64 0)).setCell ⟨w.heap.size, 1, none⟩ (.int .u64 0)).setCell ⟨w.heap.size, 2, none⟩ (.bool false)).setCell ⟨w.heap.size, 3, none⟩ (.slice none 0 0) = w11 at *
    have j0 : w11.cell? ⟨w.heap.size, 0, none⟩ = some (.int .u64 0) := hk5.cell 0
    have j1 : w11.cell? ⟨w.heap.size, 1, none⟩ = some (.int .u64 0) := hk5.cell 1
    have j2 : w11.cell? ⟨w.heap.size, 2, none⟩ = some (.bool false) := hk5.cell 2
    have j3 : w11.cell? ⟨w.heap.size, 3, none⟩ = some (.slice none 0 0) := hk5.cell 3
    refine bodyPost_ret (by simp [results, Try.results39, go_sem, j0, j1, j2, j3]; try rfl) rfl ?_
    exact Hzero.out w11 HB5.out (by simp)
  | true =>
    simp only [if_true] at HY
    replace HY := Lib.hid HY
    by_cases hbl : BS = l
    · go_wp2_with fail
      refine HY.out.mono ?_
      rintro e w4 ⟨v, rfl, ho4, hb4⟩
      have HB4 := Lib.hid (below_then HB3.out hb4)
      have Hk4 := Lib.hid (Hk3r.out.below hb4 Hk3r.out.lt)
      have Hk4g := Lib.hid (Hk3.out.below hb4 Hk3.out.lt)
      have HR4 := Lib.hid (HR3.out.up hb4)
      obtain ⟨Av, cv, rfl, _, _⟩ := own_shape ho4
      have q1 : (convert 32 9 (.slice Av BS.length cv)).run Try.prog w4 = .ok (.string ⟨l.toArray⟩) w4 := by
        have := (Rd.of_own ho4).str Try.underlying32 Try.underlying5 Try.underlying9 cv
        rw [← hbl]
        exact this
      have q2 := (HA.out w4 HB4.out).str Try.underlying32 Try.underlying5 Try.underlying9 c
      replace g0 : w4.cell? ⟨W2.heap.size, 0, none⟩ = some (.int .u64 (v1 : Int)) := Hk4g.out.cell 0
      replace g1 : w4.cell? ⟨W2.heap.size, 1, none⟩ = some (.int .u64 (v2 : Int)) := Hk4g.out.cell 1
      replace g2 : w4.cell? ⟨W2.heap.size, 2, none⟩ = some (.bool kb) := Hk4g.out.cell 2
      replace g3 : w4.cell? ⟨W2.heap.size, 3, none⟩ = some (.slice Ax nx cx) := Hk4g.out.cell 3
      have f0 : w4.cell? ⟨w.heap.size, 0, none⟩ = some (.int .u64 0) := Hk4.out.cell 0
      have z0 : w4.frozen? ⟨w.heap.size, 0, none⟩ = false := Hk4.out.frozen 0
      have f1 : w4.cell? ⟨w.heap.size, 1, none⟩ = some (.int .u64 0) := Hk4.out.cell 1
      have z1 : w4.frozen? ⟨w.heap.size, 1, none⟩ = false := Hk4.out.frozen 1
      have f2 : w4.cell? ⟨w.heap.size, 2, none⟩ = some (.bool false) := Hk4.out.cell 2
      have z2 : w4.frozen? ⟨w.heap.size, 2, none⟩ = false := Hk4.out.frozen 2
      have f3 : w4.cell? ⟨w.heap.size, 3, none⟩ = some (.slice none 0 0) := Hk4.out.cell 3
      have z3 : w4.frozen? ⟨w.heap.size, 3, none⟩ = false := Hk4.out.frozen 3
      have Hbl := Lib.hid hbl
      clear ho4 hb4 hbl
      go_wp2
      obtain ⟨hk5, hgr⟩ := Hend.out w4 (.int .u64 (v1 : Int)) (.int .u64 (v2 : Int)) (.bool kb) (.slice Ax nx cx) Hk4.out
      have HB5 := Lib.hid (HB4.out.trans (below_of_grown hgr HB4.out.size (Nat.le_refl _)))
      have HR5 := Lib.hid ((HR4.out.grown7 hgr (Nat.le_refl _) (fun hn b o hA => by have := HAx.out hn b o hA; omega)).more hgr.size)
      generalize (((w4.setCell ⟨w.heap.size, 0, none⟩ (.int .u64 (v1 : Int))).setCell ⟨w.heap.size, 1, none⟩ (.int .u64 (v2 : Int))).setCell ⟨w.heap.size, 2, none⟩ (.bool kb)).setCell ⟨w.heap.size, 3, none⟩ (.slice Ax nx cx) = w11 at *
      have j0 : w11.cell? ⟨w.heap.size, 0, none⟩ = some (.int .u64 (v1 : Int)) := hk5.cell 0
      have j1 : w11.cell? ⟨w.heap.size, 1, none⟩ = some (.int .u64 (v2 : Int)) := hk5.cell 1
      have j2 : w11.cell? ⟨w.heap.size, 2, none⟩ = some (.bool kb) := hk5.cell 2
      have j3 : w11.cell? ⟨w.heap.size, 3, none⟩ = some (.slice Ax nx cx) := hk5.cell 3
      refine bodyPost_ret (by simp [results, Try.results39, go_sem, j0, j1, j2, j3]; try rfl) rfl ?_
      have e1 : SS = ⟨v1, v2, kb, f.2.drop k2⟩ := by rw [← HSS.out, if_pos ⟨by simp, Hbl.out⟩]
      have e2 : EE = 0 := by rw [← HEE.out, if_pos ⟨by simp, Hbl.out⟩]
      have e3 : BD = f.2.drop k2 := by rw [← HBD.out, if_pos ⟨by simp, Hbl.out⟩]
      rw [e1, e2, e3]
      exact ⟨Ax, nx, cx, rfl, hcap1, hcap2, HR5.out, HAx.out, HB5.out⟩
    · have hb1 : (BS == l) = false := by simpa using hbl
      have hb2 : (BS != l) = true := by simpa using hbl
      go_wp2_with fail
      refine HY.out.mono ?_
      rintro e w4 ⟨v, rfl, ho4, hb4⟩
      have HB4 := Lib.hid (below_then HB3.out hb4)
      have Hk4 := Lib.hid (Hk3r.out.below hb4 Hk3r.out.lt)
      obtain ⟨Av, cv, rfl, _, _⟩ := own_shape ho4
      have q1 := (Rd.of_own ho4).str Try.underlying32 Try.underlying5 Try.underlying9 cv
      have q2 := (HA.out w4 HB4.out).str Try.underlying32 Try.underlying5 Try.underlying9 c
      have f0 : w4.cell? ⟨w.heap.size, 0, none⟩ = some (.int .u64 0) := Hk4.out.cell 0
      have z0 : w4.frozen? ⟨w.heap.size, 0, none⟩ = false := Hk4.out.frozen 0
      have f1 : w4.cell? ⟨w.heap.size, 1, none⟩ = some (.int .u64 0) := Hk4.out.cell 1
      have z1 : w4.frozen? ⟨w.heap.size, 1, none⟩ = false := Hk4.out.frozen 1
      have f2 : w4.cell? ⟨w.heap.size, 2, none⟩ = some (.bool false) := Hk4.out.cell 2
      have z2 : w4.frozen? ⟨w.heap.size, 2, none⟩ = false := Hk4.out.frozen 2
      have f3 : w4.cell? ⟨w.heap.size, 3, none⟩ = some (.slice none 0 0) := Hk4.out.cell 3
      have z3 : w4.frozen? ⟨w.heap.size, 3, none⟩ = false := Hk4.out.frozen 3
      clear ho4 hb4 g0 g1 g2 g3
      go_wp2
      obtain ⟨hk5, hgr⟩ := Hend.out w4 (.int .u64 0) (.int .u64 0) (.bool false) (.slice none 0 0) Hk4.out
      have HB5 := Lib.hid (HB4.out.trans (below_of_grown hgr HB4.out.size (Nat.le_refl _)))
      generalize (((w4.setCell ⟨w.heap.size, 0, none⟩ (.int .u64 0)).setCell ⟨w.heap.size, 1, none⟩ (.int .u64 0)).setCell ⟨w.heap.size, 2, none⟩ (.bool false)).setCell ⟨w.heap.size, 3, none⟩ (.slice none 0 0) = w11 at *
      have j0 : w11.cell? ⟨w.heap.size, 0, none⟩ = some (.int .u64 0) := hk5.cell 0
      have j1 : w11.cell? ⟨w.heap.size, 1, none⟩ = some (.int .u64 0) := hk5.cell 1
      have j2 : w11.cell? ⟨w.heap.size, 2, none⟩ = some (.bool false) := hk5.cell 2
      have j3 : w11.cell? ⟨w.heap.size, 3, none⟩ = some (.slice none 0 0) := hk5.cell 3
      refine bodyPost_ret (by simp [results, Try.results39, go_sem, j0, j1, j2, j3]; try rfl) rfl ?_
      exact Hzero.out w11 HB5.out (by simp [hbl])

theorem rparse_any (A : Option Addr) (n c : Nat) (l : List UInt8) (w : World) (hc : n ≤ c) (hn : n ≤ 140737488355328) (hm : c ≤ 9223372036854775807) (h : Rd w w.heap.size A n l) :
    Calls Try.prog 39 #[.slice A n c] w fun e w' => ∃ A' n' c', e = .returned (.tuple #[sgV (parseS l).1 (.slice A' n' c'), .int .i64 ((parseS l).2 : Int)]) ∧ n' ≤ c' ∧ c' ≤ 9223372036854775807 ∧ Rd w' w'.heap.size A' n' (parseS l).1.body ∧ (0 < n' → ∀ b o, A' = some ⟨b, o, none⟩ → w.heap.size < b) ∧ Below w.heap.size w w' := by
  have hbad : ∀ E, parseS l = (Sg.zero, E) → ((getF l = .error E) ∨ (∃ f k, getF l = .ok (f, k) ∧ E = 11 ∧ ((∃ e : Nat, 1 ≤ e ∧ uintAt f.2 0 = (0, 0, (e : Int))) ∨ (∃ v k e : Nat, 1 ≤ e ∧ uintAt f.2 0 = ((v : Int), (k : Int), 0) ∧ uintAt f.2 (k : Int) = (0, 0, (e : Int)))))) → Calls Try.prog 39 #[.slice A n c] w fun e w' => ∃ A' n' c', e = .returned (.tuple #[sgV (parseS l).1 (.slice A' n' c'), .int .i64 ((parseS l).2 : Int)]) ∧ n' ≤ c' ∧ c' ≤ 9223372036854775807 ∧ Rd w' w'.heap.size A' n' (parseS l).1.body ∧ (0 < n' → ∀ b o, A' = some ⟨b, o, none⟩ → w.heap.size < b) ∧ Below w.heap.size w w' := by
    intro E hp hx
    rw [hp]
    refine (rparse_err A n c l E w hc hn hm h hx).mono ?_
    rintro e w' ⟨rfl, hb⟩
    exact ⟨none, 0, 0, rfl, Nat.le_refl _, by omega, Rd.nil _ _ _, fun h => absurd h (by omega), hb⟩
  cases hg : getF l with
  | error e => exact hbad e (by unfold parseS; rw [hg]) (.inl hg)
  | ok x =>
    obtain ⟨f, k⟩ := x
    have hk := getF_le hg
    rcases uintAt_shift f.2 0 (by omega) (Nat.zero_le _) with ⟨v1, k1, q1, _, hk1, hk1l, hv1⟩ | ⟨e, q1, _, he1, _⟩
    · rw [List.drop_zero] at q1
      have n1 : nextU f.2 0 = (v1, f.2.drop k1, 0) := by
        unfold nextU
        rw [if_neg (by simp), q1, if_neg (by simp)]
        simp
      rcases uintAt_shift f.2 k1 (by omega) (by omega) with ⟨v2, k2, p1, p2, _, hk2l, hv2⟩ | ⟨e, p1, p2, he1, _⟩
      · have n2 : nextU (f.2.drop k1) 0 = (v2, f.2.drop (k1 + k2), 0) := by
          unfold nextU
          rw [if_neg (by simp), p1, if_neg (by simp)]
          simp [List.drop_drop]
        have hp := parseS_d hg n1 n2
        refine (rparse_d A n c l f k v1 k1 v2 (k1 + k2) w hc hn hm h hg q1 p2 hk2l hv1 hv2).mono ?_
        rintro e w' ⟨A', n', c', rfl, b1, b2, b3, b4, b5⟩
        rw [hp]
        by_cases hcd : Sg.right ⟨v1, v2, f.1 == 4, f.2.drop (k1 + k2)⟩ = true ∧ bytesS ⟨v1, v2, f.1 == 4, f.2.drop (k1 + k2)⟩ = l
        · rw [if_pos hcd] at b3 ⊢
          rw [if_pos hcd, if_pos hcd]
          exact ⟨A', n', c', rfl, b1, b2, b3, b4, b5⟩
        · rw [if_neg hcd] at b3 ⊢
          rw [if_neg hcd, if_neg hcd]
          exact ⟨A', n', c', rfl, b1, b2, b3, b4, b5⟩
      · refine hbad 11 (parseS_e hg ?_) (.inr ⟨f, k, hg, rfl, .inr ⟨v1, k1, e, he1, q1, p2⟩⟩)
        have n2 : nextU (f.2.drop k1) 0 = (0, [], e) := by
          unfold nextU
          rw [if_neg (by simp), p1, if_pos (show (e : Int) ≠ 0 by omega)]
          simp
        rw [n1]
        simp only [n2]
        omega
    · rw [List.drop_zero] at q1
      refine hbad 11 (parseS_e hg ?_) (.inr ⟨f, k, hg, rfl, .inl ⟨e, he1, q1⟩⟩)
      have n1 : nextU f.2 0 = (0, [], e) := by
        unfold nextU
        rw [if_neg (by simp), q1, if_pos (show (e : Int) ≠ 0 by omega)]
        simp
      rw [n1]
      simp only
      rw [nextU_err (by omega)]
      simp only
      omega
end Go.Proofs.Ytfghbhjljbdlmaa
