/- SessSegs is true at every segment and all bytes. -/
import Derived.Test.YtfghbhjljbdlmaaM1SesJ
import Derived.Test.YtfghbhjljbdlmaaM1Same
namespace Go.Proofs.Ytfghbhjljbdlmaa
open Go.ChangeShapes Go.WideShapes Go.ChangeAt Go.RowKit

theorem sbytes_any (s : Sg) (hok : s.Ok) (A : Option Addr) (n c : Nat) (w : World) (hc : n ≤ c) (hm : c ≤ 9223372036854775807) (h : Rd w w.heap.size A n s.body) :
    Calls Try.prog 36 #[sgV s (.slice A n c)] w fun e w' => ∃ v, e = .returned (.tuple #[v, .int .i64 (if s.right then 0 else 2)]) ∧ w'.ownsRow w.heap.size 5 1 v (if s.right then bytesS s else []).length (u8s (if s.right then bytesS s else [])) ∧ Below w.heap.size w w' := by
  cases hr : s.right with
  | true => exact sbytes_ok s hok hr A n c w hc hm h
  | false =>
    refine (sbytes_bad s hr A n c w h.1).mono ?_
    rintro e w' ⟨rfl, hb⟩
    exact ⟨_, rfl, World.ownsRow_nil _ _ _ _, hb⟩

set_option maxHeartbeats 8000000 in
set_option maxRecDepth 100000 in
theorem sessSegs_walk (x : Gs) (A : Option Addr) (n c : Nat) (l : List UInt8) (w : World) (hx : x.Ok w w.heap.size) (hc : n ≤ c) (hm : c ≤ 9223372036854775807) (hA : Rd w w.heap.size A n l) :
    Calls Try.prog 9 #[x.v, .slice A n c] w fun e w' => e = .returned (.bool true) ∧ Below w.heap.size w w' := by
  have HKn := Lib.hid sknown_any
  obtain ⟨S, SA, sn, sc⟩ := x
  have hok : S.Ok := hx.ok
  have hcap : sn ≤ sc ∧ sc ≤ 9223372036854775807 := hx.cap
  have hrs : Rd w w.heap.size SA sn S.body := hx.body
  have hv : Gs.v ⟨S, SA, sn, sc⟩ = sgV S (.slice SA sn sc) := rfl
  rw [hv]
  obtain ⟨w1, hw1⟩ : ∃ w1, w1 = w.alloc (.cells (sgA S (.slice SA sn sc)) 60) := ⟨_, rfl⟩
  have hb1 : Below w.heap.size w w1 := by rw [hw1]; exact (Below.refl _ _).alloc (Nat.le_refl _) _
  have hk1 : Bk w1 w.heap.size 60 (sgA S (.slice SA sn sc)) := by rw [hw1]; exact Bk.new w 60 _
  have HLo := Lib.hid (slong_any S SA sn sc w1)
  obtain ⟨P, pe, hP⟩ : ∃ P pe, parseS l = (P, pe) := ⟨_, _, rfl⟩
  have hln := hA.1
  have hsn := hrs.1
  have HL1 : n ≤ 4000 → Hid (∀ W, Below w.heap.size w W → Calls Try.prog 34 #[.slice A n c] W fun e w' => ∃ g cap, e = .returned (.slice (some ⟨g, 0, none⟩) n cap) ∧ n ≤ cap ∧ cap ≤ 9223372036854775807 ∧ w'.ownsRow W.heap.size 5 1 (.slice (some ⟨g, 0, none⟩) (n + 2) cap) (n + 2) (u8s (l ++ [91, 92])) ∧ Below W.heap.size W w') := by
    refine fun h4 => Lib.hid fun W hb => (lent_any A n c W.heap.size l W (by omega) (hA.up hb)).mono ?_
    rintro e w' ⟨g, cap, rfl, ho, hb⟩
    obtain ⟨A2, c2, e2, h1, h2⟩ := own_shape ho
    injection e2 with _ _ e2
    subst e2
    exact ⟨g, cap, rfl, by omega, by unfold maxLen at h2; omega, ho, hb⟩
  have HL2 : sn ≤ 3000 → Hid (∀ W, Below w.heap.size w W → Calls Try.prog 34 #[.slice SA sn sc] W fun e w' => ∃ g cap, e = .returned (.slice (some ⟨g, 0, none⟩) sn cap) ∧ sn ≤ cap ∧ cap ≤ 9223372036854775807 ∧ w'.ownsRow W.heap.size 5 1 (.slice (some ⟨g, 0, none⟩) (sn + 2) cap) (sn + 2) (u8s (S.body ++ [91, 92])) ∧ Below W.heap.size W w') := by
    refine fun h4 => Lib.hid fun W hb => (lent_any SA sn sc W.heap.size S.body W (by omega) (hrs.up hb)).mono ?_
    rintro e w' ⟨g, cap, rfl, ho, hb⟩
    obtain ⟨A2, c2, e2, h1, h2⟩ := own_shape ho
    injection e2 with _ _ e2
    subst e2
    exact ⟨g, cap, rfl, by omega, by unfold maxLen at h2; omega, ho, hb⟩
  have HCp : sn ≤ 3000 → Hid (∀ W A1 c1, Rd W W.heap.size A1 sn S.body → Calls Try.prog 35 #[.slice A1 sn c1] W fun e w' => ∃ A2 c2, e = .returned (.slice A2 sn c2) ∧ Rd w' w'.heap.size A2 sn S.body ∧ Below W.heap.size W w') := by
    refine fun h4 => Lib.hid fun W A1 c1 h => (copy_any A1 sn c1 W.heap.size S.body W (by omega) h).mono ?_
    rintro e w' ⟨v, rfl, ho, hb⟩
    obtain ⟨A2, c2, rfl, _, _⟩ := own_shape ho
    exact ⟨A2, c2, rfl, Rd.of_own ho, hb⟩
  have HBp : Hid (∀ W A1 n1 c1, n1 ≤ c1 → c1 ≤ 9223372036854775807 → Rd W W.heap.size A1 n1 S.body → Calls Try.prog 36 #[sgV S (.slice A1 n1 c1)] W fun e w' => ∃ v, e = .returned (.tuple #[v, .int .i64 (if S.right then 0 else 2)]) ∧ w'.ownsRow W.heap.size 5 1 v (if S.right then bytesS S else []).length (u8s (if S.right then bytesS S else [])) ∧ Below W.heap.size W w') :=
    Lib.hid fun W A1 n1 c1 h1 h2 h3 => sbytes_any S hok A1 n1 c1 W h1 h2 h3
  have HBr : Hid (∀ W A1 n1 c1, n1 ≤ c1 → c1 ≤ 9223372036854775807 → Rd W W.heap.size A1 n1 S.body → Calls Try.prog 37 #[sgV S (.slice A1 n1 c1)] W fun e w' => ∃ v, e = .returned (.tuple #[v, .int .i64 (if S.right then 0 else 2)]) ∧ w'.ownsRow W.heap.size 5 1 v (if S.right then bytesS S else []).length (u8s (if S.right then bytesS S else [])) ∧ Below W.heap.size W w') :=
    Lib.hid fun W A1 n1 c1 h1 h2 h3 => rbytes_any S hok A1 n1 c1 W h1 h2 h3
  have HPp : n ≤ 4000 → Hid (∀ W A1 c1, n ≤ c1 → c1 ≤ 9223372036854775807 → Rd W W.heap.size A1 n l → Calls Try.prog 38 #[.slice A1 n c1] W fun e w' => ∃ A' n' c', e = .returned (.tuple #[sgV P (.slice A' n' c'), .int .i64 (pe : Int)]) ∧ Rd w' w'.heap.size A' n' P.body ∧ (0 < n' → ∀ b o, A' = some ⟨b, o, none⟩ → W.heap.size < b) ∧ Below W.heap.size W w') := by
    refine fun h4 => Lib.hid fun W A1 c1 h1 h2 h3 => ?_
    have := sparse_any A1 n c1 l W h1 (by omega) h2 h3
    rw [hP] at this
    refine this.mono ?_
    rintro e w' ⟨A', n', c', rfl, _, _, a3, a4, a5⟩
    exact ⟨A', n', c', rfl, a3, a4, a5⟩
  have HPr : n ≤ 4000 → Hid (∀ W, Below w.heap.size w W → Calls Try.prog 39 #[.slice A n c] W fun e w' => ∃ A' n' c', e = .returned (.tuple #[sgV P (.slice A' n' c'), .int .i64 (pe : Int)]) ∧ Rd w' w'.heap.size A' n' P.body ∧ (0 < n' → ∀ b o, A' = some ⟨b, o, none⟩ → W.heap.size < b) ∧ Below W.heap.size W w') := by
    refine fun h4 => Lib.hid fun W hb => ?_
    have := rparse_any A n c l W hc (by omega) hm (hA.up hb)
    rw [hP] at this
    refine this.mono ?_
    rintro e w' ⟨A', n', c', rfl, _, _, a3, a4, a5⟩
    exact ⟨A', n', c', rfl, a3, a4, a5⟩
  have HSa : Hid (∀ W A1 n1 c1 A2 n2 c2 ls, Rd W W.heap.size A1 n1 ls → Rd W W.heap.size A2 n2 ls → Calls Try.prog 40 #[.slice A1 n1 c1, .slice A2 n2 c2] W fun e w' => e = .returned (.bool true) ∧ W = w') := by
    refine Lib.hid fun W A1 n1 c1 A2 n2 c2 ls h1 h2 => ?_
    have := same_any A1 A2 n1 n2 c1 c2 W.heap.size W.heap.size ls ls W h1 h2
    rwa [show (ls == ls) = true by simp] at this
  have HSS : Hid (∀ W A1 n1 c1 A2 n2 c2, Rd W W.heap.size A1 n1 P.body → Rd W W.heap.size A2 n2 P.body → Calls Try.prog 41 #[sgV P (.slice A1 n1 c1), sgV P (.slice A2 n2 c2)] W fun e w' => e = .returned (.bool true) ∧ Below W.heap.size W w') := by
    refine Lib.hid fun W A1 n1 c1 A2 n2 c2 h1 h2 => ?_
    have := sSame_any P P A1 A2 n1 c1 n2 c2 W h1 h2
    rwa [sameSg_self] at this
  have HW1 := Lib.hid hw1
  have HB1 := Lib.hid hb1
  have HK1 := Lib.hid hk1
  have HAw : Hid (∀ W, Below w.heap.size w W → Rd W W.heap.size A n l) := Lib.hid fun W hb => hA.up hb
  generalize (if S.right then bytesS S else []) = bs at *
  generalize (if S.right then (0 : Int) else 2) = ex at *
  unfold sgV at HLo HBp HBr HPp HPr HSS ⊢
  unfold sgA at HW1 HK1
  obtain ⟨sl, ss, sa, sb⟩ := S
  obtain ⟨pl, ps, pa, pb⟩ := P
  dsimp only at HLo HL2 HCp HBp HBr HPp HPr HSS HW1 HK1 hsn ⊢
  obtain ⟨bn, hbn⟩ : ∃ bn, bn = bs.length := ⟨_, rfl⟩
  rw [← hbn] at HBp HBr
  clear hx hok hcap hrs hv hb1 hk1 hw1 hA hP hbn
  have k0 : w1.cell? ⟨w.heap.size, 0, none⟩ = some (.int .u64 (sl : Int)) := HK1.out.cell 0
  have k1 : w1.cell? ⟨w.heap.size, 1, none⟩ = some (.int .u64 (ss : Int)) := HK1.out.cell 1
  have k2 : w1.cell? ⟨w.heap.size, 2, none⟩ = some (.bool sa) := HK1.out.cell 2
  have k3 : w1.cell? ⟨w.heap.size, 3, none⟩ = some (.slice SA sn sc) := HK1.out.cell 3
  by_cases hbig : 3000 < sn ∨ 4000 < n
  · have hor : (3000 < sn) ∨ (¬ 3000 < sn ∧ (4000 : Int) < (n : Int)) := by omega
    clear HL1 HL2 HCp HPp HPr hbig
    rcases hor with hbig1 | ⟨hbig1, hbig2⟩
    all_goals
      first | rw [decide_eq_true hbig1] at HLo | rw [decide_eq_false hbig1] at HLo
      go_enter Try.func9, Try.ntmps9
      go_wp2_with fail
      rw [← HW1.out]
      refine HLo.out.mono ?_
      rintro e w2 ⟨rfl, hb2⟩
      have HB2 := Lib.hid (below_then HB1.out hb2)
      clear hb2 k0 k1 k2 k3
      go_wp2_with fail
      refine (HKn.out w2).mono ?_
      rintro e w3 ⟨rfl, hb3⟩
      have HB3 := Lib.hid (below_then HB2.out hb3)
      clear hb3
      go_wp2
      go_ret
      exact ⟨rfl, HB3.out⟩
  · have hs1 : ¬ 3000 < sn := fun h => hbig (.inl h)
    have hs2 : n ≤ 4000 := by omega
    have hs3 : ¬ (4000 : Int) < (n : Int) := by omega
    have hs4 : sn ≤ 3000 := by omega
    rw [decide_eq_false hs1] at HLo
    replace HL1 := HL1 hs2
    replace HL2 := HL2 hs4
    replace HCp := HCp hs4
    replace HPp := HPp hs2
    replace HPr := HPr hs2
    have Hs2 := Lib.hid hs2
    have Hs4 := Lib.hid hs4
    have Hln := Lib.hid hln
    have Hsn := Lib.hid hsn
    clear hbig hs1 hs2 hs4 hln hsn
    go_enter Try.func9, Try.ntmps9
    go_wp2_with fail
    rw [← HW1.out]
    refine HLo.out.mono ?_
    rintro e w2 ⟨rfl, hb2⟩
    have HB2 := Lib.hid (below_then HB1.out hb2)
    have HK2 := Lib.hid (HK1.out.below hb2 HK1.out.lt)
    have Hz2 := Lib.hid HK2.out.lt
    clear hb2 k0 k1 k2 k3
    go_wp2_with fail
    refine (HL1.out w2 HB2.out).mono ?_
    rintro e w3 ⟨g1, cap1, rfl, hx1, hx2, hox, hb3⟩
    have HB3 := Lib.hid (below_then HB2.out hb3)
    have HK3 := Lib.hid (HK2.out.below hb3 HK2.out.lt)
    have HX3 := Lib.hid hox
    have Hg1 : Hid (w.heap.size < g1 ∧ g1 < w3.heap.size) := Lib.hid ⟨Nat.lt_of_lt_of_le HK2.out.lt (hox.lt g1 rfl).1, (hox.lt g1 rfl).2⟩
    have k3 : w3.cell? ⟨w.heap.size, 3, none⟩ = some (.slice SA sn sc) := HK3.out.cell 3
    clear hb3 hox
    go_wp2_with fail
    refine (HL2.out w3 HB3.out).mono ?_
    rintro e w4 ⟨g2, cap2, rfl, hy1, hy2, hoy, hb4⟩
    have HB4 := Lib.hid (below_then HB3.out hb4)
    have HK4 := Lib.hid (HK3.out.below hb4 HK3.out.lt)
    have HX4 := Lib.hid (own_below HX3.out hb4 fun k hk => (HX3.out.lt k hk).2)
    have HY4 := Lib.hid hoy
    have Hg2 : Hid (w3.heap.size ≤ g2 ∧ g2 < w4.heap.size) := Lib.hid (hoy.lt g2 rfl)
    replace k3 : w4.cell? ⟨w.heap.size, 3, none⟩ = some (.slice SA sn sc) := HK4.out.cell 3
    have z3 : w4.frozen? ⟨w.heap.size, 3, none⟩ = false := HK4.out.frozen 3
    have Hgt := Lib.hid HK3.out.lt
    clear hb4 hoy
    go_upto_region 5 with (fail)
    have hgr := grown_set w4 w.heap.size 3 (.slice (some ⟨g2, 0, none⟩) sn cap2)
    have hk5 := HK4.out.set_ 3 (.slice (some ⟨g2, 0, none⟩) sn cap2)
    have hX5 := own_grown HX4.out hgr Hz2.out
    have hY5 := own_grown HY4.out hgr Hgt.out
    have hb5 : Below w.heap.size w (w4.setCell ⟨w.heap.size, 3, none⟩ (.slice (some ⟨g2, 0, none⟩) sn cap2)) := HB4.out.trans (below_of_grown hgr HB4.out.size (Nat.le_refl _))
    have hz5 := hgr.size
    clear hgr k3 z3
    generalize w4.setCell ⟨w.heap.size, 3, none⟩ (.slice (some ⟨g2, 0, none⟩) sn cap2) = w5 at *
    have hk5' : Bk w5 w.heap.size 60 #[.int .u64 (sl : Int), .int .u64 (ss : Int), .bool sa, .slice (some ⟨g2, 0, none⟩) sn cap2] := by simpa using hk5
    have HF : Hid (∀ W, Below w5.heap.size w5 W → Bk W w.heap.size 60 #[.int .u64 (sl : Int), .int .u64 (ss : Int), .bool sa, .slice (some ⟨g2, 0, none⟩) sn cap2] ∧ W.ownsRow w2.heap.size 5 1 (.slice (some ⟨g1, 0, none⟩) (n + 2) cap1) (n + 2) (u8s (l ++ [91, 92])) ∧ W.ownsRow w3.heap.size 5 1 (.slice (some ⟨g2, 0, none⟩) (sn + 2) cap2) (sn + 2) (u8s (sb ++ [91, 92])) ∧ Rd W W.heap.size A n l ∧ Below w.heap.size w W ∧ w4.heap.size ≤ W.heap.size) := by
      refine Lib.hid fun W hb => ⟨hk5'.below hb hk5'.lt, own_below hX5 hb fun k hk => (hX5.lt k hk).2, own_below hY5 hb fun k hk => (hY5.lt k hk).2, HAw.out W (below_then hb5 hb), below_then hb5 hb, Nat.le_trans hz5 hb.size⟩
    have HX : Hid (∀ W, Below w5.heap.size w5 W → Rd W W.heap.size (some ⟨g1, 0, none⟩) n l ∧ Rd W W.heap.size (some ⟨g2, 0, none⟩) sn sb) :=
      Lib.hid fun W hb => ⟨Rd.of_own (lent_own Hln.out (HF.out W hb).2.1), Rd.of_own (lent_own Hsn.out (HF.out W hb).2.2.1)⟩
    have Hd5 : Hid (Below w5.heap.size w5 w5) := Lib.hid (Below.refl _ _)
    clear hX5 hY5 hb5 hz5 hk5 hk5' HX3 HX4 HY4 HK1 HK2 HK3 HK4 HAw HB1 HB2 HB3 HB4
    have k0 : w5.cell? ⟨w.heap.size, 0, none⟩ = some (.int .u64 (sl : Int)) := (HF.out w5 Hd5.out).1.cell 0
    have k1 : w5.cell? ⟨w.heap.size, 1, none⟩ = some (.int .u64 (ss : Int)) := (HF.out w5 Hd5.out).1.cell 1
    have k2 : w5.cell? ⟨w.heap.size, 2, none⟩ = some (.bool sa) := (HF.out w5 Hd5.out).1.cell 2
    have k3 : w5.cell? ⟨w.heap.size, 3, none⟩ = some (.slice (some ⟨g2, 0, none⟩) sn cap2) := (HF.out w5 Hd5.out).1.cell 3
    go_wp2_with fail
    refine (HCp.out w5 (some ⟨g2, 0, none⟩) cap2 (HX.out w5 Hd5.out).2).mono ?_
    rintro e w6 ⟨A6, c6, rfl, r6, hb6⟩
    have Hd6 := Lib.hid hb6
    have HR6 := Lib.hid r6
    clear r6 hb6
    replace k0 : w6.cell? ⟨w.heap.size, 0, none⟩ = some (.int .u64 (sl : Int)) := (HF.out w6 Hd6.out).1.cell 0
    replace k1 : w6.cell? ⟨w.heap.size, 1, none⟩ = some (.int .u64 (ss : Int)) := (HF.out w6 Hd6.out).1.cell 1
    replace k2 : w6.cell? ⟨w.heap.size, 2, none⟩ = some (.bool sa) := (HF.out w6 Hd6.out).1.cell 2
    replace k3 : w6.cell? ⟨w.heap.size, 3, none⟩ = some (.slice (some ⟨g2, 0, none⟩) sn cap2) := (HF.out w6 Hd6.out).1.cell 3
    go_wp2_with fail
    refine (HBp.out w6 (some ⟨g2, 0, none⟩) sn cap2 hy1 hy2 (HX.out w6 Hd6.out).2).mono ?_
    rintro e w7 ⟨vc, rfl, hoc, hb7⟩
    have Hd7 := Lib.hid (below_then Hd6.out hb7)
    have HR7 := Lib.hid (HR6.out.up hb7)
    have Hz67 := Lib.hid hb7.size
    obtain ⟨Ac, cc, rfl, _, _⟩ := own_shape hoc
    have HC7 := Lib.hid hoc
    clear hoc hb7
    replace k0 : w7.cell? ⟨w.heap.size, 0, none⟩ = some (.int .u64 (sl : Int)) := (HF.out w7 Hd7.out).1.cell 0
    replace k1 : w7.cell? ⟨w.heap.size, 1, none⟩ = some (.int .u64 (ss : Int)) := (HF.out w7 Hd7.out).1.cell 1
    replace k2 : w7.cell? ⟨w.heap.size, 2, none⟩ = some (.bool sa) := (HF.out w7 Hd7.out).1.cell 2
    replace k3 : w7.cell? ⟨w.heap.size, 3, none⟩ = some (.slice (some ⟨g2, 0, none⟩) sn cap2) := (HF.out w7 Hd7.out).1.cell 3
    go_wp2_with fail
    refine (HBr.out w7 (some ⟨g2, 0, none⟩) sn cap2 hy1 hy2 (HX.out w7 Hd7.out).2).mono ?_
    rintro e w8 ⟨vd, rfl, hod, hb8⟩
    have Hd8 := Lib.hid (below_then Hd7.out hb8)
    have HR8 := Lib.hid (HR7.out.up hb8)
    have Hz78 := Lib.hid hb8.size
    obtain ⟨Ad, cd, rfl, _, _⟩ := own_shape hod
    have HC8 := Lib.hid (own_below HC7.out hb8 fun k hk => (HC7.out.lt k hk).2)
    have HD8 := Lib.hid hod
    clear hod hb8 k0 k1 k2 k3
    go_wp2_with fail
    refine (HPp.out w8 (some ⟨g1, 0, none⟩) cap1 hx1 hx2 (HX.out w8 Hd8.out).1).mono ?_
    rintro e w9 ⟨At, nt, ct, rfl, rt, lt, hb9⟩
    obtain ⟨w10, hw10⟩ : ∃ W, W = w9.alloc (.cells #[.int .u64 (pl : Int), .int .u64 (ps : Int), .bool pa, .slice At nt ct] 60) := ⟨_, rfl⟩
    have hb10 : Below w9.heap.size w9 w10 := by rw [hw10]; exact (Below.refl _ _).alloc (Nat.le_refl _) _
    have hk10 : Bk w10 w9.heap.size 60 #[.int .u64 (pl : Int), .int .u64 (ps : Int), .bool pa, .slice At nt ct] := by rw [hw10]; exact Bk.new w9 60 _
    have hb810 := below_then hb9 hb10
    have Hd10 := Lib.hid (below_then Hd8.out hb810)
    have HR10 := Lib.hid (HR8.out.up hb810)
    have HC10 := Lib.hid (own_below HC8.out hb810 fun k hk => (HC8.out.lt k hk).2)
    have HD10 := Lib.hid (own_below HD8.out hb810 fun k hk => (HD8.out.lt k hk).2)
    have HT10 := Lib.hid hk10
    have Hrt10 := Lib.hid (Rd.up rt hb10)
    have Hlt := Lib.hid lt
    have Hz89 := Lib.hid hb9.size
    have HW10 := Lib.hid hw10
    clear rt lt hb9 hb10 hk10 hb810 hw10
    go_wp2_with fail
    rw [← HW10.out]
    refine (HPr.out w10 (HF.out w10 Hd10.out).2.2.2.2.1).mono ?_
    rintro e w11 ⟨Au, nu, cu, rfl, ru, lu, hb11⟩
    obtain ⟨w12, hw12⟩ : ∃ W, W = w11.alloc (.cells #[.int .u64 (pl : Int), .int .u64 (ps : Int), .bool pa, .slice Au nu cu] 60) := ⟨_, rfl⟩
    have hb12 : Below w11.heap.size w11 w12 := by rw [hw12]; exact (Below.refl _ _).alloc (Nat.le_refl _) _
    have hk12 : Bk w12 w11.heap.size 60 #[.int .u64 (pl : Int), .int .u64 (ps : Int), .bool pa, .slice Au nu cu] := by rw [hw12]; exact Bk.new w11 60 _
    have hb1012 := below_then hb11 hb12
    have Hd12 := Lib.hid (below_then Hd10.out hb1012)
    have HR12 := Lib.hid (HR10.out.up hb1012)
    have HC12 := Lib.hid (own_below HC10.out hb1012 fun k hk => (HC10.out.lt k hk).2)
    have HD12 := Lib.hid (own_below HD10.out hb1012 fun k hk => (HD10.out.lt k hk).2)
    have HT12 := Lib.hid (HT10.out.below hb1012 HT10.out.lt)
    have HU12 := Lib.hid hk12
    have Hrt12 := Lib.hid (Hrt10.out.up hb1012)
    have Hru12 := Lib.hid (Rd.up ru hb12)
    have Hlu := Lib.hid lu
    have Hz1011 := Lib.hid hb11.size
    have Hz910 : Hid (w9.heap.size < w10.heap.size) := Lib.hid HT10.out.lt
    have HW12 := Lib.hid hw12
    clear ru lu hb11 hb12 hk12 hb1012 hw12 HR6 HR7 HR8 HR10 HC7 HC8 HC10 HD8 HD10 HT10 Hrt10 HW10
    go_upto_region 10 with (fail)
    rw [← HW12.out]
    have t0 : w12.cell? ⟨w9.heap.size, 0, none⟩ = some (.int .u64 (pl : Int)) := HT12.out.cell 0
    have t1 : w12.cell? ⟨w9.heap.size, 1, none⟩ = some (.int .u64 (ps : Int)) := HT12.out.cell 1
    have t2 : w12.cell? ⟨w9.heap.size, 2, none⟩ = some (.bool pa) := HT12.out.cell 2
    have t3 : w12.cell? ⟨w9.heap.size, 3, none⟩ = some (.slice At nt ct) := HT12.out.cell 3
    have u0 : w12.cell? ⟨w11.heap.size, 0, none⟩ = some (.int .u64 (pl : Int)) := HU12.out.cell 0
    have u1 : w12.cell? ⟨w11.heap.size, 1, none⟩ = some (.int .u64 (ps : Int)) := HU12.out.cell 1
    have u2 : w12.cell? ⟨w11.heap.size, 2, none⟩ = some (.bool pa) := HU12.out.cell 2
    have u3 : w12.cell? ⟨w11.heap.size, 3, none⟩ = some (.slice Au nu cu) := HU12.out.cell 3
    have hexx : (ex == ex) = true := by simp
    go_wp2_with fail
    refine (HSa.out w12 Ac bn cc Ad bn cd bs (Rd.of_own HC12.out) (Rd.of_own HD12.out)).mono ?_
    rintro e w' ⟨rfl, rfl⟩
    go_wp2_with fail
    refine (HSS.out w12 At nt ct Au nu cu Hrt12.out Hru12.out).mono ?_
    rintro e w13 ⟨rfl, hb13⟩
    have Hd13 := Lib.hid (below_then Hd12.out hb13)
    have HR13 := Lib.hid (HR12.out.up hb13)
    have HC13 := Lib.hid (own_below HC12.out hb13 fun k hk => (HC12.out.lt k hk).2)
    have HD13 := Lib.hid (own_below HD12.out hb13 fun k hk => (HD12.out.lt k hk).2)
    have HT13 := Lib.hid (HT12.out.below hb13 HT12.out.lt)
    have HU13 := Lib.hid (HU12.out.below hb13 HU12.out.lt)
    have Hrt13 := Lib.hid (Hrt12.out.up hb13)
    have Hru13 := Lib.hid (Hru12.out.up hb13)
    clear hb13 t0 t1 t2 t3 u0 u1 u2 u3 HR12 HC12 HD12 HT12 HU12 Hrt12 Hru12 HW12
    have k3 : w13.cell? ⟨w.heap.size, 3, none⟩ = some (.slice (some ⟨g2, 0, none⟩) sn cap2) := (HF.out w13 Hd13.out).1.cell 3
    have HWh1 := Lib.hid (whole_any g1 cap1 _ n c _ A l w13 (by have := Hs2.out; omega) (HF.out w13 Hd13.out).2.1 (HF.out w13 Hd13.out).2.2.2.1)
    have HWh2 := Lib.hid (whole_any g2 cap2 _ sn c6 _ A6 sb w13 (by have := Hs4.out; omega) (HF.out w13 Hd13.out).2.2.1 HR13.out)
    have HSp1 := Lib.hid (spoil_any g1 n cap1 _ l w13 (by have := Hs2.out; omega) (lent_own Hln.out (HF.out w13 Hd13.out).2.1))
    go_wp2_with fail
    refine HWh1.out.mono ?_
    rintro e w' ⟨rfl, rfl⟩
    go_wp2_with fail
    refine HWh2.out.mono ?_
    rintro e w' ⟨rfl, rfl⟩
    go_wp2_with fail
    refine HSp1.out.mono ?_
    rintro e w14 ⟨rfl, hg14⟩
    have hz13 := (HF.out w13 Hd13.out).2.2.2.2.2
    have hy14 := own_grown (HF.out w13 Hd13.out).2.2.1 hg14 Hg1.out.2
    have hk14 := (HF.out w13 Hd13.out).1.grown hg14 (by intro e; injection e with e; have := Hg1.out.1; omega)
    have HB13 := (HF.out w13 Hd13.out).2.2.2.2.1
    have HB14 := Lib.hid (HB13.trans (below_of_grown hg14 HB13.size (Nat.le_of_lt Hg1.out.1)))
    replace k3 : w14.cell? ⟨w.heap.size, 3, none⟩ = some (.slice (some ⟨g2, 0, none⟩) sn cap2) := hk14.cell 3
    have HSp2 := Lib.hid (spoil_any g2 sn cap2 _ sb w14 (by have := Hs4.out; omega) (lent_own Hsn.out hy14))
    have hgs1 : g1 < w6.heap.size ∧ g2 < w6.heap.size ∧ w6.heap.size ≤ w7.heap.size := by
      have a := Hg1.out.2
      have b := Hg2.out
      have d := (HF.out w6 Hd6.out).2.2.2.2.2
      have e := Hz67.out
      omega
    have hz78 : w7.heap.size ≤ w8.heap.size := Hz78.out
    have hz89 : w8.heap.size ≤ w9.heap.size := Hz89.out
    have hz910 : w9.heap.size < w10.heap.size := Hz910.out
    have hz1011 : w10.heap.size ≤ w11.heap.size := Hz1011.out
    have HC14 := Lib.hid (own_grown HC13.out hg14 hgs1.1)
    have HD14 := Lib.hid (own_grown HD13.out hg14 (by omega))
    have HT14 := Lib.hid (HT13.out.grown hg14 (by intro e; injection e with e; omega))
    have HU14 := Lib.hid (HU13.out.grown hg14 (by intro e; injection e with e; omega))
    have Hrt14 := Lib.hid ((Hrt13.out.grown7 hg14 (Nat.le_refl _) (fun hn b o hA => by have := Hlt.out hn b o hA; omega)).more hg14.size)
    have Hru14 := Lib.hid ((Hru13.out.grown7 hg14 (Nat.le_refl _) (fun hn b o hA => by have := Hlu.out hn b o hA; omega)).more hg14.size)
    have Hgs := Lib.hid (And.intro hgs1 (And.intro hz78 (And.intro hz89 (And.intro hz910 hz1011))))
    clear hg14 hz13 hy14 hk14 HB13 hgs1 hz78 hz89 hz910 hz1011 HC13 HD13 HT13 HU13 Hrt13 Hru13
    go_wp2_with fail
    refine HSp2.out.mono ?_
    rintro e w15 ⟨rfl, hg15⟩
    have hgs := Hgs.out
    have HB15 := Lib.hid (HB14.out.trans (below_of_grown hg15 HB14.out.size (by have := Hg1.out; have := Hg2.out; omega)))
    have HC15 := Lib.hid (own_grown HC14.out hg15 hgs.1.2.1)
    have HD15 := Lib.hid (own_grown HD14.out hg15 (by omega))
    have hT15 := HT14.out.grown hg15 (by intro e; injection e with e; omega)
    have hU15 := HU14.out.grown hg15 (by intro e; injection e with e; omega)
    have Hrt15 := Lib.hid ((Hrt14.out.grown7 hg15 (Nat.le_refl _) (fun hn b o hA => by have := Hlt.out hn b o hA; omega)).more hg15.size)
    have Hru15 := Lib.hid ((Hru14.out.grown7 hg15 (Nat.le_refl _) (fun hn b o hA => by have := Hlu.out hn b o hA; omega)).more hg15.size)
    have t0 : w15.cell? ⟨w9.heap.size, 0, none⟩ = some (.int .u64 (pl : Int)) := hT15.cell 0
    have t1 : w15.cell? ⟨w9.heap.size, 1, none⟩ = some (.int .u64 (ps : Int)) := hT15.cell 1
    have t2 : w15.cell? ⟨w9.heap.size, 2, none⟩ = some (.bool pa) := hT15.cell 2
    have t3 : w15.cell? ⟨w9.heap.size, 3, none⟩ = some (.slice At nt ct) := hT15.cell 3
    have u0 : w15.cell? ⟨w11.heap.size, 0, none⟩ = some (.int .u64 (pl : Int)) := hU15.cell 0
    have u1 : w15.cell? ⟨w11.heap.size, 1, none⟩ = some (.int .u64 (ps : Int)) := hU15.cell 1
    have u2 : w15.cell? ⟨w11.heap.size, 2, none⟩ = some (.bool pa) := hU15.cell 2
    have u3 : w15.cell? ⟨w11.heap.size, 3, none⟩ = some (.slice Au nu cu) := hU15.cell 3
    clear hg15 hgs hT15 hU15 k3
    go_wp2_with fail
    refine (HSa.out w15 Ac bn cc Ad bn cd bs (Rd.of_own HC15.out) (Rd.of_own HD15.out)).mono ?_
    rintro e w' ⟨rfl, rfl⟩
    go_wp2_with fail
    refine (HSS.out w15 At nt ct Au nu cu Hrt15.out Hru15.out).mono ?_
    rintro e w16 ⟨rfl, hb16⟩
    have HB16 := Lib.hid (below_then HB15.out hb16)
    clear hb16 t0 t1 t2 t3 u0 u1 u2 u3
    go_wp2_with fail
    refine (HKn.out w16).mono ?_
    rintro e w17 ⟨rfl, hb17⟩
    have HB17 := Lib.hid (below_then HB16.out hb17)
    clear hb17
    go_wp2
    go_ret
    exact ⟨rfl, HB17.out⟩

namespace sessSegs
set_option maxRecDepth 100000 in
theorem lifted (os : Os) (started : os.Started) (H : Type) (enc : TypeId × Value → H) :
    ReturnsInHanded {} Try.checked os 9 .any (Rows.sessSegsSpec.pre6 enc Try.prog Try.f9 Rows.sessSegsRow.domain false) (Rows.sessSegsSpec.post enc Try.prog Try.f9 false true false false) := by
  refine law_lift started (by kernel_rfl) Try.func9
    (ChangeSpec.witness6 (enc := enc) (C := Try.checked) false ⟨#[], #[.agg #[.int .u64 0, .int .u64 0, .bool false, .slice none 0 0], .slice none 0 0], []⟩ 8 (by kernel_rfl) (by kernel_rfl) (by kernel_rfl) (by kernel_rfl))
    rfl ?_ (by kernel_rfl) (by kernel_rfl) ?_
  · intro ds h
    match ds, h with
    | [_, _], _ => rfl
  intro W base args ds p g
  have hA := g.trod
  have hval := g.val
  rw [Try.params9] at hA hval
  obtain ⟨v0, vs0, d0, ds0, p0, q0, hargs, rfl, rfl, h0, r0⟩ := trodAll_cons hA
  obtain ⟨v1, vs1, d1, ds1, p1, q1, rfl, rfl, rfl, h1, r1⟩ := trodAll_cons r0
  obtain ⟨rfl, rfl, rfl⟩ := trodAll_nil r1
  obtain rfl : args = #[v0, v1] := by cases args; simp_all
  obtain ⟨x0, hx0, rfl⟩ := given_sg (hval 0 60 v0 rfl rfl) h0
  obtain ⟨A1, n1, c1, l1, rfl, hc1, hm1, hr1⟩ := given_bytes (hval 1 32 v1 rfl rfl) h1
  exact sessSegs_walk x0 A1 n1 c1 l1 W hx0 hc1 hm1 hr1

theorem over : Rows.sessSegsRow.holds Try.pinned (OpenSpec.ofChange Rows.sessSegsSpec) :=
  OpenClaim.holds_of_wide 9 Try.f9 rfl rfl rfl rfl rfl rfl rfl ⟨rfl, rfl, rfl, rfl, rfl⟩ rfl rfl rfl rfl rfl (by kernel_rfl) Try.func9 (by kernel_rfl)
    (of_decide_eq_true (by kernel_rfl)) (by unfold Func.isWrapper; first | (rw [if_pos (by decide +kernel)]; kernel_rfl) | (rw [if_neg (by decide +kernel)]; exact ⟨rfl, rfl⟩))
    (fun os started H enc _ => lifted os started H enc)
end sessSegs

theorem SessSegs_proved : Rows.SessSegsSaid := sessSegs.over
#print axioms SessSegs_proved
end Go.Proofs.Ytfghbhjljbdlmaa
