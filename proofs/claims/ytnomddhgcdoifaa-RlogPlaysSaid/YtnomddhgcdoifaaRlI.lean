/- Layer 12, the program's log: Learn. -/
import Derived.Test.YtnomddhgcdoifaaRlH
namespace Go.Proofs.Ytnomddhgcdoifaa
open Go.RowKit

theorem LActed.same {w w' : World} {F : Nat → Prop} {g : Nat} {p : Rl} {r : Value} (h : PL w F g p) (hb : Below w.heap.size w w') : LActed w F g r p (.returned r) w' := ⟨rfl, F, h.below hb, Mv.of (Kp.of_below hb)⟩
theorem bel1L (w : World) (o : Obj) : Below w.heap.size w (w.alloc o) := (Below.refl _ _).alloc (Nat.le_refl _) _
set_option maxRecDepth 100000 in
theorem elearn_nil (A : Option Addr) (n c s : Nat) (w : World) : Calls Try.prog 18 #[.pointer none, .int .u64 (s : Int), .slice A n c] w fun e w' => e = .returned (.int .i64 1) ∧ w = w' := by
  go_enter Try.func18, Try.ntmps18
  go_wp2
  go_ret
  exact ⟨rfl, rfl⟩
set_option maxRecDepth 100000 in
set_option maxHeartbeats 4000000 in
theorem elearn_any {w : World} {F : Nat → Prop} {g : Nat} {p : Rl} (h : PL w F g p) (s : Nat) (hs : s < 18446744073709551616) {A : Option Addr} {n : Nat} (c : Nat) {l : List UInt8} (hr : Rd w w.heap.size A n l) (hn : n ≤ 1000000) :
    Calls Try.prog 18 #[.pointer (some ⟨g, 0, none⟩), .int .u64 (s : Int), .slice A n c] w (LActed w F g (.int .i64 (p.learn s l).1) (p.learn s l).2) := by
  have HS : Hid (∀ r w', Below w.heap.size w w' → LActed w F g r p (.returned r) w') := Lib.hid fun r w' hb => LActed.same h hb
  have HP := Lib.hid h
  have hll := hr.1
  obtain ⟨R, N, cR, es, hbk, hrow, heq, hNp, hok, hFg, hlt⟩ := h
  have hel : N = es.length := by rw [hNp, ← heq, List.length_map]
  have hN4 := hok.len
  rw [← hNp] at hN4
  by_cases h0 : s = 0
  · subst h0
    have e : p.learn 0 l = (2, p) := by unfold Rl.learn; rw [if_pos (.inl rfl)]
    rw [e]
    clear hr hbk hrow
    go_enter Try.func18, Try.ntmps18
    go_wp2
    go_ret
    exact HS.out _ _ (Below.refl _ _)
  by_cases h1 : s = 18446744073709551615
  · subst h1
    have e : p.learn 18446744073709551615 l = (2, p) := by unfold Rl.learn; rw [if_pos (.inr rfl)]
    rw [e]
    clear hr hbk hrow
    go_enter Try.func18, Try.ntmps18
    go_wp2
    go_ret
    exact HS.out _ _ (Below.refl _ _)
  have m0 : ((s : Int) == 0) = false := by rw [beq_eq_false_iff_ne]; omega
  have m1 : ((s : Int) == 18446744073709551615) = false := by rw [beq_eq_false_iff_ne]; omega
  have g0 : ¬ (s = 0 ∨ s = 18446744073709551615) := by omega
  by_cases h2 : 100 < n
  · have e : p.learn s l = (3, p) := by unfold Rl.learn; rw [if_neg g0, if_pos (by omega)]
    rw [e]
    have m2 : (100 : Int) < (n : Int) := by omega
    clear hr hbk hrow
    go_enter Try.func18, Try.ntmps18
    go_wp2
    go_ret
    exact HS.out _ _ (Below.refl _ _)
  have m2 : ¬ (100 : Int) < (n : Int) := by omega
  have HFd := Lib.hid (efind_any hrow (by rw [heq]; exact hok.rise) (by omega) s)
  rw [heq] at HFd
  unfold BsE at HFd
  have c1 : w.cell? ⟨g, 1, none⟩ = some (.slice R N cR) := hbk.cell 1
  have HC : Hid (∀ W, Below w.heap.size w W → W.cell? ⟨g, 0, none⟩ = some (.int .u64 (p.ap : Int)) ∧ W.cell? ⟨g, 1, none⟩ = some (.slice R N cR) ∧ W.frozen? ⟨g, 1, none⟩ = false) := Lib.hid fun W hb => ⟨(hbk.below hb hbk.lt).cell 0, (hbk.below hb hbk.lt).cell 1, (hbk.below hb hbk.lt).frozen 1⟩
  by_cases h3 : p.has s = true
  · obtain ⟨hk, e1, e2⟩ := Rl.at_eq h3
    have hke : findE s p.row < es.length := by rw [← hel, hNp]; exact hk
    have HV : Hid (∀ W, Below w.heap.size w W → ∃ b, R = some ⟨b, 0, none⟩ ∧ W.cell? ⟨b, findE s p.row * 2 + 1, none⟩ = some (s3W es[findE s p.row].2) ∧ Calls Try.prog 35 #[s3W es[findE s p.row].2, .slice A n c] W fun e w' => e = .returned (.bool ((p.at_ s).val == l)) ∧ W = w') := Lib.hid fun W hb => by
      obtain ⟨b, c', e3, _, _, _, q0, q1⟩ := (hrow.below hb).cell _ hke
      injection e3 with e3 _ _
      refine ⟨b, e3, q1, ?_⟩
      have hbd := (hrow.below hb).body (List.getElem_mem hke)
      have e4 : (p.at_ s).val = es[findE s p.row].1.val := by rw [e1]; simp only [← heq, List.getElem_map]
      rw [e4]
      exact ebytesEqual_any _ _ _ _ _ _ _ _ _ _ W hbd.rd (hr.below hb)
    have hkN : findE s p.row < N := by omega
    have hhv : hasE s p.row = true := h3
    rw [hhv] at HFd
    generalize findE s p.row = k at *
    have HEV : Hid (p.learn s l = if ((p.at_ s).val == l) = true then (0, p) else (120, p)) := Lib.hid (by
      unfold Rl.learn
      rw [if_neg g0, if_neg (by omega), if_pos h3]
      simp only [beq_iff_eq])
    generalize ((p.at_ s).val == l) = bq at *
    generalize es[k].2 = x3 at *
    have k0 : ¬ (k : Int) < 0 := by omega
    have k1 : (k : Int) < (N : Int) := by omega
    rw [HEV.out]
    clear hr hbk hrow heq hNp hok hFg hlt hel hk hke hhv h3 e1 e2 HEV HP
    cases bq with
    | true =>
      go_enter Try.func18, Try.ntmps18
      go_wp2_with fail
      refine HFd.out.mono ?_
      rintro e w2 ⟨rfl, hb2⟩
      obtain ⟨b, rfl, q1, HQ⟩ := HV.out w2 hb2
      obtain ⟨d0, d1, d2⟩ := HC.out w2 hb2
      have HQ2 := Lib.hid HQ
      have HB2 := Lib.hid hb2
      clear hb2 HQ HFd HV HC c1
      obtain ⟨x1, x2, x4⟩ := x3
      unfold s3W at q1 HQ2
      dsimp only at q1 HQ2
      go_wp2_with fail
      refine HQ2.out.mono ?_
      rintro e w3 ⟨rfl, rfl⟩
      go_wp2
      go_ret
      exact HS.out _ _ HB2.out
    | false =>
      go_enter Try.func18, Try.ntmps18
      go_wp2_with fail
      refine HFd.out.mono ?_
      rintro e w2 ⟨rfl, hb2⟩
      obtain ⟨b, rfl, q1, HQ⟩ := HV.out w2 hb2
      obtain ⟨d0, d1, d2⟩ := HC.out w2 hb2
      have HQ2 := Lib.hid HQ
      have HB2 := Lib.hid hb2
      clear hb2 HQ HFd HV HC c1
      obtain ⟨x1, x2, x4⟩ := x3
      unfold s3W at q1 HQ2
      dsimp only at q1 HQ2
      go_wp2_with fail
      refine HQ2.out.mono ?_
      rintro e w3 ⟨rfl, rfl⟩
      go_wp2
      go_ret
      exact HS.out _ _ HB2.out
  have hhv : hasE s p.row = false := by simpa [Rl.has] using h3
  rw [hhv] at HFd
  by_cases h4 : s ≤ p.ap
  · have e : p.learn s l = (0, p) := by unfold Rl.learn; rw [if_neg g0, if_neg (by omega), if_neg h3, if_pos h4]
    rw [e]
    have m4 : (s : Int) ≤ (p.ap : Int) := by omega
    generalize findE s p.row = k at *
    clear hr hbk hrow heq hNp hok hFg hlt hel hhv h3 e HP
    go_enter Try.func18, Try.ntmps18
    go_wp2_with fail
    refine HFd.out.mono ?_
    rintro e w2 ⟨rfl, hb2⟩
    obtain ⟨d0, d1, d2⟩ := HC.out w2 hb2
    have HB2 := Lib.hid hb2
    clear hb2 HFd HC c1
    go_wp2
    go_ret
    exact HS.out _ _ HB2.out
  have m4 : ¬ (s : Int) ≤ (p.ap : Int) := by omega
  by_cases h5 : 4096 ≤ N
  · have e : p.learn s l = (5, p) := by unfold Rl.learn; rw [if_neg g0, if_neg (by omega), if_neg h3, if_neg h4, if_pos (by omega)]
    rw [e]
    have m5 : (4096 : Int) ≤ (N : Int) := by omega
    generalize findE s p.row = k at *
    clear hr hbk hrow heq hNp hok hFg hlt hel hhv h3 e HP
    go_enter Try.func18, Try.ntmps18
    go_wp2_with fail
    refine HFd.out.mono ?_
    rintro e w2 ⟨rfl, hb2⟩
    obtain ⟨d0, d1, d2⟩ := HC.out w2 hb2
    have HB2 := Lib.hid hb2
    clear hb2 HFd HC c1
    go_wp2
    go_ret
    exact HS.out _ _ HB2.out
  have m5 : ¬ (4096 : Int) ≤ (N : Int) := by omega
  have e : p.learn s l = (0, { p with row := insE ⟨s, l⟩ p.row }) := by unfold Rl.learn; rw [if_neg g0, if_neg (by omega), if_neg h3, if_neg h4, if_neg (by omega)]
  have hok' : (p.learn s l).2.Ok := hok.learn s (by omega) l
  rw [e] at hok' ⊢
  have hkN : findE s p.row ≤ N := by rw [hNp]; exact findE_le _ _
  have HCl : Hid (∀ W, Below w.heap.size w W → Calls Try.prog 37 #[.slice A n c] W fun e w' => ∃ A' c', e = .returned (.slice A' n c') ∧ Hid (w'.ownsRow w.heap.size 5 1 (.slice A' n c') n (u8s l) ∧ Below w.heap.size w w')) := Lib.hid fun W hb => by
    refine (cloneB_any A n c w.heap.size l W (by omega) hb.size (hr.below hb)).mono ?_
    rintro e w' ⟨v, rfl, ho, hb'⟩
    obtain ⟨A', c', rfl, _⟩ := own_shape ho
    exact ⟨A', c', rfl, Lib.hid ⟨own_mono ho hb.size, hb.trans (hb'.mono hb.size)⟩⟩
  have HIn : Hid (∀ W A' c', Below w.heap.size w W → W.ownsRow w.heap.size 5 1 (.slice A' n c') n (u8s l) → Calls Try.prog 36 #[.slice R N cR, .int .i64 (findE s p.row : Int), .slice (some ⟨W.heap.size, 0, none⟩) 1 1] (W.alloc (.cells #[.int .u64 (s : Int), .slice A' n c'] 45)) fun e w' => ∃ A2 c2, e = .returned (.slice A2 (N + 1) c2) ∧ w'.cell? ⟨g, 1, none⟩ = some (.slice R N cR) ∧ w'.frozen? ⟨g, 1, none⟩ = false ∧ Hid (LActed w F g (.int .i64 0) { p with row := insE ⟨s, l⟩ p.row } (.returned (.int .i64 0)) (w'.setCell ⟨g, 1, none⟩ (.slice A2 (N + 1) c2)))) := Lib.hid fun W A' c' hb ho => by
    have hb2 : Below w.heap.size w (W.alloc (.cells #[.int .u64 (s : Int), .slice A' n c'] 45)) := hb.trans ((bel1L W _).mono hb.size)
    have ho2 : (W.alloc (.cells #[.int .u64 (s : Int), .slice A' n c'] 45)).ownsRow w.heap.size 5 1 (.slice A' n c') n (u8s l) := own_below ho (bel1L W _) fun k hk => (ho.lt k hk).2
    have hrow2 := hrow.below hb2
    have hll2 : l.length = n := hll
    refine (einsert_any (vb := W.heap.size) hrow2 hel (by omega) hkN (⟨s, l⟩, (A', n, c')) (Bk.new W _ _) (fun k hk e2 => ?_) (by rw [hll2]; exact own_mono ho2 (Nat.zero_le _))).mono ?_
    · have := hrow.lt k hk
      have := hb.size
      omega
    · rintro e w' ⟨A2, c2, rfl, hr3, hk⟩
      have hb3 : Bk w' g 51 #[.int .u64 (p.ap : Int), .slice R N cR] := (hbk.below hb2 hbk.lt).kp hk fun e => hrow.off hbk g (.inl e) rfl
      refine ⟨A2, c2, rfl, hb3.cell 1, hb3.frozen 1, Lib.hid ⟨rfl, fun k => (F k ∨ w.heap.size ≤ k) ∧ k < w'.heap.size, ?_, ?_⟩⟩
      · have hks : Kp (fun j => j = g) w' (w'.setCell ⟨g, 1, none⟩ (.slice A2 (N + 1) c2)) := Kp.set_ (F := fun j => j = g) (p := ⟨g, 1, none⟩) rfl _
        have hr4 : EnRow w' (fun k => (F k ∨ w.heap.size ≤ k) ∧ k < w'.heap.size) (.slice A2 (N + 1) c2) (es.take (findE s p.row) ++ (⟨s, l⟩, (A', n, c')) :: es.drop (findE s p.row)) := hr3.narrow.mono fun k hk => ⟨by
          rcases hk.1 with h' | h' | h'
          · exact .inl h'
          · exact .inr (ho.lt k h').1
          · exact .inr (Nat.le_trans hb2.size h'), hk.2⟩
        refine ⟨A2, N + 1, c2, _, hb3.set_ 1 _, hr4.keep hks (hr4.off hb3), ?_, ?_, hok', ⟨.inl hFg, hb3.lt⟩, fun k hk => Nat.lt_of_lt_of_le hk.2 hks.size⟩
        · simp only [List.map_append, List.map_cons, List.map_take, List.map_drop, heq]
          rfl
        · show N + 1 = (insE ⟨s, l⟩ p.row).length
          rw [insE_len, hNp]
      · refine ⟨?_, fun k hk => ?_⟩
        · exact (Kp.of_below hb2).trans ((hk.mono fun k e => hrow.foot k e).trans (Kp.set_ (F := F) (p := ⟨g, 1, none⟩) hFg _))
        · exact hk.1
  generalize findE s p.row = k at *
  clear hr hbk hrow heq hNp hok hFg hlt hel hhv h3 e HP hok' hkN HS
  go_enter Try.func18, Try.ntmps18
  go_wp2_with fail
  refine HFd.out.mono ?_
  rintro e w2 ⟨rfl, hb2⟩
  obtain ⟨d0, d1, d2⟩ := HC.out w2 hb2
  have HB2 := Lib.hid hb2
  clear hb2 HFd c1
  go_upto_region 14 with (fail)
  go_region_law (first
    | (go_simp; go_at_call 37; (refine (HCl.out _ HB2.out.drew).mono ?_; rintro e w3 ⟨A3, c3, rfl, HX⟩; obtain ⟨f0, f1, f2⟩ := HC.out w3 HX.out.2; have f1a := fun o => (HC.out (w3.alloc o) (HX.out.2.trans ((bel1L w3 o).mono HX.out.2.size))).2.1))
    | (go_simp; go_at_call 36; refine (HIn.out _ _ _ HX.out.2 HX.out.1).mono ?_; rintro e w4 ⟨A4, c4, rfl, j1, j2, HZ⟩))
  all_goals
    go_wp2
    go_ret
    exact HZ.out
end Go.Proofs.Ytnomddhgcdoifaa
