/- SessSends is true at every life, window and span, and every row of acts. -/
import Derived.Test.YtfdlhefbbhblnaaSesTe
import Derived.Test.YtfdlhefbbhblnaaSesGa
import Derived.Test.YtfdlhefbbhblnaaSesL
import Derived.Test.YtfdlhefbbhblnaaLaw
import Derived.Test.YtfdlhefbbhblnaaRows
namespace Go.Proofs.Ytfdlhefbbhblnaa
open Go.ChangeShapes Go.WideShapes Go.ChangeAt Go.RowKit Go.Deep Go.Maps

set_option maxHeartbeats 8000000 in
set_option maxRecDepth 100000 in
theorem sends_bad (life : Nat) (window span : Int) (A : Option Addr) (n c : Nat) (W : World) (h : ¬ (1 ≤ window ∧ window ≤ 64 ∧ 1 ≤ span ∧ span ≤ 1000)) :
    Calls Try.prog 3 #[.int .u64 (life : Int), .int .i64 window, .int .i64 span, .slice A n c] W fun e w' => e = .returned (.bool true) ∧ Below W.heap.size W w' := by
  have HKn := Lib.hid sknown_any
  have HN := Lib.hid (sNew_bad life window span W h)
  have hor : window < 1 ∨ (¬ window < 1 ∧ 64 < window) ∨ (¬ window < 1 ∧ ¬ 64 < window ∧ span < 1) ∨ (¬ window < 1 ∧ ¬ 64 < window ∧ ¬ span < 1 ∧ 1000 < span) := by omega
  clear h
  rcases hor with h1 | ⟨h1, h2⟩ | ⟨h1, h2, h3⟩ | ⟨h1, h2, h3, h4⟩
  all_goals
    go_enter Try.func3, Try.ntmps3
    go_wp2_with fail
    refine HN.out.mono ?_
    rintro e w1 ⟨rfl, rfl⟩
    go_wp2_with fail
    refine (HKn.out _).mono ?_
    rintro e w2 ⟨rfl, hb⟩
    have HB := Lib.hid hb
    clear hb
    go_wp2
    go_ret
    exact ⟨rfl, HB.out⟩
set_option maxHeartbeats 16000000 in
set_option maxRecDepth 100000 in
theorem sends_good (life window span : Nat) (A : Option Addr) (n c : Nat) (f : Nat → Ac7) (W : World) (h0 : life < 18446744073709551616) (h1 : 1 ≤ window ∧ window ≤ 64) (h2 : 1 ≤ span ∧ span ≤ 1000) (hc : n ≤ c) (hm : c ≤ 9223372036854775807) (hs : ActsIn W W.heap.size A n f) :
    Calls Try.prog 3 #[.int .u64 (life : Int), .int .i64 (window : Int), .int .i64 (span : Int), .slice A n c] W fun e w' => e = .returned (.bool true) ∧ Below W.heap.size W w' := by
  have HKn := Lib.hid sknown_any
  have HN := Lib.hid (sNew_any life window span W h0 h1 h2)
  have HS := Lib.hid hs
  have m1 : ¬ (window : Int) < 1 := by omega
  have m2 : ¬ 64 < (window : Int) := by omega
  have m3 : ¬ (span : Int) < 1 := by omega
  have m4 : ¬ 1000 < (span : Int) := by omega
  have H0 := Lib.hid h0
  have H1 := Lib.hid h1
  have H2 := Lib.hid h2
  clear hs h1 h2
  go_enter Try.func3, Try.ntmps3
  go_wp2_with fail
  refine HN.out.mono ?_
  rintro e w1 ⟨gx, Fx, rfl, p1, p2, p3⟩
  obtain ⟨w2, hw2⟩ : ∃ w2, w2 = w1.alloc (.cells #[.int .u64 (life : Int), .int .i64 (window : Int), .int .i64 (span : Int), .int .i64 0, .int .i64 0, .slice none 0 0] 32) := ⟨_, rfl⟩
  have X0 : Hid (SnQ W w2 gx w1.heap.size (2 * 0) 0 (.slice none 0 0) (Sd.new life window span) (Sd.new life window span)) := by
    rw [hw2]
    exact snq_new H0.out H1.out H2.out p1 p2 p3
  generalize Sd.new life window span = s0 at X0
  have HW2 := Lib.hid hw2
  clear p1 p2 p3 hw2 HN h0
  go_wp2_with fail
  rw [← HW2.out]
  clear HW2
  generalize w1.heap.size = gy at *
  clear m1 m2 m3 m4
  obtain ⟨N0, hN0⟩ : ∃ N0, N0 = min n 200 := ⟨_, rfl⟩
  go_loopg [12, 13] N0 (fun gk tv j wr => ∃ (k N : Nat) (s : Sd), j = .int .i64 (k : Int) ∧ k + gk = N0 ∧ Hid (SnQ W wr gx gy (2 * k) N tv s s))
  case atStart => exact ⟨0, 0, s0, rfl, by omega, X0⟩
  case round =>
    clear X0 s0
    obtain ⟨k, N, s, rfl, hkg, HX⟩ := hrel
    obtain ⟨tv, rfl⟩ : ∃ tv : Value, tv = u12 := ⟨_, rfl⟩
    by_cases hk : k < N0
    · have k1 : (k : Int) < (n : Int) := by omega
      have k2 : (k : Int) < 200 := by omega
      obtain ⟨b, o, rfl, hlt, hcs⟩ := HS.out (by omega)
      obtain ⟨hok, z0, z1, z2, z3, z4⟩ := hcs k (by omega)
      have hbw : Below W.heap.size W wr := HX.out.bel
      replace z0 := (hbw.cell (p := ⟨b, o + k * 5, none⟩) hlt).trans z0
      replace z1 := (hbw.cell (p := ⟨b, o + k * 5 + 1, none⟩) hlt).trans z1
      replace z2 := (hbw.cell (p := ⟨b, o + k * 5 + 2, none⟩) hlt).trans z2
      replace z3 := (hbw.cell (p := ⟨b, o + k * 5 + 3, none⟩) hlt).trans z3
      replace z4 := (hbw.cell (p := ⟨b, o + k * 5 + 4, none⟩) hlt).trans z4
      have HK0 : Hid (∀ X, Below W.heap.size W X → X.cell? ⟨b, o + k * 5, none⟩ = some (.int .i64 (f k).kind)) := Lib.hid fun X hX => (hX.cell (p := ⟨b, o + k * 5, none⟩) hlt).trans (hcs k (by omega)).2.1
      clear hcs hbw
      generalize f k = fk at *
      obtain ⟨kind, ⟨⟨sl, ss, sa, sb⟩, SA, sn, sc⟩⟩ := fk
      dsimp only at z0 z1 z2 z3 z4 HK0
      have HO : Hid (Sg.Ok ⟨sl, ss, sa, sb⟩) := hok.ok
      have HR : Hid (∀ X, Below W.heap.size W X → Rd X X.heap.size SA sn sb) := Lib.hid fun X hX => hok.body.up hX
      have HL : Hid (sb.length = sn) := hok.body.1
      clear hok
      obtain ⟨w4, hw4⟩ : ∃ w4, w4 = wr.alloc (.cells #[.int .u64 (sl : Int), .int .u64 (ss : Int), .bool sa, .slice SA sn sc] 36) := ⟨_, rfl⟩
      have X4 := Lib.hid (SnH.start HX.out hw4)
      have HLo := Lib.hid (slong_any ⟨sl, ss, sa, sb⟩ SA sn sc w4)
      unfold sgV at HLo
      dsimp only at HLo
      have HW4 := Lib.hid hw4
      have c0 : w4.cell? ⟨wr.heap.size, 0, none⟩ = some (.int .u64 (sl : Int)) := X4.out.bk.cell 0
      have c1 : w4.cell? ⟨wr.heap.size, 1, none⟩ = some (.int .u64 (ss : Int)) := X4.out.bk.cell 1
      have c2 : w4.cell? ⟨wr.heap.size, 2, none⟩ = some (.bool sa) := X4.out.bk.cell 2
      have c3 : w4.cell? ⟨wr.heap.size, 3, none⟩ = some (.slice SA sn sc) := X4.out.bk.cell 3
      clear HX hw4
      by_cases hbig : 3000 < sn
      · rw [decide_eq_true hbig] at HLo
        have hb : Hid (Below W.heap.size W w4) := X4.out.bel
        go_wp2_with fail
        rw [← HW4.out]
        refine HLo.out.mono ?_
        rintro e w5 ⟨rfl, hb5⟩
        go_wp2_with fail
        refine (HKn.out _).mono ?_
        rintro e w6 ⟨rfl, hb6⟩
        have HB := Lib.hid (below_then (below_then hb.out hb5) hb6)
        clear hb5 hb6
        go_wp2
        go_ret
        exact ⟨rfl, HB.out⟩
      rw [decide_eq_false hbig] at HLo
      have hsn : sn ≤ 3000 := by omega
      go_wp2_with fail
      rw [← HW4.out]
      clear HW4
      generalize wr.heap.size = q at *
      refine HLo.out.mono ?_
      clear HLo
      rintro e w5 ⟨rfl, hb5⟩
      have X5 := Lib.hid (X4.out.below hb5)
      have k0 : w5.cell? ⟨b, o + k * 5, none⟩ = some (.int .i64 kind) := HK0.out _ X5.out.bel
      clear hb5 X4 c0 c1 c2 c3 z0 z1 z2 z3 z4 HK0 hbig
      clear w4
      have hkind : (kind = 0 ∨ (¬ kind = 0 ∧ kind = 1)) ∨ (((¬ kind = 0 ∧ ¬ kind = 1) ∧ kind = 2) ∨ ((¬ kind = 0 ∧ ¬ kind = 1 ∧ ¬ kind = 2) ∧ kind = 3)) ∨ (¬ kind = 0 ∧ ¬ kind = 1 ∧ ¬ kind = 2 ∧ ¬ kind = 3) := by omega
      rcases hkind with hpush | htick | hhear
      · rcases hpush with r0 | ⟨r0, r1⟩
        all_goals
          have y3 : w5.cell? ⟨q, 3, none⟩ = some (.slice SA sn sc) := X5.out.bk.cell 3
          have HLe : Hid (Calls Try.prog 10 #[.slice SA sn sc] w5 fun e w' => ∃ g cap, e = .returned (.slice (some ⟨g, 0, none⟩) sn cap) ∧ SnL W w' gx gy (2 * k) N tv s s q #[.int .u64 (sl : Int), .int .u64 (ss : Int), .bool sa, .slice SA sn sc] g cap sn sb) := by
            refine (lent_any SA sn sc w5.heap.size sb w5 (by omega) (HR.out _ X5.out.bel)).mono ?_
            rintro e w' ⟨g, cap, rfl, ho, hb⟩
            exact ⟨g, cap, rfl, SnL.start X5.out hb ho HL.out⟩
          go_wp2_with fail
          refine HLe.out.mono ?_
          clear HLe
          rintro e w6 ⟨g, cap, rfl, x6⟩
          have HP := Lib.hid (x6.xpush (by omega) cap)
          clear x6 y3
          go_wp2_with fail
          refine HP.out.mono ?_
          clear HP
          rintro e w7 ⟨rfl, x7⟩
          have y3 : w7.cell? ⟨q, 3, none⟩ = some (.slice SA sn sc) := x7.bk.cell 3
          have HP := Lib.hid (x7.ypush (by omega) SA sc (HR.out _ x7.bel))
          clear x7
          go_wp2_with fail
          refine HP.out.mono ?_
          clear HP
          rintro e w8 ⟨rfl, x8⟩
          replace y3 : w8.cell? ⟨q, 3, none⟩ = some (.slice SA sn sc) := x8.bk.cell 3
          have HP := Lib.hid (x8.whole hsn SA sc (HR.out _ x8.bel))
          have HQ := Lib.hid (x8.spoil hsn)
          clear x8
          generalize s.push sb = sp at *
          go_wp2_with fail
          refine HP.out.mono ?_
          clear HP
          rintro e w8' ⟨rfl, rfl⟩
          go_wp2_with fail
          refine HQ.out.mono ?_
          clear HQ
          rintro e w9 ⟨rfl, x9⟩
          have HXq := Lib.hid (x9.up (j := 2 * k + 2) (by omega))
          clear x9 y3 k0
          obtain ⟨sp1, s9⟩ := sp
          dsimp only at HXq
          obtain ⟨ql, hql⟩ : ∃ ql, ql = s9.queue.length := ⟨_, rfl⟩
          obtain ⟨Ar, cr, y3, y5, yb⟩ := HXq.out.cells
          have HLF : Hid (∀ q, Calls Try.prog 20 #[.pointer (some ⟨gx, 0, none⟩)] (w9.drewN q) fun e w' => e = .returned (.int .i64 (ql : Int)) ∧ w' = w9.drewN q) := Lib.hid fun q => by
            rw [hql]
            exact (HXq.out.left q).mono fun _ _ h => ⟨h.1, h.2.symm⟩
          have HXD : Hid (∀ q, SnQ W (w9.drewN q) gx gy (2 * k + 2) N tv s9 s9) := Lib.hid fun q => HXq.out.below (bel_drewN (Below.refl _ _) q)
          obtain ⟨T, hT⟩ : ∃ T, T = s9.came + s9.queue.length := ⟨_, rfl⟩
          rw [← hT] at y5 yb
          rw [← hql] at hT
          generalize s9.came = cm at *
          have hTi : (ql : Int) = (T : Int) - (cm : Int) := by omega
          have hTd : decide ((ql : Int) = (T : Int) - (cm : Int)) = true := decide_eq_true hTi
          have hle : cm ≤ T := by omega
          clear hTd hT hql HXq
          go_wp2_with fail
          go_quiet ((go_at_call 20; exact Calls.quiet_of_same (HLF.out _)))
          go_wp2
          go_roundg (gk - 1)
          case measure => omega
          case rel => exact ⟨k + 1, N, s9, by go_num, by omega, Lib.hid ((HXD.out _).up (by omega))⟩
      · rcases htick with ⟨⟨r0, r1⟩, r2⟩ | ⟨⟨r0, r1, r2⟩, r3⟩
        all_goals
          have HP := Lib.hid (X5.out.drop.xtick (by omega))
          have Hos := Lib.hid (SnQ.outs X5.out.drop)
          clear X5
          go_wp2_with fail
          refine HP.out.mono ?_
          clear HP
          rintro e w6 ⟨A6, c6, es, rfl, e6, x6⟩
          have HP := Lib.hid (x6.ytick (by omega))
          have E6 := Lib.hid e6
          clear x6 e6
          go_wp2_with fail
          refine HP.out.mono ?_
          clear HP
          rintro e w7 ⟨A7, c7, rfl, r7, x7⟩
          have HP : Hid (Calls Try.prog 17 #[.slice A6 s.out.length c6, .slice A7 s.out.length c7] w7 fun e w' => e = .returned (.bool true) ∧ SnT W w' gx gy (2 * k + 2) N tv s.tickS s.tickS (.slice A6 s.out.length c6) es 0) := by
            have r6 := x7.rd
            rw [E6.out] at r6
            refine (dSames_any A6 A7 s.out.length c6 c7 s.out w7 (by have := Hos.out; omega) r6 r7).mono ?_
            rintro e w' ⟨rfl, hb⟩
            exact ⟨rfl, x7.below hb⟩
          have HE : Hid (es.length = s.out.length) := Lib.hid (by rw [← E6.out, List.length_map])
          clear x7 r7
          generalize s.tickS = s9 at *
          generalize s.out.length = m at *
          clear E6
          go_wp2_with fail
          refine HP.out.mono ?_
          clear HP
          rintro e w8 ⟨rfl, x8⟩
          have X8 := Lib.hid x8
          clear x8 k0
          have hm64 : m ≤ 64 := Hos.out
          go_wp2_with fail
          obtain ⟨go, rfl⟩ : ∃ go : Nat, go = gk := ⟨_, rfl⟩
          go_loopg [12, 21] m (fun gk tv i wr => ∃ j : Nat, i = .int .i64 (j : Int) ∧ j + gk = m ∧ Hid (SnT W wr gx gy (2 * k + 2) N tv s9 s9 (.slice A6 m c6) es j))
          case atStart => exact ⟨0, rfl, by omega, X8⟩
          case round =>
            clear X8
            obtain ⟨j, rfl, hjg, XT⟩ := hrel
            obtain ⟨tv8, rfl⟩ : ∃ tv : Value, tv = u12 := ⟨_, rfl⟩
            by_cases hj : j < m
            · have j1 : (j : Int) < (m : Int) := by omega
              obtain ⟨R, c8, Ab, cb, ev, eb, x3⟩ := XT.out.cell j (by rw [HE.out]; exact hj)
              obtain ⟨rfl, _, _⟩ : A6 = some ⟨R, 0, none⟩ ∧ True ∧ True := by injection ev with e1 _ _; exact ⟨e1, trivial, trivial⟩
              obtain ⟨At, ct, xs, etv, hNj, hrow, hnext⟩ := XT.out.row
              have hw8 := XT.out.bel.size
              generalize hbl : (es[j]'(by rw [HE.out]; exact hj)).1.body.length = bl at *
              have Hnext : Hid (∀ (w3 : World) (tv' : Value), App (wr.alloc (.cells #[.slice Ab bl cb] 34)) w3 W.heap.size 34 1 tv8 tv' (N + j) 1 xs [.slice Ab bl cb] → SnT W w3 gx gy (2 * k + 2) N tv' s9 s9 (.slice (some ⟨R, 0, none⟩) m c6) es (j + 1)) := Lib.hid fun w3 tv' ha => hnext (by rw [HE.out]; exact hj) _ w3 tv' ((Below.refl _ _).alloc (Nat.le_refl _) _) (by rw [eb]; exact ha)
              obtain ⟨i1, hi1, hy0, hy1, hy2⟩ := info_parts Try.infoBytes
              clear hnext XT ev hbl eb
              subst etv
              generalize hNN : N + j = Nj at *
              go_wp2_with (at_builtin; refine wpList_append_app _ rfl _ _ 33 rfl W.heap.size 34 i1 (.slice none 0 0) 1 24 Try.underlying33 hi1 hy0 hy1 hy2 rfl _ _ _ rfl (hrow.alloc _) (some ⟨wr.heap.size, 0, none⟩) 1 1 [Value.slice Ab bl cb] rfl rfl (by intro h; cases h) (cell_new1 _ _ _) (by intro u hu; simp at hu; subst hu; rfl) (by unfold maxLen; omega) (by omega) (by simp; omega) ?_)
              intro tv' w3 ha
              have X3 := Lib.hid (Hnext.out w3 tv' ha)
              clear ha Hnext hrow hi1 hy0 hy1 hy2
              go_wp2
              go_roundg (gk - 1)
              case measure => omega
              case rel => exact ⟨j + 1, by go_num, by omega, X3⟩
            · obtain rfl : j = m := by omega
              have HXq : Hid (SnQ W wr gx gy (2 * k + 2) (N + es.length) tv8 s9 s9) := by
                have := XT.out
                rw [← HE.out] at this
                exact this.done
              have j1 : ¬ (j : Int) < (j : Int) := by omega
              obtain ⟨N9, hN9⟩ : ∃ N9, N9 = N + es.length := ⟨_, rfl⟩
              rw [← hN9] at HXq
              clear hN9 XT
              obtain ⟨ql, hql⟩ : ∃ ql, ql = s9.queue.length := ⟨_, rfl⟩
              obtain ⟨Ar, cr, y3, y5, yb⟩ := HXq.out.cells
              have HLF : Hid (∀ q, Calls Try.prog 20 #[.pointer (some ⟨gx, 0, none⟩)] (wr.drewN q) fun e w' => e = .returned (.int .i64 (ql : Int)) ∧ w' = wr.drewN q) := Lib.hid fun q => by
                rw [hql]
                exact (HXq.out.left q).mono fun _ _ h => ⟨h.1, h.2.symm⟩
              have HXD : Hid (∀ q, SnQ W (wr.drewN q) gx gy (2 * k + 2) N9 tv8 s9 s9) := Lib.hid fun q => HXq.out.below (bel_drewN (Below.refl _ _) q)
              obtain ⟨T, hT⟩ : ∃ T, T = s9.came + s9.queue.length := ⟨_, rfl⟩
              rw [← hT] at y5 yb
              rw [← hql] at hT
              generalize s9.came = cm at *
              have hTi : (ql : Int) = (T : Int) - (cm : Int) := by omega
              have hTd : decide ((ql : Int) = (T : Int) - (cm : Int)) = true := decide_eq_true hTi
              have hle : cm ≤ T := by omega
              clear hTd hT hql HXq
              go_wp2_with fail
              go_quiet ((go_at_call 20; exact Calls.quiet_of_same (HLF.out _)))
              go_wp2
              go_roundg (go - 1)
              case measure => omega
              case rel => exact ⟨k + 1, N9, s9, by go_num, by omega, Lib.hid ((HXD.out _).up (by omega))⟩
      · obtain ⟨r0, r1, r2, r3⟩ := hhear
        have y0 : w5.cell? ⟨q, 0, none⟩ = some (.int .u64 (sl : Int)) := X5.out.bk.cell 0
        have y1 : w5.cell? ⟨q, 1, none⟩ = some (.int .u64 (ss : Int)) := X5.out.bk.cell 1
        have y2 : w5.cell? ⟨q, 2, none⟩ = some (.bool sa) := X5.out.bk.cell 2
        have y3 : w5.cell? ⟨q, 3, none⟩ = some (.slice SA sn sc) := X5.out.bk.cell 3
        have HP := Lib.hid (X5.out.xhear ⟨sl, ss, sa, sb⟩ HO.out SA sn sc HL.out)
        unfold sgV at HP
        dsimp only at HP
        clear X5
        go_wp2_with fail
        refine HP.out.mono ?_
        clear HP
        rintro e w6 ⟨rfl, x6⟩
        replace y0 : w6.cell? ⟨q, 0, none⟩ = some (.int .u64 (sl : Int)) := x6.bk.cell 0
        replace y1 : w6.cell? ⟨q, 1, none⟩ = some (.int .u64 (ss : Int)) := x6.bk.cell 1
        replace y2 : w6.cell? ⟨q, 2, none⟩ = some (.bool sa) := x6.bk.cell 2
        replace y3 : w6.cell? ⟨q, 3, none⟩ = some (.slice SA sn sc) := x6.bk.cell 3
        have HP := Lib.hid (x6.yhear ⟨sl, ss, sa, sb⟩ HO.out SA sn sc HL.out)
        unfold sgV at HP
        dsimp only at HP
        clear x6
        generalize s.hear ⟨sl, ss, sa, sb⟩ = sp at *
        go_wp2_with fail
        refine HP.out.mono ?_
        clear HP
        rintro e w9 ⟨rfl, x9⟩
        have HXq := Lib.hid (x9.up (j := 2 * k + 2) (by omega))
        clear x9 y0 y1 y2 y3 k0
        obtain ⟨sp1, s9⟩ := sp
        dsimp only at HXq
        obtain ⟨ql, hql⟩ : ∃ ql, ql = s9.queue.length := ⟨_, rfl⟩
        obtain ⟨Ar, cr, y3, y5, yb⟩ := HXq.out.cells
        have HLF : Hid (∀ q, Calls Try.prog 20 #[.pointer (some ⟨gx, 0, none⟩)] (w9.drewN q) fun e w' => e = .returned (.int .i64 (ql : Int)) ∧ w' = w9.drewN q) := Lib.hid fun q => by
          rw [hql]
          exact (HXq.out.left q).mono fun _ _ h => ⟨h.1, h.2.symm⟩
        have HXD : Hid (∀ q, SnQ W (w9.drewN q) gx gy (2 * k + 2) N tv s9 s9) := Lib.hid fun q => HXq.out.below (bel_drewN (Below.refl _ _) q)
        obtain ⟨T, hT⟩ : ∃ T, T = s9.came + s9.queue.length := ⟨_, rfl⟩
        rw [← hT] at y5 yb
        rw [← hql] at hT
        generalize s9.came = cm at *
        have hTi : (ql : Int) = (T : Int) - (cm : Int) := by omega
        have hTd : decide ((ql : Int) = (T : Int) - (cm : Int)) = true := decide_eq_true hTi
        have hle : cm ≤ T := by omega
        clear hTd hT hql HXq
        go_wp2_with fail
        go_quiet ((go_at_call 20; exact Calls.quiet_of_same (HLF.out _)))
        go_wp2
        go_roundg (gk - 1)
        case measure => omega
        case rel => exact ⟨k + 1, N, s9, by go_num, by omega, Lib.hid ((HXD.out _).up (by omega))⟩
    · obtain rfl : k = N0 := by omega
      have hex : (k < n ∧ 200 ≤ k) ∨ n ≤ k := by omega
      obtain ⟨A8, c8, etv, hN64⟩ := HX.out.shape
      have hk200 : k ≤ 200 := by omega
      have HF0 : 40 < N → Hid (SnF W wr gx gy (2 * k) s s) := fun _ => Lib.hid HX.out.fin
      have HOw : N ≤ 40 → Hid (Calls Try.prog 21 #[.slice A8 N c8] wr fun e w' => e = .returned (.bool true) ∧ SnF W w' gx gy (2 * k) s s) := fun h => Lib.hid (by have := HX.out; rw [etv] at this; exact this.own h)
      subst etv
      have Hos := Lib.hid (SnQ.outs HX.out)
      clear HX
      have hor : ((k : Int) < (n : Int) ∧ ¬ (k : Int) < 200) ∨ ¬ (k : Int) < (n : Int) := by omega
      clear hex hN0
      rcases hor with ⟨k1, k2⟩ | k1
      all_goals
        by_cases hN : N ≤ 40
        · have n1 : ¬ 40 < (N : Int) := by omega
          replace HOw := HOw hN
          clear HF0
          go_wp2_with fail
          refine HOw.out.mono ?_
          rintro e w1 ⟨rfl, x1⟩
          have HP := Lib.hid (x1.xtick (by omega))
          clear x1
          go_wp2_with fail
          refine HP.out.mono ?_
          clear HP
          rintro e w2 ⟨A2, c2, rfl, x2⟩
          have HP := Lib.hid (SnF.ytick x2 (by omega))
          clear x2
          go_wp2_with fail
          refine HP.out.mono ?_
          clear HP
          rintro e w3 ⟨A3, c3, rfl, r3, r2, hb3⟩
          have HP : Hid (Calls Try.prog 17 #[.slice A2 s.out.length c2, .slice A3 s.out.length c3] w3 fun e w' => e = .returned (.bool true) ∧ Below W.heap.size W w') := by
            refine (dSames_any A2 A3 s.out.length c2 c3 s.out w3 (by have := Hos.out; omega) r2 r3).mono ?_
            rintro e w' ⟨rfl, hb⟩
            exact ⟨rfl, below_then hb3 hb⟩
          clear r2 r3 hb3
          go_wp2_with fail
          refine HP.out.mono ?_
          clear HP
          rintro e w4 ⟨rfl, hb4⟩
          go_wp2_with fail
          refine (HKn.out _).mono ?_
          rintro e w5 ⟨rfl, hb5⟩
          have HB := Lib.hid (below_then hb4 hb5)
          clear hb4 hb5
          go_wp2
          go_ret
          exact ⟨rfl, HB.out⟩
        · have n1 : 40 < (N : Int) := by omega
          have x1 := (HF0 (by omega)).out
          clear HF0 HOw
          obtain ⟨w1, hw1⟩ : ∃ w1, w1 = wr := ⟨_, rfl⟩
          rw [← hw1] at x1
          subst hw1
          have HP := Lib.hid (x1.xtick (by omega))
          clear x1
          go_wp2_with fail
          refine HP.out.mono ?_
          clear HP
          rintro e w2 ⟨A2, c2, rfl, x2⟩
          have HP := Lib.hid (SnF.ytick x2 (by omega))
          clear x2
          go_wp2_with fail
          refine HP.out.mono ?_
          clear HP
          rintro e w3 ⟨A3, c3, rfl, r3, r2, hb3⟩
          have HP : Hid (Calls Try.prog 17 #[.slice A2 s.out.length c2, .slice A3 s.out.length c3] w3 fun e w' => e = .returned (.bool true) ∧ Below W.heap.size W w') := by
            refine (dSames_any A2 A3 s.out.length c2 c3 s.out w3 (by have := Hos.out; omega) r2 r3).mono ?_
            rintro e w' ⟨rfl, hb⟩
            exact ⟨rfl, below_then hb3 hb⟩
          clear r2 r3 hb3
          go_wp2_with fail
          refine HP.out.mono ?_
          clear HP
          rintro e w4 ⟨rfl, hb4⟩
          go_wp2_with fail
          refine (HKn.out _).mono ?_
          rintro e w5 ⟨rfl, hb5⟩
          have HB := Lib.hid (below_then hb4 hb5)
          clear hb4 hb5
          go_wp2
          go_ret
          exact ⟨rfl, HB.out⟩
set_option maxRecDepth 100000 in
theorem sessSends_walk (life : Nat) (window span : Int) (A : Option Addr) (n c : Nat) (f : Nat → Ac7) (W : World) (h0 : life < 18446744073709551616) (_ : -9223372036854775808 ≤ window) (_ : window ≤ 9223372036854775807) (_ : -9223372036854775808 ≤ span) (_ : span ≤ 9223372036854775807) (hc : n ≤ c) (hm : c ≤ 9223372036854775807) (hs : ActsIn W W.heap.size A n f) :
    Calls Try.prog 3 #[.int .u64 (life : Int), .int .i64 window, .int .i64 span, .slice A n c] W fun e w' => e = .returned (.bool true) ∧ Below W.heap.size W w' := by
  by_cases h : 1 ≤ window ∧ window ≤ 64 ∧ 1 ≤ span ∧ span ≤ 1000
  · obtain ⟨m, rfl⟩ := Int.eq_ofNat_of_zero_le (show 0 ≤ window by omega)
    obtain ⟨k, rfl⟩ := Int.eq_ofNat_of_zero_le (show 0 ≤ span by omega)
    exact sends_good life m k A n c f W h0 (by omega) (by omega) hc hm hs
  · exact sends_bad life window span A n c W h

namespace sessSends
set_option maxRecDepth 100000 in
theorem lifted (os : Os) (started : os.Started) (H : Type) (enc : TypeId × Value → H) :
    ReturnsInHanded {} Try.checked os 3 .any (Rows.sessSendsSpec.pre6 enc Try.prog Try.f3 Rows.sessSendsRow.domain false) (Rows.sessSendsSpec.post enc Try.prog Try.f3 false true false false) := by
  refine law_lift started (by kernel_rfl) Try.func3
    (ChangeSpec.witness6 (enc := enc) (C := Try.checked) false ⟨#[], #[.int .u64 0, .int .i64 0, .int .i64 0, .slice none 0 0], []⟩ 8 (by kernel_rfl) (by kernel_rfl) (by kernel_rfl) (by kernel_rfl))
    rfl ?_ (by kernel_rfl) (by kernel_rfl) ?_
  · intro ds h
    match ds, h with
    | [_, _, _, _], _ => rfl
  intro W base args ds p g
  have hA := g.trod
  have hval := g.val
  rw [Try.params3] at hA hval
  obtain ⟨v0, vs0, d0, ds0, p0, q0, hargs, rfl, rfl, h0, r0⟩ := trodAll_cons hA
  obtain ⟨v1, vs1, d1, ds1, p1, q1, rfl, rfl, rfl, h1, r1⟩ := trodAll_cons r0
  obtain ⟨v2, vs2, d2, ds2, p2, q2, rfl, rfl, rfl, h2, r2⟩ := trodAll_cons r1
  obtain ⟨v3, vs3, d3, ds3, p3, q3, rfl, rfl, rfl, h3, r3⟩ := trodAll_cons r2
  obtain ⟨rfl, rfl, rfl⟩ := trodAll_nil r3
  obtain rfl : args = #[v0, v1, v2, v3] := by cases args; simp_all
  obtain ⟨a0, rfl, _, _, w0⟩ := open_int Try.underlying22 (hval 0 22 v0 rfl rfl) h0
  have b0 := bounds_u64 w0
  obtain ⟨m0, rfl⟩ := Int.eq_ofNat_of_zero_le b0.1
  obtain ⟨a1, rfl, _, _, w1⟩ := open_int Try.underlying3 (hval 1 3 v1 rfl rfl) h1
  have b1 := bounds_i64 w1
  obtain ⟨a2, rfl, _, _, w2⟩ := open_int Try.underlying3 (hval 2 3 v2 rfl rfl) h2
  have b2 := bounds_i64 w2
  obtain ⟨A3, n3, c3, f3, rfl, hc3, hm3, hr3⟩ := given_acts7 (hval 3 23 v3 rfl rfl) h3
  exact sessSends_walk m0 a1 a2 A3 n3 c3 f3 W (by omega) b1.1 b1.2 b2.1 b2.2 hc3 hm3 hr3

theorem over : Rows.sessSendsRow.holds Try.pinned (OpenSpec.ofChange Rows.sessSendsSpec) :=
  OpenClaim.holds_of_wide 3 Try.f3 rfl rfl rfl rfl rfl rfl rfl ⟨rfl, rfl, rfl, rfl, rfl⟩ rfl rfl rfl rfl rfl (by kernel_rfl) Try.func3 (by kernel_rfl)
    (of_decide_eq_true (by kernel_rfl)) (by unfold Func.isWrapper; first | (rw [if_pos (by decide +kernel)]; kernel_rfl) | (rw [if_neg (by decide +kernel)]; exact ⟨rfl, rfl⟩))
    (fun os started H enc _ => lifted os started H enc)
end sessSends

theorem SessSends_proved : Rows.SessSendsSaid := sessSends.over
#print axioms SessSends_proved
end Go.Proofs.Ytfdlhefbbhblnaa
