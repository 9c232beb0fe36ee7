/- SessAll is true at every row of lists, of picks, every window and span. -/
import Derived.Test.YtjbfhffdnjahfaaSesLz
import Derived.Test.YtjbfhffdnjahfaaRows
namespace Go.Proofs.Ytjbfhffdnjahfaa
open Go.ChangeShapes Go.WideShapes Go.ChangeAt Go.RowKit Go.Deep

structure Pk7 where
  how : Int
  at_ : Int
  ack : Bool
def PicksIn (w : World) (B : Nat) (A : Option Addr) (n : Nat) (f : Nat → Pk7) : Prop :=
  0 < n → ∃ b o, A = some ⟨b, o, none⟩ ∧ b < B ∧ ∀ i, i < n → w.cell? ⟨b, o + i * 3, none⟩ = some (.int .i64 (f i).how) ∧ w.cell? ⟨b, o + i * 3 + 1, none⟩ = some (.int .i64 (f i).at_) ∧ w.cell? ⟨b, o + i * 3 + 2, none⟩ = some (.bool (f i).ack)
set_option maxRecDepth 100000 in
theorem given_picks {H : Type} {enc : TypeId × Value → H} {W : World} {base : Nat} {v : Value} {d : DataW H} {p : List MemPlace} (hv : Value.okWide Try.prog W .any base 69 v) (h : DataW.Trod enc Try.prog W 0 (fun _ => true) true 69 v d p) :
    ∃ (A : Option Addr) (n c : Nat) (f : Nat → Pk7), v = .slice A n c ∧ n ≤ c ∧ c ≤ 9223372036854775807 ∧ PicksIn W W.heap.size A n f := by
  obtain ⟨A, n, c, rfl⟩ := okWide_slice Try.underlying69 hv
  obtain ⟨fuel, hf⟩ := h
  have dflt : Pk7 := ⟨0, 0, false⟩
  rcases open_slice Try.underlying69 hf with ⟨hcs, _⟩ | ⟨a, len, cap, m, k, D, Pl, hcs, _, hl, hm, hmm, _, hi⟩
  · simp [Value.cells] at hcs
    obtain ⟨rfl, rfl, rfl⟩ := hcs
    exact ⟨none, 0, 0, fun _ => dflt, rfl, by omega, by omega, fun h => by omega⟩
  · simp [Value.cells] at hcs
    obtain ⟨rfl, rfl, rfl⟩ := hcs
    have hmm' : m = c := by simpa using hmm
    have key : ∀ i, ∃ x : Pk7, i < n → W.cell? (a.add (i * 3)) = some (.int .i64 x.how) ∧ W.cell? (a.add (i * 3 + 1)) = some (.int .i64 x.at_) ∧ W.cell? (a.add (i * 3 + 2)) = some (.bool x.ack) := by
      intro i
      by_cases hin : i < n
      · obtain ⟨cs', hc, ht'⟩ := hi i (by omega)
        have hC : Try.prog.cellsOf 74 = 3 := by kernel_rfl
        rw [hC] at hc
        obtain ⟨ys, n', hn', hy, hlen, hyl, hff⟩ := DataW.trod_struct Try.underlying74 ht'
        obtain ⟨_, hcl, hat⟩ := World.cells?_some hc
        match cs', hcl with
        | [u0, u1, u2], _ =>
          have hyl' : ys.length = 3 := hyl
          have e3 : Try.prog.cellsOf 3 = 1 := by kernel_rfl
          have e4 : Try.prog.cellsOf 4 = 1 := by kernel_rfl
          have f0 : DataW.trod enc Try.prog W 0 (fun _ => true) true n' 3 (List.take (Try.prog.cellsOf 3) (List.drop 0 [u0, u1, u2])) = ys[0]? := hff 0 _ rfl
          have f1 : DataW.trod enc Try.prog W 0 (fun _ => true) true n' 3 (List.take (Try.prog.cellsOf 3) (List.drop 1 [u0, u1, u2])) = ys[1]? := hff 1 _ rfl
          have f2 : DataW.trod enc Try.prog W 0 (fun _ => true) true n' 4 (List.take (Try.prog.cellsOf 4) (List.drop 2 [u0, u1, u2])) = ys[2]? := hff 2 _ rfl
          rw [List.getElem?_eq_getElem (by omega)] at f0 f1 f2
          simp only [e3, e4, List.drop_zero, List.drop_succ_cons, List.take_succ_cons, List.take_zero] at f0 f1 f2
          obtain ⟨z0, hz0, _, hw0⟩ := DataW.trod_int Try.underlying3 f0
          obtain ⟨z1, hz1, _, hw1⟩ := DataW.trod_int Try.underlying3 f1
          obtain ⟨z2, hz2, _⟩ := DataW.trod_bool Try.underlying4 f2
          injection hz0 with hz0
          injection hz1 with hz1
          injection hz2 with hz2
          have a0 := hat 0 (by omega)
          have a1 := hat 1 (by omega)
          have a2 := hat 2 (by omega)
          rw [Go.Deep.add_add] at a0 a1 a2
          rw [Nat.add_zero] at a0
          exact ⟨⟨z0, z1, z2⟩, fun _ => ⟨a0.trans (by rw [← hz0]; rfl), a1.trans (by rw [← hz1]; rfl), a2.trans (by rw [← hz2]; rfl)⟩⟩
      · exact ⟨dflt, fun h => absurd h hin⟩
    obtain ⟨f, hf'⟩ := Classical.axiomOfChoice key
    refine ⟨some a, n, c, f, rfl, hl, by unfold maxLen at hm; omega, fun hn => ?_⟩
    obtain ⟨b, o, spot⟩ := a
    have hc0 := (hf' 0 hn).1
    have hspot : spot = none := by simpa [Addr.add] using World.cell?_spot hc0
    subst hspot
    refine ⟨b, o, rfl, World.block_lt_of_cell? W _ (by simpa [Addr.add] using hc0), fun i hi => ?_⟩
    obtain ⟨h1, h2, h3⟩ := hf' i hi
    rw [Addr.add_lit] at h1 h2 h3
    exact ⟨h1, by rw [Nat.add_assoc]; exact h2, by rw [Nat.add_assoc]; exact h3⟩
set_option maxHeartbeats 8000000 in
set_option maxRecDepth 100000 in
theorem sessAll_walk (window span : Int) (A : Option Addr) (n c : Nat) (ls : List (List UInt8)) (A2 : Option Addr) (n2 c2 : Nat) (f : Nat → Pk7) (W : World) (_ : -9223372036854775808 ≤ window) (_ : window ≤ 9223372036854775807) (_ : -9223372036854775808 ≤ span) (_ : span ≤ 9223372036854775807) (hc : n ≤ c) (hm : c ≤ 9223372036854775807) (hp : Prt W W.heap.size A n ls) (_ : n2 ≤ c2) (_ : c2 ≤ 9223372036854775807) (hs : PicksIn W W.heap.size A2 n2 f) :
    Calls Try.prog 6 #[.int .i64 window, .int .i64 span, .slice A n c, .slice A2 n2 c2] W fun e w' => e = .returned (.bool true) ∧ Below W.heap.size W w' := by
  have HKn := Lib.hid sknown_any
  have HFw := Lib.hid (few_any A n c W.heap.size ls W (by omega) hp)
  have HP := Lib.hid hp
  have HS := Lib.hid hs
  have Hn := Lib.hid hp.1
  have HSt := Lib.hid (fun h1 h2 => start_anyY window span A n c ls W hp h1 h2)
  clear hp hs
  cases hfw : fewB ls with
  | false =>
    rw [hfw] at HFw
    go_enter Try.func6, Try.ntmps6
    go_wp2_with fail
    refine HFw.out.mono ?_
    rintro e w1 ⟨rfl, rfl⟩
    go_wp2_with fail
    refine (HKn.out w1).mono ?_
    rintro e w2 ⟨rfl, hb⟩
    have HB := Lib.hid hb
    clear hb
    go_wp2
    go_ret
    exact ⟨rfl, HB.out⟩
  | true =>
    rw [hfw] at HFw
    have hbods : ∀ b ∈ ls, b.length ≤ 1000 := by
      unfold fewB at hfw
      rw [Bool.and_eq_true] at hfw
      intro b hb
      simpa using List.all_eq_true.1 hfw.1 b hb
    have hn60 : ls.length ≤ 60 := by
      unfold fewB at hfw
      rw [Bool.and_eq_true] at hfw
      simpa using hfw.2
    have HST := Lib.hid (HSt.out hn60 hbods)
    rw [Hn.out] at hn60
    clear hfw hbods HSt
    go_enter Try.func6, Try.ntmps6
    go_wp2_with fail
    refine HFw.out.mono ?_
    rintro e w1 ⟨rfl, rfl⟩
    go_wp2_with fail
    refine HST.out.mono ?_
    rintro e w2 ⟨gx, gy, g, rfl, x0, b0⟩
    have X0 := Lib.hid x0
    clear x0 b0 HST HFw
    go_wp2_with fail
    obtain ⟨N, hN⟩ : ∃ N, N = min n2 100 := ⟨_, rfl⟩
    go_loopg [10] N (fun gk j wr => ∃ k : Nat, j = .int .i64 (k : Int) ∧ k + gk = N ∧ Hid (LnY w1 wr gx gy g ls k))
    case atStart => exact ⟨0, rfl, by omega, X0⟩
    case round =>
      obtain ⟨k, rfl, hkg, HX⟩ := hrel
      by_cases hk : k < N
      · have k1 : (k : Int) < (n2 : Int) := by omega
        have k2 : (k : Int) < 100 := by omega
        obtain ⟨b, o, rfl, hlt, hcs⟩ := HS.out (by omega)
        obtain ⟨z0, z1, z2⟩ := hcs k (by omega)
        have hbw : Below w1.heap.size w1 wr := by
          obtain ⟨Fx, Fy, sx, ry, vt, vb, vo, ts, bk, out, hl, _⟩ := HX.out
          exact hl.tw.below
        replace z0 := (hbw.cell (p := ⟨b, o + k * 3, none⟩) hlt).trans z0
        replace z1 := (hbw.cell (p := ⟨b, o + k * 3 + 1, none⟩) hlt).trans z1
        replace z2 := (hbw.cell (p := ⟨b, o + k * 3 + 2, none⟩) hlt).trans z2
        have HPK := Lib.hid (HX.out.pick (by omega) (f k).how (f k).at_ (f k).ack)
        generalize f k = fk at *
        obtain ⟨fh, fa, fc⟩ := fk
        dsimp only at z0 z1 z2 HPK
        clear hcs hbw HX
        go_wp2_with fail
        refine HPK.out.mono ?_
        rintro e w3 ⟨rfl, x3⟩
        have X3 := Lib.hid x3
        clear x3 HPK z0 z1 z2
        go_wp2
        go_roundg (gk - 1)
        case measure => omega
        case rel => exact ⟨k + 1, by go_num, by omega, X3⟩
      · obtain rfl : k = N := by omega
        have hz : Hid (OutZ w1 wr gx gy g ls 0) := by
          obtain ⟨Fx, Fy, sx, ry, vt, vb, vo, ts, bk, out, hl, hok, q1, q2, q3, q4, q5⟩ := HX.out
          refine Lib.hid ⟨Fx, Fy, sx, ry, vt, vb, vo, ts, bk, out, hl, hok, by omega, by omega, by omega, q5, .inr ?_⟩
          have hw := sx.wait_le q5 fun q hq => (hl.tw.ps.ok.bods q hq).2
          have hcm := hok.came
          unfold Sd.toGo
          omega
        clear HX hkg
        have hcond : (k : Int) < (n2 : Int) → ¬ (k : Int) < 100 := by omega
        by_cases k1 : k < n2
        · have k1' : (k : Int) < (n2 : Int) := by omega
          have k2' := hcond k1'
          clear hcond
          go_wp2_with fail
          
          have hnn : 4 * (ls.length + 1) = 4 * (n + 1) := by rw [Hn.out]
          obtain ⟨M, hM⟩ : ∃ M, M = 4 * (n + 1) := ⟨_, rfl⟩
          have hwr : IntKind.i64.wrap (4 * ((n : Int) + 1)) = 4 * ((n : Int) + 1) := by rw [IntKind.wrap_i64]; omega
          clear hN hk k1 k1' k2'
          go_loopg [12] M (fun gk j wr => ∃ k : Nat, j = .int .i64 (k : Int) ∧ k + gk = M ∧ Hid (OutZ w1 wr gx gy g ls k))
          case atStart => exact ⟨0, rfl, by omega, hz⟩
          case round =>
            obtain ⟨k, rfl, hkg, HZ⟩ := hrel
            obtain ⟨Fx, Fy, sx, ry, vt, vb, vo, ts, bk, out, hl, hok, t1, t2, t3, t4, t5⟩ := HZ.out
            by_cases hk : k < M
            · have hkM : (k : Int) < 4 * ((n : Int) + 1) := by omega
              by_cases hq : sx.queue.length = 0
              · clear t1 t2 t3 t4 t5 HZ hz
                have hout : out.map (·.1) = ls := by
                  have h1 := hok.outs
                  have h2 := hok.came
                  have h3 := hok.le
                  rw [h1]
                  exact List.take_of_length_le (by omega)
                have holen : out.length = ls.length := by
                  have := congrArg List.length hout
                  rwa [List.length_map] at this
                obtain ⟨Ao, co, hvo, hco⟩ := own_shape hl.outR.own
                have y0 : wr.cell? ⟨g, 0, none⟩ = some (.pointer (some ⟨gx, 0, none⟩)) := hl.box.cell 0
                have y4 : wr.cell? ⟨g, 4, none⟩ = some vo := hl.box.cell 4
                have hor := hl.outR
                rw [hvo, holen, Hn.out] at y4 hor
                have hpr := hor.prt (by rw [holen, Hn.out])
                rw [hout] at hpr
                have HLF : Hid (Calls Try.prog 20 #[.pointer (some ⟨gx, 0, none⟩)] wr fun e w' => e = .returned (.int .i64 0) ∧ wr = w') := Lib.hid (by
                  have := hl.tw.left
                  rw [hq] at this
                  exact this)
                have HSL : Hid (Calls Try.prog 26 #[.slice Ao n co, .slice A n c] wr fun e w' => e = .returned (.bool true) ∧ ∃ q, wr.drewN q = w') := Lib.hid (by
                  have := sameL_any Ao A n co n c _ _ _ _ wr (by omega) (by omega) hpr (HP.out.below hl.tw.below)
                  rw [show (ls == ls) = true by simp] at this
                  exact this)
                have HBW := Lib.hid hl.tw.below
                clear hl hok hout holen hvo hco hor hpr hq
                go_wp2_with (first
                  | (go_at_call 20; refine HLF.out.mono ?_; rintro e w7 ⟨rfl, rfl⟩)
                  | (go_at_call 26; refine HSL.out.mono ?_; rintro e w8 ⟨rfl, q, rfl⟩)
                  | (refine (HKn.out _).mono ?_; rintro e w9 ⟨rfl, hb9⟩; have HB := Lib.hid (below_then HBW.out (below_then (bel_drewN (Below.refl _ _) q) hb9)); clear hb9))
                go_ret
                exact ⟨rfl, HB.out⟩
              · have y0 : wr.cell? ⟨g, 0, none⟩ = some (.pointer (some ⟨gx, 0, none⟩)) := hl.box.cell 0
                obtain ⟨ql, hql⟩ : ∃ ql, ql = sx.queue.length := ⟨_, rfl⟩
                have HLF : Hid (Calls Try.prog 20 #[.pointer (some ⟨gx, 0, none⟩)] wr fun e w' => e = .returned (.int .i64 (ql : Int)) ∧ wr = w') := Lib.hid (by rw [hql]; exact hl.tw.left)
                have hqp : (0 : Int) < (ql : Int) := by omega
                obtain ⟨At, nt, ct, no, hvt, hnt, hno, HT, HF, HG⟩ := tick_facts hl (by omega)
                have hso := sd_out_len sx
                have hcm := hok.came
                have hln := hok.len
                have hnb : nt ≤ 7000 := by omega
                have hnob : no ≤ 60 := by omega
                have j2 : wr.cell? ⟨g, 2, none⟩ = some (.slice At nt ct) := by rw [← hvt]; exact hl.box.cell 2
                have hkk : (sx.queue.length = 0) = False := by simp [hq]
                have HOK := Lib.hid (And.intro hok hl.tw.ps.ok.win.1)
                have HRE := Lib.hid (And.intro t3 (And.intro t4 (And.intro t5 (And.intro hq hcm))))
                obtain ⟨i1, hi1, hy0, hy1, hy2⟩ := info_parts infoSeg7
                have HI1 := Lib.hid (And.intro hi1 (And.intro hy0 (And.intro hy1 hy2)))
                have HBK := Lib.hid t2
                have HNT := Lib.hid hnt
                clear hl hok t1 t3 t4 t5 hq hkk hql hnt hno hso hcm hln hi1 hy0 hy1 hy2 HZ hvt hz
                go_upto_region 15 with (go_at_call 20; refine HLF.out.mono ?_; rintro e w7 ⟨rfl, rfl⟩)
                clear HLF
                go_cut [] from 43 to 113 (fun wc => ∃ (A9 : Option Addr) (c9 : Nat) (T : List Sge), T.length = nt + no ∧ Hid (InA w1 wc gx gy g ls sx.tickS (.slice A9 (nt + no) c9) T 0 ∧ ∀ q r, sx.queue = q :: r → dueQ sx.span (sx.tick + 1) q = true → ∃ e ∈ T, e.1.seq = sx.came + 1))
                case first =>
                  first
                  | (go_region_law (first
                      | (go_simp; go_at_call 15; refine (HT.out 1).mono ?_; rintro e w2 ⟨Ae, ce, es, rfl, t1⟩; obtain ⟨m2, mf, mo, mz, ms⟩ := HF.out _ _ _ _ t1)
                      | ((refine step_append_app _ rfl _ _ 45 (by rfl) w1.heap.size 36 i1 _ 4 48 Try.underlying45 HI1.out.1 HI1.out.2.1 HI1.out.2.2.1 HI1.out.2.2.2 rfl (.slice At nt ct) nt (sgC ts) (by rfl) mo.out Ae no ce (sgC es) (by rfl) (by rw [sgC_len, ← ms.out.1]) ms.out.2.1 ms.out.2.2.1 ms.out.2.2.2 (by unfold maxLen; omega) (by omega) mz ?_); intro v' w3 happ; (obtain ⟨k3, fk3, H9⟩ := HG.out _ _ _ _ t1 v' w3 happ); (obtain ⟨A9, c9, rfl, _⟩ := own_shape happ.own); clear happ)))
                  | fail
                  all_goals
                    have HL := Lib.hid (H9.out.set 2 (.slice A9 (nt + no) c9))
                    have hno2 : no = es.length := ms.out.1
                    clear k3 fk3 H9 m2 mf mo ms HF HG HT
                    go_wp2_with fail
                    go_meet
                    refine ⟨A9, c9, ts ++ es, by rw [List.length_append]; have := HNT.out; omega, Lib.hid ⟨⟨Fx, Fy, ry, vb, vo, bk, out, HL.out, ?_, by omega, fun i hi h => by omega⟩, fun q r hq hd => ?_⟩⟩
                    · have hok' := HOK.out.1.tick
                      rw [← t1.out.1, ← List.map_append] at hok'
                      exact hok'
                    · have hm := out_head sx q r hq HOK.out.2 hd
                      rw [← t1.out.1] at hm
                      obtain ⟨e, he, hes⟩ := List.mem_map.1 hm
                      exact ⟨e, List.mem_append_right _ he, by rw [hes]⟩
                case rest =>
                  obtain ⟨A9, c9, T, hTl, HA⟩ := hcut
                  obtain ⟨nT, hnT⟩ : ∃ nT, nT = nt + no := ⟨_, rfl⟩
                  rw [← hnT] at hTl HA
                  have hnTb : nT ≤ 8000 := by omega
                  have HA0 : Hid (InA w1 wc gx gy g ls sx.tickS (.slice A9 nT c9) T 0) := Lib.hid HA.out.1
                  have HD := Lib.hid HA.out.2
                  have HW1 := Lib.hid HOK.out.2
                  clear HA HI1 HT HF HG j2 y0 hqp HOK HNT HBK hnT hnb hnob
                  obtain ⟨g12, hg12⟩ : ∃ G, G = gk := ⟨_, rfl⟩
                  subst hg12
                  go_wp2_with fail
                  go_loopg [13] nT (fun gk j wr => ∃ i : Nat, j = .int .i64 (i : Int) ∧ i + gk = nT ∧ Hid (InA w1 wr gx gy g ls sx.tickS (.slice A9 nT c9) T i))
                  case atStart => exact ⟨0, rfl, by omega, HA0⟩
                  case round =>
                    obtain ⟨i, rfl, hig, HI⟩ := hrel
                    by_cases hi : i < nT
                    · have hiT : (i : Int) < (nT : Int) := by omega
                      obtain ⟨R, cb, el, es, nx, cx, ea, Ax, hv, x5, x0, x1, x2, x3, hcall⟩ := HI.out.next (by omega) (by omega)
                      injection hv with e1 e2 e3
                      subst e1
                      subst e3
                      clear e2
                      have HC := Lib.hid hcall
                      clear hcall HI HA0
                      go_wp2_with fail
                      refine HC.out.mono ?_
                      rintro e w9 ⟨rfl, h9⟩
                      have H9 := Lib.hid h9
                      clear h9 HC x0 x1 x2 x3 x5
                      go_wp2
                      go_roundg (gk - 1)
                      case measure => omega
                      case rel => exact ⟨i + 1, by go_num, by omega, H9⟩
                    · have hiT : ¬ (i : Int) < (nT : Int) := by omega
                      obtain ⟨x5, xf⟩ := HI.out.cell
                      obtain ⟨Ab, cb, BK, hbl, hB, hBd⟩ := HI.out.done (by omega)
                      have HBD : Hid (∀ q r, sx.queue = q :: r → dueQ sx.span (sx.tick + 1) q = true → ∃ e ∈ BK, sx.came + 1 ≤ e.1.seq) := Lib.hid fun q r hq hd => by
                        obtain ⟨e, he, hs⟩ := HD.out q r hq hd
                        exact hBd e he hs
                      obtain ⟨nB, hnB⟩ : ∃ nB, nB = BK.length := ⟨_, rfl⟩
                      rw [← hnB] at hB
                      have HB := Lib.hid hB
                      have hnBb : nB ≤ 100000 := by omega
                      have HNB := Lib.hid hnB
                      clear hB hBd HD HI HA0 hbl hnB hTl
                      go_wp2_with fail
                      go_loopg [14] nB (fun gk j wr => ∃ i : Nat, j = .int .i64 (i : Int) ∧ i + gk = nB ∧ Hid (InB w1 wr gx gy g ls sx.tickS (.slice Ab nB cb) BK i))
                      case atStart => exact ⟨0, rfl, by omega, HB⟩
                      case round =>
                        obtain ⟨j, rfl, hjg, HJ⟩ := hrel
                        by_cases hj : j < nB
                        · have hjT : (j : Int) < (nB : Int) := by omega
                          obtain ⟨R, cb, el, es, nx, cx, ea, Ax, hv, x5, x0, x1, x2, x3, hcall⟩ := HJ.out.next (by rw [← HNB.out]; exact hj)
                          injection hv with e1 e2 e3
                          subst e1
                          subst e3
                          clear e2
                          have HC := Lib.hid hcall
                          clear hcall HJ HB
                          go_wp2_with fail
                          refine HC.out.mono ?_
                          rintro e w9 ⟨rfl, h9⟩
                          have H9 := Lib.hid h9
                          clear h9 HC x0 x1 x2 x3 x5
                          go_wp2
                          go_roundg (gk - 1)
                          case measure => omega
                          case rel => exact ⟨j + 1, by go_num, by omega, H9⟩
                        · have hjT : ¬ (j : Int) < (nB : Int) := by omega
                          obtain ⟨z5, zf⟩ := HJ.out.cell
                          obtain ⟨r1, r2, r3, r4, r5⟩ := HRE.out
                          have HZ2 := Lib.hid (HJ.out.done (k := k) (by rw [← HNB.out]; omega) HW1.out r2 r1 r5 (by omega) (r3.resolve_left r4) HBD.out)
                          clear r1 r2 r3 r4 r5 HJ HB
                          go_wp2
                          go_roundg (g12 - 1)
                          case measure => omega
                          case rel => exact ⟨k + 1, by go_num, by omega, HZ2⟩
            · obtain rfl : k = M := by omega
              have hq : sx.queue.length = 0 := by
                rcases t5 with h | h
                · exact h
                · unfold Sd.toGo at h
                  omega
              have hkM : ¬ (k : Int) < 4 * ((n : Int) + 1) := by omega
              clear t1 t2 t3 t4 t5 HZ hz
              have hout : out.map (·.1) = ls := by
                have h1 := hok.outs
                have h2 := hok.came
                have h3 := hok.le
                rw [h1]
                exact List.take_of_length_le (by omega)
              have holen : out.length = ls.length := by
                have := congrArg List.length hout
                rwa [List.length_map] at this
              obtain ⟨Ao, co, hvo, hco⟩ := own_shape hl.outR.own
              have y0 : wr.cell? ⟨g, 0, none⟩ = some (.pointer (some ⟨gx, 0, none⟩)) := hl.box.cell 0
              have y4 : wr.cell? ⟨g, 4, none⟩ = some vo := hl.box.cell 4
              have hor := hl.outR
              rw [hvo, holen, Hn.out] at y4 hor
              have hpr := hor.prt (by rw [holen, Hn.out])
              rw [hout] at hpr
              have HLF : Hid (Calls Try.prog 20 #[.pointer (some ⟨gx, 0, none⟩)] wr fun e w' => e = .returned (.int .i64 0) ∧ wr = w') := Lib.hid (by
                have := hl.tw.left
                rw [hq] at this
                exact this)
              have HSL : Hid (Calls Try.prog 26 #[.slice Ao n co, .slice A n c] wr fun e w' => e = .returned (.bool true) ∧ ∃ q, wr.drewN q = w') := Lib.hid (by
                have := sameL_any Ao A n co n c _ _ _ _ wr (by omega) (by omega) hpr (HP.out.below hl.tw.below)
                rw [show (ls == ls) = true by simp] at this
                exact this)
              have HBW := Lib.hid hl.tw.below
              clear hl hok hout holen hvo hco hor hpr hq
              go_wp2_with (first
                | (go_at_call 20; refine HLF.out.mono ?_; rintro e w7 ⟨rfl, rfl⟩)
                | (go_at_call 26; refine HSL.out.mono ?_; rintro e w8 ⟨rfl, q, rfl⟩)
                | (refine (HKn.out _).mono ?_; rintro e w9 ⟨rfl, hb9⟩; have HB := Lib.hid (below_then HBW.out (below_then (bel_drewN (Below.refl _ _) q) hb9)); clear hb9))
              go_ret
              exact ⟨rfl, HB.out⟩
        · have k1' : ¬ (k : Int) < (n2 : Int) := by omega
          clear hcond
          go_wp2_with fail
          
          have hnn : 4 * (ls.length + 1) = 4 * (n + 1) := by rw [Hn.out]
          obtain ⟨M, hM⟩ : ∃ M, M = 4 * (n + 1) := ⟨_, rfl⟩
          have hwr : IntKind.i64.wrap (4 * ((n : Int) + 1)) = 4 * ((n : Int) + 1) := by rw [IntKind.wrap_i64]; omega
          clear hN hk k1 k1' 
          go_loopg [12] M (fun gk j wr => ∃ k : Nat, j = .int .i64 (k : Int) ∧ k + gk = M ∧ Hid (OutZ w1 wr gx gy g ls k))
          case atStart => exact ⟨0, rfl, by omega, hz⟩
          case round =>
            obtain ⟨k, rfl, hkg, HZ⟩ := hrel
            obtain ⟨Fx, Fy, sx, ry, vt, vb, vo, ts, bk, out, hl, hok, t1, t2, t3, t4, t5⟩ := HZ.out
            by_cases hk : k < M
            · have hkM : (k : Int) < 4 * ((n : Int) + 1) := by omega
              by_cases hq : sx.queue.length = 0
              · clear t1 t2 t3 t4 t5 HZ hz
                have hout : out.map (·.1) = ls := by
                  have h1 := hok.outs
                  have h2 := hok.came
                  have h3 := hok.le
                  rw [h1]
                  exact List.take_of_length_le (by omega)
                have holen : out.length = ls.length := by
                  have := congrArg List.length hout
                  rwa [List.length_map] at this
                obtain ⟨Ao, co, hvo, hco⟩ := own_shape hl.outR.own
                have y0 : wr.cell? ⟨g, 0, none⟩ = some (.pointer (some ⟨gx, 0, none⟩)) := hl.box.cell 0
                have y4 : wr.cell? ⟨g, 4, none⟩ = some vo := hl.box.cell 4
                have hor := hl.outR
                rw [hvo, holen, Hn.out] at y4 hor
                have hpr := hor.prt (by rw [holen, Hn.out])
                rw [hout] at hpr
                have HLF : Hid (Calls Try.prog 20 #[.pointer (some ⟨gx, 0, none⟩)] wr fun e w' => e = .returned (.int .i64 0) ∧ wr = w') := Lib.hid (by
                  have := hl.tw.left
                  rw [hq] at this
                  exact this)
                have HSL : Hid (Calls Try.prog 26 #[.slice Ao n co, .slice A n c] wr fun e w' => e = .returned (.bool true) ∧ ∃ q, wr.drewN q = w') := Lib.hid (by
                  have := sameL_any Ao A n co n c _ _ _ _ wr (by omega) (by omega) hpr (HP.out.below hl.tw.below)
                  rw [show (ls == ls) = true by simp] at this
                  exact this)
                have HBW := Lib.hid hl.tw.below
                clear hl hok hout holen hvo hco hor hpr hq
                go_wp2_with (first
                  | (go_at_call 20; refine HLF.out.mono ?_; rintro e w7 ⟨rfl, rfl⟩)
                  | (go_at_call 26; refine HSL.out.mono ?_; rintro e w8 ⟨rfl, q, rfl⟩)
                  | (refine (HKn.out _).mono ?_; rintro e w9 ⟨rfl, hb9⟩; have HB := Lib.hid (below_then HBW.out (below_then (bel_drewN (Below.refl _ _) q) hb9)); clear hb9))
                go_ret
                exact ⟨rfl, HB.out⟩
              · have y0 : wr.cell? ⟨g, 0, none⟩ = some (.pointer (some ⟨gx, 0, none⟩)) := hl.box.cell 0
                obtain ⟨ql, hql⟩ : ∃ ql, ql = sx.queue.length := ⟨_, rfl⟩
                have HLF : Hid (Calls Try.prog 20 #[.pointer (some ⟨gx, 0, none⟩)] wr fun e w' => e = .returned (.int .i64 (ql : Int)) ∧ wr = w') := Lib.hid (by rw [hql]; exact hl.tw.left)
                have hqp : (0 : Int) < (ql : Int) := by omega
                obtain ⟨At, nt, ct, no, hvt, hnt, hno, HT, HF, HG⟩ := tick_facts hl (by omega)
                have hso := sd_out_len sx
                have hcm := hok.came
                have hln := hok.len
                have hnb : nt ≤ 7000 := by omega
                have hnob : no ≤ 60 := by omega
                have j2 : wr.cell? ⟨g, 2, none⟩ = some (.slice At nt ct) := by rw [← hvt]; exact hl.box.cell 2
                have hkk : (sx.queue.length = 0) = False := by simp [hq]
                have HOK := Lib.hid (And.intro hok hl.tw.ps.ok.win.1)
                have HRE := Lib.hid (And.intro t3 (And.intro t4 (And.intro t5 (And.intro hq hcm))))
                obtain ⟨i1, hi1, hy0, hy1, hy2⟩ := info_parts infoSeg7
                have HI1 := Lib.hid (And.intro hi1 (And.intro hy0 (And.intro hy1 hy2)))
                have HBK := Lib.hid t2
                have HNT := Lib.hid hnt
                clear hl hok t1 t3 t4 t5 hq hkk hql hnt hno hso hcm hln hi1 hy0 hy1 hy2 HZ hvt hz
                go_upto_region 15 with (go_at_call 20; refine HLF.out.mono ?_; rintro e w7 ⟨rfl, rfl⟩)
                clear HLF
                go_cut [] from 43 to 113 (fun wc => ∃ (A9 : Option Addr) (c9 : Nat) (T : List Sge), T.length = nt + no ∧ Hid (InA w1 wc gx gy g ls sx.tickS (.slice A9 (nt + no) c9) T 0 ∧ ∀ q r, sx.queue = q :: r → dueQ sx.span (sx.tick + 1) q = true → ∃ e ∈ T, e.1.seq = sx.came + 1))
                case first =>
                  first
                  | (go_region_law (first
                      | (go_simp; go_at_call 15; refine (HT.out 1).mono ?_; rintro e w2 ⟨Ae, ce, es, rfl, t1⟩; obtain ⟨m2, mf, mo, mz, ms⟩ := HF.out _ _ _ _ t1)
                      | ((refine step_append_app _ rfl _ _ 45 (by rfl) w1.heap.size 36 i1 _ 4 48 Try.underlying45 HI1.out.1 HI1.out.2.1 HI1.out.2.2.1 HI1.out.2.2.2 rfl (.slice At nt ct) nt (sgC ts) (by rfl) mo.out Ae no ce (sgC es) (by rfl) (by rw [sgC_len, ← ms.out.1]) ms.out.2.1 ms.out.2.2.1 ms.out.2.2.2 (by unfold maxLen; omega) (by omega) mz ?_); intro v' w3 happ; (obtain ⟨k3, fk3, H9⟩ := HG.out _ _ _ _ t1 v' w3 happ); (obtain ⟨A9, c9, rfl, _⟩ := own_shape happ.own); clear happ)))
                  | fail
                  all_goals
                    have HL := Lib.hid (H9.out.set 2 (.slice A9 (nt + no) c9))
                    have hno2 : no = es.length := ms.out.1
                    clear k3 fk3 H9 m2 mf mo ms HF HG HT
                    go_wp2_with fail
                    go_meet
                    refine ⟨A9, c9, ts ++ es, by rw [List.length_append]; have := HNT.out; omega, Lib.hid ⟨⟨Fx, Fy, ry, vb, vo, bk, out, HL.out, ?_, by omega, fun i hi h => by omega⟩, fun q r hq hd => ?_⟩⟩
                    · have hok' := HOK.out.1.tick
                      rw [← t1.out.1, ← List.map_append] at hok'
                      exact hok'
                    · have hm := out_head sx q r hq HOK.out.2 hd
                      rw [← t1.out.1] at hm
                      obtain ⟨e, he, hes⟩ := List.mem_map.1 hm
                      exact ⟨e, List.mem_append_right _ he, by rw [hes]⟩
                case rest =>
                  obtain ⟨A9, c9, T, hTl, HA⟩ := hcut
                  obtain ⟨nT, hnT⟩ : ∃ nT, nT = nt + no := ⟨_, rfl⟩
                  rw [← hnT] at hTl HA
                  have hnTb : nT ≤ 8000 := by omega
                  have HA0 : Hid (InA w1 wc gx gy g ls sx.tickS (.slice A9 nT c9) T 0) := Lib.hid HA.out.1
                  have HD := Lib.hid HA.out.2
                  have HW1 := Lib.hid HOK.out.2
                  clear HA HI1 HT HF HG j2 y0 hqp HOK HNT HBK hnT hnb hnob
                  obtain ⟨g12, hg12⟩ : ∃ G, G = gk := ⟨_, rfl⟩
                  subst hg12
                  go_wp2_with fail
                  go_loopg [13] nT (fun gk j wr => ∃ i : Nat, j = .int .i64 (i : Int) ∧ i + gk = nT ∧ Hid (InA w1 wr gx gy g ls sx.tickS (.slice A9 nT c9) T i))
                  case atStart => exact ⟨0, rfl, by omega, HA0⟩
                  case round =>
                    obtain ⟨i, rfl, hig, HI⟩ := hrel
                    by_cases hi : i < nT
                    · have hiT : (i : Int) < (nT : Int) := by omega
                      obtain ⟨R, cb, el, es, nx, cx, ea, Ax, hv, x5, x0, x1, x2, x3, hcall⟩ := HI.out.next (by omega) (by omega)
                      injection hv with e1 e2 e3
                      subst e1
                      subst e3
                      clear e2
                      have HC := Lib.hid hcall
                      clear hcall HI HA0
                      go_wp2_with fail
                      refine HC.out.mono ?_
                      rintro e w9 ⟨rfl, h9⟩
                      have H9 := Lib.hid h9
                      clear h9 HC x0 x1 x2 x3 x5
                      go_wp2
                      go_roundg (gk - 1)
                      case measure => omega
                      case rel => exact ⟨i + 1, by go_num, by omega, H9⟩
                    · have hiT : ¬ (i : Int) < (nT : Int) := by omega
                      obtain ⟨x5, xf⟩ := HI.out.cell
                      obtain ⟨Ab, cb, BK, hbl, hB, hBd⟩ := HI.out.done (by omega)
                      have HBD : Hid (∀ q r, sx.queue = q :: r → dueQ sx.span (sx.tick + 1) q = true → ∃ e ∈ BK, sx.came + 1 ≤ e.1.seq) := Lib.hid fun q r hq hd => by
                        obtain ⟨e, he, hs⟩ := HD.out q r hq hd
                        exact hBd e he hs
                      obtain ⟨nB, hnB⟩ : ∃ nB, nB = BK.length := ⟨_, rfl⟩
                      rw [← hnB] at hB
                      have HB := Lib.hid hB
                      have hnBb : nB ≤ 100000 := by omega
                      have HNB := Lib.hid hnB
                      clear hB hBd HD HI HA0 hbl hnB hTl
                      go_wp2_with fail
                      go_loopg [14] nB (fun gk j wr => ∃ i : Nat, j = .int .i64 (i : Int) ∧ i + gk = nB ∧ Hid (InB w1 wr gx gy g ls sx.tickS (.slice Ab nB cb) BK i))
                      case atStart => exact ⟨0, rfl, by omega, HB⟩
                      case round =>
                        obtain ⟨j, rfl, hjg, HJ⟩ := hrel
                        by_cases hj : j < nB
                        · have hjT : (j : Int) < (nB : Int) := by omega
                          obtain ⟨R, cb, el, es, nx, cx, ea, Ax, hv, x5, x0, x1, x2, x3, hcall⟩ := HJ.out.next (by rw [← HNB.out]; exact hj)
                          injection hv with e1 e2 e3
                          subst e1
                          subst e3
                          clear e2
                          have HC := Lib.hid hcall
                          clear hcall HJ HB
                          go_wp2_with fail
                          refine HC.out.mono ?_
                          rintro e w9 ⟨rfl, h9⟩
                          have H9 := Lib.hid h9
                          clear h9 HC x0 x1 x2 x3 x5
                          go_wp2
                          go_roundg (gk - 1)
                          case measure => omega
                          case rel => exact ⟨j + 1, by go_num, by omega, H9⟩
                        · have hjT : ¬ (j : Int) < (nB : Int) := by omega
                          obtain ⟨z5, zf⟩ := HJ.out.cell
                          obtain ⟨r1, r2, r3, r4, r5⟩ := HRE.out
                          have HZ2 := Lib.hid (HJ.out.done (k := k) (by rw [← HNB.out]; omega) HW1.out r2 r1 r5 (by omega) (r3.resolve_left r4) HBD.out)
                          clear r1 r2 r3 r4 r5 HJ HB
                          go_wp2
                          go_roundg (g12 - 1)
                          case measure => omega
                          case rel => exact ⟨k + 1, by go_num, by omega, HZ2⟩
            · obtain rfl : k = M := by omega
              have hq : sx.queue.length = 0 := by
                rcases t5 with h | h
                · exact h
                · unfold Sd.toGo at h
                  omega
              have hkM : ¬ (k : Int) < 4 * ((n : Int) + 1) := by omega
              clear t1 t2 t3 t4 t5 HZ hz
              have hout : out.map (·.1) = ls := by
                have h1 := hok.outs
                have h2 := hok.came
                have h3 := hok.le
                rw [h1]
                exact List.take_of_length_le (by omega)
              have holen : out.length = ls.length := by
                have := congrArg List.length hout
                rwa [List.length_map] at this
              obtain ⟨Ao, co, hvo, hco⟩ := own_shape hl.outR.own
              have y0 : wr.cell? ⟨g, 0, none⟩ = some (.pointer (some ⟨gx, 0, none⟩)) := hl.box.cell 0
              have y4 : wr.cell? ⟨g, 4, none⟩ = some vo := hl.box.cell 4
              have hor := hl.outR
              rw [hvo, holen, Hn.out] at y4 hor
              have hpr := hor.prt (by rw [holen, Hn.out])
              rw [hout] at hpr
              have HLF : Hid (Calls Try.prog 20 #[.pointer (some ⟨gx, 0, none⟩)] wr fun e w' => e = .returned (.int .i64 0) ∧ wr = w') := Lib.hid (by
                have := hl.tw.left
                rw [hq] at this
                exact this)
              have HSL : Hid (Calls Try.prog 26 #[.slice Ao n co, .slice A n c] wr fun e w' => e = .returned (.bool true) ∧ ∃ q, wr.drewN q = w') := Lib.hid (by
                have := sameL_any Ao A n co n c _ _ _ _ wr (by omega) (by omega) hpr (HP.out.below hl.tw.below)
                rw [show (ls == ls) = true by simp] at this
                exact this)
              have HBW := Lib.hid hl.tw.below
              clear hl hok hout holen hvo hco hor hpr hq
              go_wp2_with (first
                | (go_at_call 20; refine HLF.out.mono ?_; rintro e w7 ⟨rfl, rfl⟩)
                | (go_at_call 26; refine HSL.out.mono ?_; rintro e w8 ⟨rfl, q, rfl⟩)
                | (refine (HKn.out _).mono ?_; rintro e w9 ⟨rfl, hb9⟩; have HB := Lib.hid (below_then HBW.out (below_then (bel_drewN (Below.refl _ _) q) hb9)); clear hb9))
              go_ret
              exact ⟨rfl, HB.out⟩

namespace sessAll
set_option maxRecDepth 100000 in
theorem lifted (os : Os) (started : os.Started) (H : Type) (enc : TypeId × Value → H) :
    ReturnsInHanded {} Try.checked os 6 .any (Rows.sessAllSpec.pre6 enc Try.prog Try.f6 Rows.sessAllRow.domain false) (Rows.sessAllSpec.post enc Try.prog Try.f6 false true false false) := by
  refine law_lift started (by kernel_rfl) Try.func6
    (ChangeSpec.witness6 (enc := enc) (C := Try.checked) false ⟨#[], #[.int .i64 0, .int .i64 0, .slice none 0 0, .slice none 0 0], []⟩ 8 (by kernel_rfl) (by kernel_rfl) (by kernel_rfl) (by kernel_rfl))
    rfl ?_ (by kernel_rfl) (by kernel_rfl) ?_
  · intro ds h
    match ds, h with
    | [_, _, _, _], _ => rfl
  intro W base args ds p g
  have hA := g.trod
  have hval := g.val
  rw [Try.params6] at hA hval
  obtain ⟨v0, vs0, d0, ds0, p0, q0, hargs, rfl, rfl, h0, r0⟩ := trodAll_cons hA
  obtain ⟨v1, vs1, d1, ds1, p1, q1, rfl, rfl, rfl, h1, r1⟩ := trodAll_cons r0
  obtain ⟨v2, vs2, d2, ds2, p2, q2, rfl, rfl, rfl, h2, r2⟩ := trodAll_cons r1
  obtain ⟨v3, vs3, d3, ds3, p3, q3, rfl, rfl, rfl, h3, r3⟩ := trodAll_cons r2
  obtain ⟨rfl, rfl, rfl⟩ := trodAll_nil r3
  obtain rfl : args = #[v0, v1, v2, v3] := by cases args; simp_all
  obtain ⟨a0, rfl, _, _, w0⟩ := open_int Try.underlying3 (hval 0 3 v0 rfl rfl) h0
  have b0 := bounds_i64 w0
  obtain ⟨a1, rfl, _, _, w1⟩ := open_int Try.underlying3 (hval 1 3 v1 rfl rfl) h1
  have b1 := bounds_i64 w1
  obtain ⟨A2, n2, c2, ls2, rfl, hc2, hm2, hr2⟩ := given_prt (hval 2 33 v2 rfl rfl) h2
  obtain ⟨A3, n3, c3, f3, rfl, hc3, hm3, hr3⟩ := given_picks (hval 3 69 v3 rfl rfl) h3
  exact sessAll_walk a0 a1 A2 n2 c2 ls2 A3 n3 c3 f3 W b0.1 b0.2 b1.1 b1.2 hc2 hm2 hr2 hc3 hm3 hr3

theorem over : Rows.sessAllRow.holds Try.pinned (OpenSpec.ofChange Rows.sessAllSpec) :=
  OpenClaim.holds_of_wide 6 Try.f6 rfl rfl rfl rfl rfl rfl rfl ⟨rfl, rfl, rfl, rfl, rfl⟩ rfl rfl rfl rfl rfl (by kernel_rfl) Try.func6 (by kernel_rfl)
    (of_decide_eq_true (by kernel_rfl)) (by unfold Func.isWrapper; first | (rw [if_pos (by decide +kernel)]; kernel_rfl) | (rw [if_neg (by decide +kernel)]; exact ⟨rfl, rfl⟩))
    (fun os started H enc _ => lifted os started H enc)
end sessAll

theorem SessAll_proved : Rows.SessAllSaid := sessAll.over
#print axioms SessAll_proved
end Go.Proofs.Ytjbfhffdnjahfaa
