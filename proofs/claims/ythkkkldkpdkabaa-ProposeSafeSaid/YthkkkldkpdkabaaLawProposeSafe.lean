/- ProposeSafe. -/
import Derived.Test.YthkkkldkpdkabaaProY2
import Derived.Test.YthkkkldkpdkabaaProYg
import Derived.Test.YthkkkldkpdkabaaProK
import Derived.Test.YthkkkldkpdkabaaQuRR
import Derived.Test.YthkkkldkpdkabaaQuRC
import Derived.Test.YthkkkldkpdkabaaMid
import Derived.StillTailTactics
import Derived.Test.YthkkkldkpdkabaaRows
namespace Go.Proofs.Ythkkkldkpdkabaa
open Go.ChangeShapes Go.WideShapes Go.ChangeAt Go.RowKit Go.Maps

theorem infoVoteS : (Try.prog.info? 48).map (fun i => (i.zero, i.size, i.bytes)) = some (some (.agg #[.int .u64 0, .int .u64 0, .int .i64 0, .slice none 0 0]), 4, 48) := by kernel_rfl
def bVts (parts : Array (Nat × Value)) : Sem Value := Instr.buildSlice 40 1 parts
theorem bVts_eq (parts : Array (Nat × Value)) : Instr.buildSlice 40 1 parts = bVts parts := rfl
theorem run_bVts (a b c d : Value) (W : World) : (bVts #[(0, .agg #[a, b, c, d])]).run Try.prog W = .ok (.slice (some ⟨W.heap.size, 0, none⟩) 1 1) (W.alloc (.cells #[a, b, c, d] 48)) := by
  obtain ⟨iw, hiw, hzw, hsw, _⟩ := info_parts infoVoteS
  exact run_buildSlice_one (P := Try.prog) Try.underlying40 hiw hzw hsw (by rfl) (by omega) (by omega) (.agg #[a, b, c, d]) rfl W
attribute [local go_sem ↓] bVts_eq
attribute [local go_sem] run_bVts
set_option maxRecDepth 100000 in
set_option maxHeartbeats 8000000 in
theorem proposeSafe_walk (q : Qm) (qA : Option Addr) (qn qc : Nat) (A : Option Addr) (n c : Nat) (f : Nat → Nat × Nat) (B : Option Addr) (m d : Nat) (fl : Nat → Option Addr × Nat × Nat × List UInt8) (W : World) (hq : Qi W q qA qn qc) (hc : n ≤ c) (hcm : c ≤ 9223372036854775807) (hs : Prs W W.heap.size A n f) (_hd : m ≤ d) (_hdm : d ≤ 9223372036854775807) (hr : Lss W W.heap.size B m fl) :
    Calls Try.prog 5 #[qV q (.slice qA qn qc), .slice A n c, .slice B m d] W fun e W' => e = .returned (.bool true) ∧ Below W.heap.size W W' := by
  obtain ⟨w1, HW1, HB1, HK1⟩ := boxed q.kind q.nodes q.one q.two qA qn qc W
  have HCells : Hid (∀ w, Below w1.heap.size w1 w → _) := Lib.hid fun w hb => QB.cells q.kind q.nodes q.one q.two qA qn qc (HK1.out.below hb HK1.out.lt)
  have HQ := Lib.hid (fun w (hb : Below w1.heap.size w1 w) => hq.up (below_then HB1.out hb))
  have HK := Lib.hid (fun w => known10_any w)
  have HRT := Lib.hid (refRight_any8 q qA qn qc w1 (HQ.out w1 (Below.refl _ _)))
  obtain ⟨k0, k1, k2, k3, k4⟩ := HK1.out.cells
  rw [HW1.out] at k0 k1 k2 k3 k4
  have HE : Hid (qV q (.slice qA qn qc) = .agg #[.int .i64 q.kind, .int .i64 q.nodes, .int .i64 q.one, .int .i64 q.two, .slice qA qn qc]) := Lib.hid rfl
  rw [HE.out] at HRT ⊢
  by_cases h40 : 40 < qn
  · have n1 : (qn : Int) > 40 := by omega
    clear hq hs hr hc hcm
    go_enter Try.func5, Try.ntmps5
    go_wp2_with fail
    rw [← HW1.out]
    refine (HK.out w1).mono ?_
    rintro e w2 ⟨rfl, hb2⟩
    have HB2 := Lib.hid (below_then HB1.out hb2)
    clear hb2
    go_wp2
    go_ret
    exact ⟨rfl, HB2.out⟩
  have n1 : ¬ (qn : Int) > 40 := by omega
  by_cases hrt' : q.right ≠ 0
  · generalize q.right = rt at *
    clear hq hs hr hc hcm h40
    go_enter Try.func5, Try.ntmps5
    go_wp2_with fail
    rw [← HW1.out]
    refine HRT.out.mono ?_
    rintro e w2 ⟨rfl, hb2⟩
    have HB2 := Lib.hid (below_then HB1.out hb2)
    clear hb2 k0 k1 k2 k3 k4
    go_wp2_with fail
    refine (HK.out w2).mono ?_
    rintro e w3 ⟨rfl, hb3⟩
    have HB3 := Lib.hid (below_then HB2.out hb3)
    clear hb3
    go_wp2
    go_ret
    exact ⟨rfl, HB3.out⟩
  have hrt : q.right = 0 := by omega
  clear hrt'
  have hnd := q.right_cases hrt
  have hn12 := q.n_le hrt
  have HNw : Hid (∀ w (b : Bl), Below w1.heap.size w1 w → b.right = true → b.n < 18446744073709551616 → Calls Try.prog 12 #[qV q (.slice qA qn qc), .agg #[.int .u64 (b.n : Int), .int .i64 b.node], .int .u64 1] w (NewO q b 1 w)) := Lib.hid fun w b hb h1 h2 => OwP.new q qA qn qc b 1 w w (Below.refl _ _) (HQ.out w hb) hrt h1 h2 (by decide) (by decide) (by omega)
  rw [HE.out] at HNw
  rw [hrt] at HRT
  have HP : Hid (∀ w, Below w1.heap.size w1 w → ∀ k, k < n → ∃ b o, A = some ⟨b, o, none⟩ ∧ (∀ w', Below w1.heap.size w1 w' → w'.cell? ⟨b, o + k * 2, none⟩ = some (.int .u32 ((f k).1 : Int)) ∧ w'.cell? ⟨b, o + k * 2 + 1, none⟩ = some (.int .u32 ((f k).2 : Int)))) := Lib.hid fun w hb k hk => by
    obtain ⟨b, o, e, hlt, hcl⟩ := hs (by omega)
    refine ⟨b, o, e, fun w' hb' => ?_⟩
    have q2 := fun j => World.cell?_of_block (a := ⟨b, j, none⟩) ((below_then HB1.out hb').block b hlt)
    exact ⟨(q2 _).trans (hcl k hk).1, (q2 _).trans (hcl k hk).2⟩
  have HL : Hid (∀ w, Below w1.heap.size w1 w → ∀ k, k < m → ∃ b o, B = some ⟨b, o, none⟩ ∧ w.cell? ⟨b, o + k, none⟩ = some (.slice (fl k).1 (fl k).2.1 (fl k).2.2.1) ∧ (fl k).2.1 ≤ (fl k).2.2.1 ∧ (fl k).2.2.1 ≤ 9223372036854775807 ∧ Rd w w.heap.size (fl k).1 (fl k).2.1 (fl k).2.2.2) := Lib.hid fun w hb k hk => by
    obtain ⟨b, o, e, hlt, hcl⟩ := hr (by omega)
    have hbW := below_then HB1.out hb
    have q2 := fun j => World.cell?_of_block (a := ⟨b, j, none⟩) (hbW.block b hlt)
    obtain ⟨c0, c1, c2, c3⟩ := hcl k hk
    exact ⟨b, o, e, (q2 _).trans c0, c1, c2, (c3.below hbW).more hbW.size⟩
  have HNd := Lib.hid hnd
  have hqn : q.nodes ≤ 12 := hnd.2.1
  have hq1 : 1 ≤ q.nodes := hnd.1
  have HQn : Hid ((q.n : Int) = q.nodes) := Lib.hid (by unfold Qm.n; omega)
  clear hq hs hr h40 hnd hn12
  have HRt := Lib.hid hrt
  clear hrt
  go_enter Try.func5, Try.ntmps5
  go_wp2_with fail
  rw [← HW1.out]
  refine HRT.out.mono ?_
  rintro e w2 ⟨rfl, hb2⟩
  have HB2 := Lib.hid hb2
  clear k0 k1 k2 k3 k4 hb2
  have HR0 : Hid (R0 w1 ((w2.alloc (.cells #[.slice none 0 0, .slice none 0 0, .slice none 0 0, .slice none 0 0, .slice none 0 0, .slice none 0 0, .slice none 0 0, .slice none 0 0, .slice none 0 0, .slice none 0 0, .slice none 0 0, .slice none 0 0] 59)).alloc (.cells #[.int .u64 0, .int .i64 0, .int .u64 0, .int .i64 0, .int .u64 0, .int .i64 0, .int .u64 0, .int .i64 0, .int .u64 0, .int .i64 0, .int .u64 0, .int .i64 0, .int .u64 0, .int .i64 0, .int .u64 0, .int .i64 0, .int .u64 0, .int .i64 0, .int .u64 0, .int .i64 0, .int .u64 0, .int .i64 0, .int .u64 0, .int .i64 0] 60)) w2.heap.size (w2.heap.size + 1) q 0 false (fun _ => False) (fun _ => none) [] (.slice none 0 0)) := Lib.hid (R0.start HB2.out q)
  obtain ⟨gp, hgp⟩ : ∃ g, g = w2.heap.size + 1 := ⟨_, rfl⟩
  obtain ⟨gv, hgv⟩ : ∃ g, g = w2.heap.size := ⟨_, rfl⟩
  have Hgp := Lib.hid hgp
  have Hgv := Lib.hid hgv
  clear hgp hgv
  obtain ⟨M, hM⟩ : ∃ M, M = min n 30 := ⟨_, rfl⟩
  go_upto_region 6 with (fail)
  rw [← Hgp.out, ← Hgv.out] at HR0
  rw [← Hgp.out, ← Hgv.out]
  generalize (w2.alloc (.cells #[.slice none 0 0, .slice none 0 0, .slice none 0 0, .slice none 0 0, .slice none 0 0, .slice none 0 0, .slice none 0 0, .slice none 0 0, .slice none 0 0, .slice none 0 0, .slice none 0 0, .slice none 0 0] 59)).alloc (.cells #[.int .u64 0, .int .i64 0, .int .u64 0, .int .i64 0, .int .u64 0, .int .i64 0, .int .u64 0, .int .i64 0, .int .u64 0, .int .i64 0, .int .u64 0, .int .i64 0, .int .u64 0, .int .i64 0, .int .u64 0, .int .i64 0, .int .u64 0, .int .i64 0, .int .u64 0, .int .i64 0, .int .u64 0, .int .i64 0, .int .u64 0, .int .i64 0] 60) = w3 at *
  clear Hgp Hgv
  go_wp2_with fail
  go_loopg [9, 10, 11] M (fun gk wo fi i wr => ∃ (k : Nat) (won : Bool) (G : Nat → Prop) (vt : Vts) (first : List UInt8) (fv : Value), wo = .bool won ∧ fi = fv ∧ i = .int .i64 (k : Int) ∧ k + gk = M ∧ Hid (R0 w1 wr gv gp q k won G vt first fv))
  case atStart => exact ⟨0, false, _, _, _, _, rfl, rfl, rfl, by omega, HR0⟩
  case round =>
    obtain ⟨k, won, G, vt, first, fv, rfl, rfl, rfl, hkg, HI⟩ := hrel
    obtain ⟨fA, fc, rfl, _⟩ := own_shape HI.out.sf.fo.1
    by_cases hk : k < M
    · have hkn : k < n := by omega
      have hk30 : k < 30 := by omega
      have hbr := HI.out.sf.bel
      have HE1 : Hid ((k : Int) / 2 + 1 = ((balK k).n : Int)) := Lib.hid (by show _ = ((k / 2 + 1 : Nat) : Int); omega)
      have HE2 : Hid ((k : Int) % 2 = (balK k).node) := Lib.hid (by show _ = ((k % 2 : Nat) : Int); omega)
      obtain ⟨b, hb⟩ : ∃ b, b = balK k := ⟨_, rfl⟩
      have HH : Hid (Heart q won first vt b) := Lib.hid (by rw [hb]; exact HI.out.heart)
      have HBr : Hid (b.right = true) := Lib.hid (by rw [hb]; exact balK_right k)
      have HBo : Hid b.Ok := Lib.hid (by rw [hb]; exact balK_ok (by omega))
      have Hb := Lib.hid hb
      clear hb
      obtain ⟨sb, so, rfl, hsc⟩ := HP.out wr hbr k hkn
      have HSc := Lib.hid hsc
      clear hsc
      generalize (f k).1 = s1 at *
      generalize (f k).2 = s2 at *
      have hk5 := Bk.new wr 27 #[.int .u64 (b.n : Int), .int .i64 b.node]
      have hb5 : Below wr.heap.size wr (wr.alloc (.cells #[.int .u64 (b.n : Int), .int .i64 b.node] 27)) := bel1P _
      obtain ⟨gb, hgb⟩ : ∃ g, g = wr.heap.size := ⟨_, rfl⟩
      obtain ⟨w5, hw5⟩ : ∃ w, w = wr.alloc (.cells #[.int .u64 (b.n : Int), .int .i64 b.node] 27) := ⟨_, rfl⟩
      rw [← hgb, ← hw5] at hk5
      rw [← hw5] at hb5
      have Hgb := Lib.hid hgb
      have Hw5 := Lib.hid hw5
      have HK5 := Lib.hid hk5
      have HB5 := Lib.hid hb5
      have hb15 := below_then hbr hb5
      have HN5 := Lib.hid (HNw.out w5 b hb15 HBr.out HBo.out.n)
      obtain ⟨k0, k1, k2, k3, k4⟩ := HCells.out w5 hb15
      have c0 : w5.cell? ⟨gb, 0, none⟩ = some (.int .u64 (b.n : Int)) := hk5.cell 0
      have c1 : w5.cell? ⟨gb, 1, none⟩ = some (.int .i64 b.node) := hk5.cell 1
      clear hk5 hb5 hgb hw5 hb15
      obtain ⟨gk1, hgk1⟩ : ∃ g, g = gk := ⟨_, rfl⟩
      subst hgk1
      go_upto_region 11 with (fail)
      rw [HE1.out, HE2.out, ← Hb.out, ← Hgb.out, ← Hw5.out]
      go_wp2_with fail
      refine HN5.out.mono ?_
      rintro e w6 ⟨g, F0, rfl, ho⟩
      have H1 : Hid (R1 w1 w6 gv gp g gb 0 q b F0 G vt first (.slice fA first.length fc) (Pp.new q b 1)) := Lib.hid (by have e := Hb.out; subst e; exact HI.out.new HB5.out HK5.out ho)
      clear ho HN5 k0 k1 k2 k3 k4 c0 c1 hbr HI HK5 HB5 Hw5 Hgb HE1 HE2
      generalize Pp.new q b 1 = p0 at *
      obtain ⟨N, hN⟩ : ∃ N, N = q.n := ⟨_, rfl⟩
      have hNq : (N : Int) = q.nodes := by rw [hN]; exact HQn.out
      have HNe := Lib.hid hN
      clear hN
      go_wp2_with fail
      go_loopg [15] N (fun gi i w7 => ∃ (j : Nat) (F : Nat → Prop) (p : Pp), i = .int .i64 (j : Int) ∧ j + gi = N ∧ Hid (R1 w1 w7 gv gp g gb j q b F G vt first (.slice fA first.length fc) p))
      case atStart => exact ⟨0, F0, p0, rfl, by omega, H1⟩
      case round =>
        obtain ⟨j, F, p, rfl, hjg, HJ⟩ := hrel
        obtain ⟨k0, k1, k2, k3, k4⟩ := HCells.out _ HJ.out.own.bel
        by_cases hj : j < N
        · have hj12 : j < 12 := by omega
          have hjq : (j : Int) < q.nodes := by omega
          have x1 := (HSc.out _ HJ.out.own.bel).1
          have HHs := Lib.hid (has_any s1 j hj12 wr)
          cases hbit : s1.testBit j with
          | true =>
            rw [hbit] at HHs
            go_wp2_with fail
            refine HHs.out.mono ?_
            rintro e w7 ⟨rfl, rfl⟩
            have c0 : wr.cell? ⟨gb, 0, none⟩ = some (.int .u64 (b.n : Int)) := HJ.out.bb.cell 0
            have c1 : wr.cell? ⟨gb, 1, none⟩ = some (.int .i64 b.node) := HJ.out.bb.cell 1
            obtain ⟨pr, hpr⟩ := HJ.out.sf.pa
            have p0 : wr.cell? ⟨gp, j * 2, none⟩ = some (.int .u64 ((pr j).n : Int)) := by rw [hpr.cell]; exact (baA_at pr hj12).1
            have p1 : wr.cell? ⟨gp, j * 2 + 1, none⟩ = some (.int .i64 (pr j).node) := by rw [hpr.cell]; exact (baA_at pr hj12).2
            have f0 := hpr.frozen (j * 2)
            have f1 := hpr.frozen (j * 2 + 1)
            have hjI : (j : Int) < 12 := by omega
            obtain ⟨w8, hw8⟩ : ∃ w, w = (wr.setCell ⟨gp, j * 2, none⟩ (.int .u64 (b.n : Int))).setCell ⟨gp, j * 2 + 1, none⟩ (.int .i64 b.node) := ⟨_, rfl⟩
            have HT := Lib.hid (HJ.out.turn hj12 hw8)
            obtain ⟨A9, N9, C9, v9, hP⟩ := HT.out.promise hj12 hjq HH.out
            have HPr := Lib.hid hP
            have Hw8 := Lib.hid hw8
            clear hpr HHs k0 k1 k2 k3 k4 x1 hw8 hP HT
            go_upto_region 19 with (fail)
            rw [← Hw8.out]
            clear c0 c1 p0 p1 f0 f1 Hw8 HJ
            go_wp2_with fail
            ((with_reducible refine HPr.out.mono ?_))
            rintro e w9 ⟨F9, p9, rfl, h9⟩
            have H9 := Lib.hid h9
            clear h9 HPr v9
            go_wp2
            go_roundg (gk - 1)
            case measure => omega
            case rel => exact ⟨j + 1, F9, p9, by go_num, by omega, H9⟩
          | false =>
            rw [hbit] at HHs
            go_wp2_with fail
            refine HHs.out.mono ?_
            rintro e w7 ⟨rfl, rfl⟩
            have HJ2 := Lib.hid HJ.out.pass
            clear HJ HHs k0 k1 k2 k3 k4 x1
            go_wp2
            go_roundg (gk - 1)
            case measure => omega
            case rel => exact ⟨j + 1, F, p, by go_num, by omega, HJ2⟩
        · obtain rfl : j = N := by omega
          have HRd := Lib.hid HJ.out.readyC
          cases hrd : p.ready with
          | false =>
            rw [hrd] at HRd
            go_wp2_with fail
            ((with_reducible refine HRd.out.mono ?_))
            rintro e w8 ⟨rfl, hb8⟩
            have H8 : Hid (R0 w1 w8 gv gp q (k + 1) won G vt first (.slice fA first.length fc)) := Lib.hid (by have e := Hb.out; subst e; exact (HJ.out.below hb8).next HH.out)
            clear hb8 HJ HRd k0 k1 k2 k3 k4
            go_wp2
            go_roundg (gk1 - 1)
            case measure => omega
            case rel => exact ⟨k + 1, won, G, vt, first, _, rfl, rfl, by go_num, by omega, H8⟩
          | true =>
            rw [hrd] at HRd
            go_wp2_with fail
            ((with_reducible refine HRd.out.mono ?_))
            rintro e w8 ⟨rfl, hb8⟩
            have H8 := Lib.hid (HJ.out.below hb8)
            have hbv := H8.out.own.bel
            clear hb8 HJ HRd k0 k1 k2 k3 k4
            have HLk := Lib.hid (HL.out w8 hbv k)
            generalize (fl k).1 = vA at *
            generalize (fl k).2.1 = vn at *
            generalize (fl k).2.2.1 = vc at *
            generalize (fl k).2.2.2 = vl at *
            obtain ⟨okv, hokv⟩ : ∃ x, x = decide (k < m ∧ vn ≤ 100) := ⟨_, rfl⟩
            have Hokv := Lib.hid hokv
            clear hokv
            go_upto_region 23 with (fail)
            go_cut [98] from 32 to 159 (fun c wx => c = .bool okv ∧ w8 = wx)
            case first =>
              by_cases hkm : k < m
              · obtain ⟨vb, vo, rfl, v0, v1, v2, v3⟩ := HLk.out hkm
                clear v3
                by_cases hl : vn ≤ 100
                · have hlI : (vn : Int) ≤ 100 := by omega
                  have hlb : decide ((vn : Int) ≤ 100) = true := decide_eq_true hlI
                  have hok : okv = true := by rw [Hokv.out]; exact decide_eq_true ⟨hkm, hl⟩
                  subst hok
                  go_wp2_with fail
                  go_meet
                  exact ⟨by first | rfl | rw [hlb], rfl⟩
                · have hlI : ¬ (vn : Int) ≤ 100 := by omega
                  have hlb : decide ((vn : Int) ≤ 100) = false := decide_eq_false hlI
                  have hok : okv = false := by rw [Hokv.out]; exact decide_eq_false fun h => hl h.2
                  subst hok
                  go_wp2_with fail
                  go_meet
                  exact ⟨by first | rfl | rw [hlb], rfl⟩
              · have hok : okv = false := by rw [Hokv.out]; exact decide_eq_false fun h => hkm h.1
                subst hok
                go_wp2_with fail
                go_meet
                exact ⟨rfl, rfl⟩
            case rest =>
            obtain ⟨rfl, rfl⟩ := hcut
            go_upto_if 98 with (fail)
            go_cut [16] from 32 to 159 (fun x wx => ∃ (oA : Option Addr) (on oc : Nat) (own : List UInt8), x = .slice oA on oc ∧ own.length ≤ 100 ∧ Rd w8 w8.heap.size oA on own ∧ w8 = wx)
            case first =>
              cases okv with
              | true =>
                have hk2 := of_decide_eq_true Hokv.out.symm
                have hkm : k < m := hk2.1
                obtain ⟨vb, vo, rfl, v0, v1, v2, v3⟩ := HLk.out hkm
                have Hv3 := Lib.hid v3
                have Hvn := Lib.hid hk2.2
                clear v3 hk2
                go_wp2_with fail
                go_meet
                exact ⟨_, _, _, vl, rfl, by rw [Hv3.out.1]; exact Hvn.out, Hv3.out, rfl⟩
              | false =>
                go_wp2_with fail
                go_meet
                exact ⟨none, 0, 0, [], rfl, by decide, Rd.nil _ _ _, rfl⟩
            case rest =>
              obtain ⟨oA, on, oc, own, rfl, hol, hrdo, rfl⟩ := hcut
              clear HLk Hokv
              have HPp := Lib.hid (H8.out.propose HRt.out HNe.out hrd HH.out (oc := oc) hol hrdo)
              clear H8 hol hrdo hbv
              go_wp2_with fail
              ((with_reducible refine HPp.out.mono ?_))
              rintro e w9 ⟨F9, G9, p9, A9, c9, v9, rfl, hv100, hvf, h9⟩
              obtain ⟨gx, hgx⟩ : ∃ g, g = w9.heap.size := ⟨_, rfl⟩
              obtain ⟨w10, hw10⟩ : ∃ w, w = w9.alloc (.cells #[.int .u64 1, .int .u64 (b.n : Int), .int .i64 b.node, .slice A9 v9.length c9] 48) := ⟨_, rfl⟩
              rw [← hgx, ← hw10] at h9
              have H10 := Lib.hid h9
              have Hgx := Lib.hid hgx
              have Hw10 := Lib.hid hw10
              have Hv100 := Lib.hid hv100
              have Hvf := Lib.hid hvf
              clear h9 hgx hw10 hv100 hvf HPp
              go_upto_region 28 with (fail)
              rw [← Hgx.out, ← Hw10.out]
              clear Hgx Hw10
              obtain ⟨N2, hN2⟩ : ∃ N, N = q.n := ⟨_, rfl⟩
              have hN2q : (N2 : Int) = q.nodes := by rw [hN2]; exact HQn.out
              clear hN2
              go_wp2_with fail
              go_loopg [19] N2 (fun gi i w7 => ∃ (j2 a : Nat) (F G2 : Nat → Prop) (p : Pp), i = .int .i64 (j2 : Int) ∧ j2 + gi = N2 ∧ Hid (R2 w1 w7 gv gp g gb gx j2 a a q b F G2 vt first (.slice fA first.length fc) v9 A9 c9 p))
              case atStart => exact ⟨0, 0, F9, G9, p9, rfl, by omega, H10⟩
              case round =>
                obtain ⟨j2, a, F, G2, p, rfl, hj2, HK2⟩ := hrel
                obtain ⟨k0, k1, k2, k3, k4⟩ := HCells.out _ HK2.out.own.bel
                by_cases hjn : j2 < N2
                · have hj12 : j2 < 12 := by omega
                  have hjq : (j2 : Int) < q.nodes := by omega
                  have hjI : (j2 : Int) < 12 := by omega
                  cases hbit : s2.testBit j2 with
                  | false =>
                    have HHq : Hid (∀ W, Calls Try.prog 23 #[.int .u32 (s2 : Int), .int .i64 (j2 : Int)] W fun e w' => e = .returned (.bool false) ∧ w' = W) := Lib.hid fun W => by
                      have := has_any s2 j2 hj12 W
                      rw [hbit] at this
                      exact this.mono fun _ _ h => ⟨h.1, h.2.symm⟩
                    have x2 := (HSc.out _ HK2.out.own.bel).2
                    clear hbit
                    go_upto_region 31 with (fail)
                    go_quiet ((go_at_call 23; exact Calls.quiet_of_same (HHq.out _)))
                    have HK3 := Lib.hid ((HK2.out.below (bel_drewN (Below.refl _ _) nq)).pass)
                    clear HK2 HHq x2 k0 k1 k2 k3 k4
                    go_wp2
                    go_roundg (gk - 1)
                    case measure => omega
                    case rel => exact ⟨j2 + 1, a, F, G2, p, by go_num, by omega, HK3⟩
                  | true =>
                    obtain ⟨pr, hpr⟩ := HK2.out.sf.pa
                    have HHs : Hid (∀ W, Calls Try.prog 23 #[.int .u32 (s2 : Int), .int .i64 (j2 : Int)] W fun e w' => e = .returned (.bool true) ∧ w' = W) := Lib.hid fun W => by
                      have := has_any s2 j2 hj12 W
                      rw [hbit] at this
                      exact this.mono fun _ _ h => ⟨h.1, h.2.symm⟩
                    have HLs := Lib.hid (fun W => less09_any b (pr j2) W)
                    unfold blV at HLs
                    have HC : Hid (∀ W, Below wr.heap.size wr W → (W.cell? ⟨sb, so + k * 2 + 1, none⟩ = some (.int .u32 (s2 : Int)) ∧ W.cell? ⟨gb, 0, none⟩ = some (.int .u64 (b.n : Int)) ∧ W.cell? ⟨gb, 1, none⟩ = some (.int .i64 b.node) ∧ W.cell? ⟨gp, j2 * 2, none⟩ = some (.int .u64 ((pr j2).n : Int)) ∧ W.cell? ⟨gp, j2 * 2 + 1, none⟩ = some (.int .i64 (pr j2).node)) ∧ Below wr.heap.size wr W) := Lib.hid fun W hb => by
                      have hq := hpr.below hb hpr.lt
                      have hz := HK2.out.below hb
                      refine ⟨⟨(HSc.out _ hz.own.bel).2, hz.bb.cell 0, hz.bb.cell 1, ?_, ?_⟩, hb⟩
                      · rw [hq.cell]; exact (baA_at pr hj12).1
                      · rw [hq.cell]; exact (baA_at pr hj12).2
                    clear hpr hbit
                    generalize pr j2 = pj at *
                    cases hls : Bl.less b pj with
                    | true =>
                      rw [hls] at HLs
                      clear hls
                      go_upto_region 31 with (fail)
                      clear k0 k1 k2 k3 k4
                      go_region_held3 (fun W => (W.cell? ⟨sb, so + k * 2 + 1, none⟩ = some (.int .u32 (s2 : Int)) ∧ W.cell? ⟨gb, 0, none⟩ = some (.int .u64 (b.n : Int)) ∧ W.cell? ⟨gb, 1, none⟩ = some (.int .i64 b.node) ∧ W.cell? ⟨gp, j2 * 2, none⟩ = some (.int .u64 (pj.n : Int)) ∧ W.cell? ⟨gp, j2 * 2 + 1, none⟩ = some (.int .i64 pj.node)) ∧ Below wr.heap.size wr W) (first | (refine HC.out _ ?_; (repeat' (first | assumption | exact Below.refl _ _ | exact Nat.le_refl _ | apply Below.drew)); done) | go_keep)
                        (first
                          | (go_at_call 18; (with_reducible refine (HLs.out _).mono ?_); rintro e V1 ⟨rfl, hv1⟩; have hd1 : Below wr.heap.size wr V1 := below_then (by (repeat' (first | assumption | exact Below.refl _ _ | exact Nat.le_refl _ | apply Below.drew))) hv1; have hk1 := HC.out V1 hd1)
                          | (go_at_call 23; (refine (HHs.out _).mono ?_); rintro e V3 ⟨rfl, hv3⟩; subst hv3))
                      all_goals
                        rename_i hH
                        obtain ⟨_, hbW⟩ := hH
                        have HK3 := Lib.hid ((HK2.out.below hbW).pass)
                        clear hbW HC HK2
                        go_wp2
                        go_roundg (gk - 1)
                        case measure => omega
                        case rel => exact ⟨j2 + 1, a, F, G2, p, by go_num, by omega, HK3⟩
                    | false =>
                      rw [hls] at HLs
                      clear hls
                      go_upto_region 31 with (fail)
                      clear k0 k1 k2 k3 k4
                      go_region_held3 (fun W => (W.cell? ⟨sb, so + k * 2 + 1, none⟩ = some (.int .u32 (s2 : Int)) ∧ W.cell? ⟨gb, 0, none⟩ = some (.int .u64 (b.n : Int)) ∧ W.cell? ⟨gb, 1, none⟩ = some (.int .i64 b.node) ∧ W.cell? ⟨gp, j2 * 2, none⟩ = some (.int .u64 (pj.n : Int)) ∧ W.cell? ⟨gp, j2 * 2 + 1, none⟩ = some (.int .i64 pj.node)) ∧ Below wr.heap.size wr W) (first | (refine HC.out _ ?_; (repeat' (first | assumption | exact Below.refl _ _ | exact Nat.le_refl _ | apply Below.drew)); done) | go_keep)
                        (first
                          | (go_at_call 18; (with_reducible refine (HLs.out _).mono ?_); rintro e V1 ⟨rfl, hv1⟩; have hd1 : Below wr.heap.size wr V1 := below_then (by (repeat' (first | assumption | exact Below.refl _ _ | exact Nat.le_refl _ | apply Below.drew))) hv1; have hk1 := HC.out V1 hd1)
                          | (go_at_call 23; (refine (HHs.out _).mono ?_); rintro e V3 ⟨rfl, hv3⟩; subst hv3))
                      clear hk1
                      have HK3 := Lib.hid (HK2.out.below hd1)
                      clear HK2 HC HHs HLs hv1 hd1
                      rename_i hH
                      clear hH
                      have c0 : V1.cell? ⟨gb, 0, none⟩ = some (.int .u64 (b.n : Int)) := HK3.out.bb.cell 0
                      have c1 : V1.cell? ⟨gb, 1, none⟩ = some (.int .i64 b.node) := HK3.out.bb.cell 1
                      obtain ⟨pr3, hpr3⟩ := HK3.out.sf.pa
                      have p0 : V1.cell? ⟨gp, j2 * 2, none⟩ = some (.int .u64 ((pr3 j2).n : Int)) := by rw [hpr3.cell]; exact (baA_at pr3 hj12).1
                      have p1 : V1.cell? ⟨gp, j2 * 2 + 1, none⟩ = some (.int .i64 (pr3 j2).node) := by rw [hpr3.cell]; exact (baA_at pr3 hj12).2
                      have f0 := hpr3.frozen (j2 * 2)
                      have f1 := hpr3.frozen (j2 * 2 + 1)
                      obtain ⟨w11, hw11⟩ : ∃ w, w = (V1.setCell ⟨gp, j2 * 2, none⟩ (.int .u64 (b.n : Int))).setCell ⟨gp, j2 * 2 + 1, none⟩ (.int .i64 b.node) := ⟨_, rfl⟩
                      have HT := Lib.hid (HK3.out.turn hj12 hw11)
                      have Hw11 := Lib.hid hw11
                      clear hpr3 hw11 HK3
                      go_upto_region 33 with (fail)
                      rw [← Hw11.out]
                      clear c0 c1 p0 p1 f0 f1 Hw11
                      have x0 : w11.cell? ⟨gx, 0, none⟩ = some (.int .u64 1) := HT.out.bx.cell 0
                      have x1 : w11.cell? ⟨gx, 1, none⟩ = some (.int .u64 (b.n : Int)) := HT.out.bx.cell 1
                      have x2 : w11.cell? ⟨gx, 2, none⟩ = some (.int .i64 b.node) := HT.out.bx.cell 2
                      have x3 : w11.cell? ⟨gx, 3, none⟩ = some (.slice A9 v9.length c9) := HT.out.bx.cell 3
                      obtain ⟨sl, hsl, hsv⟩ := HT.out.sf.va
                      obtain ⟨As, Ns, Cs, _, es, _⟩ := hsv j2 hj12
                      have y0 : w11.cell? ⟨gv, j2, none⟩ = some (.slice As Ns Cs) := by rw [hsl.cell, slA_at sl hj12, es]
                      have y1 := hsl.frozen j2
                      obtain ⟨w12, hw12⟩ : ∃ w, w = w11.alloc (.cells #[.int .u64 1, .int .u64 (b.n : Int), .int .i64 b.node, .slice A9 v9.length c9] 48) := ⟨_, rfl⟩
                      have hb12 : Below w11.heap.size w11 w12 := by rw [hw12]; exact bel1P _
                      have z0 : (w11.alloc (.cells #[.int .u64 1, .int .u64 (b.n : Int), .int .i64 b.node, .slice A9 v9.length c9] 48)).cell? ⟨gv, j2, none⟩ = some (.slice As Ns Cs) := by rw [← hw12]; exact ((hsl.below hb12 hsl.lt).cell j2).trans (by rw [slA_at sl hj12, es])
                      have z1 : (w11.alloc (.cells #[.int .u64 1, .int .u64 (b.n : Int), .int .i64 b.node, .slice A9 v9.length c9] 48)).frozen? ⟨gv, j2, none⟩ = false := by rw [← hw12]; exact (hsl.below hb12 hsl.lt).frozen j2
                      obtain ⟨w13, hw13⟩ : ∃ w, w = w12.setCell ⟨gv, j2, none⟩ (.slice (some ⟨w11.heap.size, 0, none⟩) 1 1) := ⟨_, rfl⟩
                      have HV := Lib.hid (HT.out.vote hj12 HBo.out hw12 hw13)
                      have HAc := Lib.hid (HV.out.accepted hjq)
                      have Hw12 := Lib.hid hw12
                      have Hw13 := Lib.hid hw13
                      clear hsl hsv es hw12 hw13 hb12 HT HV
                      go_upto_region 34 with (fail)
                      rw [← Hw12.out, ← Hw13.out]
                      clear x0 x1 x2 x3 y0 y1 z0 z1 Hw12 Hw13
                      go_wp2_with fail
                      ((with_reducible refine HAc.out.mono ?_))
                      rintro e w14 ⟨F14, p14, rfl, h14⟩
                      have H14 := Lib.hid h14
                      clear h14 HAc
                      go_wp2
                      go_roundg (gk - 1)
                      case measure => omega
                      case rel => exact ⟨j2 + 1, _, F14, _, p14, by go_num, by omega, H14⟩
                · cases hqa : q.isQ true a with
                  | false =>
                    have HCf : Hid (Calls Try.prog 25 #[.pointer (some ⟨g, 0, none⟩), .int .u64 1] wr fun e w' => ∃ A c, e = .returned (.tuple #[.slice A 0 c, .bool false]) ∧ Below wr.heap.size wr w') := Lib.hid (by
                      have h := HK2.out.chosen
                      rw [hqa, if_neg (by decide)] at h
                      refine h.mono ?_
                      rintro e w' ⟨A, c, he, _, hb⟩
                      exact ⟨A, c, he, hb⟩)
                    clear hqa
                    go_wp2_with fail
                    ((with_reducible refine HCf.out.mono ?_))
                    rintro e w15 ⟨A15, c15, rfl, hb15⟩
                    have H16 : Hid (R0 w1 w15 gv gp q (k + 1) won _ _ first (.slice fA first.length fc)) := Lib.hid (by
                      have e := Hb.out
                      subst e
                      exact HK2.out.nextN HRt.out (by omega) Hv100.out Hvf.out HH.out hb15)
                    clear hb15 HCf HK2
                    go_wp2
                    go_roundg (gk1 - 1)
                    case measure => omega
                    case rel => exact ⟨k + 1, won, _, _, first, _, rfl, rfl, by go_num, by omega, H16⟩
                  | true =>
                    have HCt : Hid (Calls Try.prog 25 #[.pointer (some ⟨g, 0, none⟩), .int .u64 1] wr fun e w' => ∃ A c, e = .returned (.tuple #[.slice A v9.length c, .bool true]) ∧ w'.ownsRow wr.heap.size 5 1 (.slice A v9.length c) v9.length (u8s v9) ∧ Below wr.heap.size wr w') := Lib.hid (by
                      have h := HK2.out.chosen
                      rw [hqa, if_pos rfl] at h
                      refine h.mono ?_
                      rintro e w' ⟨A, c, he, ho, hb⟩
                      exact ⟨A, c, he, ho, hb⟩)
                    have Hqa := Lib.hid hqa
                    clear hqa
                    cases won with
                    | false =>
                      go_wp2_with fail
                      ((with_reducible refine HCt.out.mono ?_))
                      rintro e w15 ⟨A15, c15, rfl, ho15, hb15⟩
                      obtain ⟨G16, h16⟩ : ∃ G', R0 w1 w15 gv gp q (k + 1) true G' (castV vt a (balK k) v9) v9 (.slice A15 v9.length c15) := by
                        have e := Hb.out
                        subst e
                        exact HK2.out.nextY HRt.out (by omega) Hv100.out Hvf.out HH.out Hqa.out ho15 hb15
                      have H16 := Lib.hid h16
                      clear hb15 ho15 h16 HCt HK2
                      go_wp2
                      go_roundg (gk1 - 1)
                      case measure => omega
                      case rel => exact ⟨k + 1, true, _, _, v9, _, rfl, rfl, by go_num, by omega, H16⟩
                    | true =>
                      go_wp2_with fail
                      ((with_reducible refine HCt.out.mono ?_))
                      rintro e w15 ⟨A15, c15, rfl, ho15, hb15⟩
                      obtain ⟨G16, h16⟩ : ∃ G', R0 w1 w15 gv gp q (k + 1) true G' (castV vt a (balK k) v9) v9 (.slice A15 v9.length c15) := by
                        have e := Hb.out
                        subst e
                        exact HK2.out.nextY HRt.out (by omega) Hv100.out (fun _ => Hvf.out trivial) HH.out Hqa.out ho15 hb15
                      have H16 := Lib.hid h16
                      have hvv : v9 = first := Hvf.out trivial
                      have hfo := (HK2.out.below hb15).sf.fo.1
                      have HSm := Lib.hid (same_any A15 fA v9.length first.length c15 fc _ _ v9 first w15 (Rd.of_own ho15) (Rd.of_own hfo))
                      rw [show (v9 == first) = true by rw [hvv]; simp] at HSm
                      clear hb15 ho15 h16 HCt HK2 hvv hfo
                      go_wp2_with fail
                      ((with_reducible refine HSm.out.mono ?_))
                      rintro e w16 ⟨rfl, rfl⟩
                      go_wp2
                      go_roundg (gk1 - 1)
                      case measure => omega
                      case rel => exact ⟨k + 1, true, _, _, v9, _, rfl, rfl, by go_num, by omega, H16⟩
    · have HB4 := Lib.hid HI.out.sf.bel
      by_cases hkn : k < n
      · have hk30 : ¬ k < 30 := by omega
        go_wp2_with fail
        refine (HK.out _).mono ?_
        rintro e w30 ⟨rfl, hb30⟩
        have HB30 := Lib.hid (below_then HB1.out (below_then HB4.out hb30))
        clear hb30
        go_wp2
        go_ret
        exact ⟨rfl, HB30.out⟩
      · skip
        go_wp2_with fail
        refine (HK.out _).mono ?_
        rintro e w30 ⟨rfl, hb30⟩
        have HB30 := Lib.hid (below_then HB1.out (below_then HB4.out hb30))
        clear hb30
        go_wp2
        go_ret
        exact ⟨rfl, HB30.out⟩
namespace proposeSafe
set_option maxRecDepth 100000 in
theorem lifted (os : Os) (started : os.Started) (H : Type) (enc : TypeId × Value → H) :
    ReturnsInHanded {} Try.checked os 5 .any (Rows.proposeSafeSpec.pre6 enc Try.prog Try.f5 Rows.proposeSafeRow.domain false) (Rows.proposeSafeSpec.post enc Try.prog Try.f5 false true false false) := by
  refine law_lift started (by kernel_rfl) Try.func5
    (ChangeSpec.witness6 (enc := enc) (C := Try.checked) false ⟨#[], #[.agg #[.int .i64 0, .int .i64 0, .int .i64 0, .int .i64 0, .slice none 0 0], .slice none 0 0, .slice none 0 0], []⟩ 8 (by kernel_rfl) (by kernel_rfl) (by kernel_rfl) (by kernel_rfl))
    rfl ?_ (by kernel_rfl) (by kernel_rfl) ?_
  · intro ds h
    match ds, h with
    | [_, _, _], _ => rfl
  intro W base args ds p g
  have hA := g.trod
  have hval := g.val
  rw [Try.params5] at hA hval
  obtain ⟨v0, vs0, d0, ds0, p0, q0, hargs, rfl, rfl, h0, r0⟩ := trodAll_cons hA
  obtain ⟨v1, vs1, d1, ds1, p1, q1, rfl, rfl, rfl, h1, r1⟩ := trodAll_cons r0
  obtain ⟨v2, vs2, d2, ds2, p2, q2, rfl, rfl, rfl, h2, r2⟩ := trodAll_cons r1
  obtain ⟨rfl, rfl, rfl⟩ := trodAll_nil r2
  obtain rfl : args = #[v0, v1, v2] := by cases args; simp_all
  obtain ⟨x0, hx0, rfl⟩ := given_q (hval 0 24 v0 rfl rfl) h0
  obtain ⟨A1, n1, c1, f1, rfl, hc1, hm1, hr1⟩ := given_pairs (hval 1 56 v1 rfl rfl) h1
  obtain ⟨A2, n2, c2, f2, rfl, hc2, hm2, hr2⟩ := given_lss (hval 2 57 v2 rfl rfl) h2
  exact proposeSafe_walk x0.q x0.A x0.n x0.c A1 n1 c1 f1 A2 n2 c2 f2 W hx0 hc1 hm1 hr1 hc2 hm2 hr2

theorem over : Rows.proposeSafeRow.holds Try.pinned (OpenSpec.ofChange Rows.proposeSafeSpec) :=
  OpenClaim.holds_of_wide 5 Try.f5 rfl rfl rfl rfl rfl rfl rfl ⟨rfl, rfl, rfl, rfl, rfl⟩ rfl rfl rfl rfl rfl (by kernel_rfl) Try.func5 (by kernel_rfl)
    (of_decide_eq_true (by kernel_rfl)) (by unfold Func.isWrapper; first | (rw [if_pos (by decide +kernel)]; kernel_rfl) | (rw [if_neg (by decide +kernel)]; exact ⟨rfl, rfl⟩))
    (fun os started H enc _ => lifted os started H enc)
end proposeSafe

theorem ProposeSafe_proved : Rows.ProposeSafeSaid := proposeSafe.over
#print axioms ProposeSafe_proved
end Go.Proofs.Ythkkkldkpdkabaa
