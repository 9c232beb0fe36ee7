/- The program's proposer: hear. -/
import Derived.Test.YthkkkldkpdkabaaProB
import Derived.Deep.DeepCutAuto
import Derived.Deep.RegionLaw
import Derived.Deep.RegionHeld3
import Derived.StillTailTactics
namespace Go.Proofs.Ythkkkldkpdkabaa
open Go.RowKit Go.Maps

theorem Pp.hear_told_len (p : Pp) (node : Nat) (v : Vt) : (p.hear node v).told.length ≤ p.told.length + 1 := by
  unfold Pp.hear
  split
  · exact putK_len _ _ _
  · omega
def HearR (w : World) (F : Nat → Prop) (g : Nat) (p : Pp) (e : Ending) (w' : World) : Prop := ∃ F', e = .returned (.tuple #[]) ∧ PPM w' F' g p ∧ Mv F F' w w'
def tmA (nx : Nat) (bx : Nat) (dx : Int) (x : Value) : Array Value := #[.int .i64 (nx : Int), .int .u64 (bx : Int), .int .i64 dx, x]
/-- What stands in a slot, as it is looked up: by letters. -/
theorem PPm.told_at {w : World} {F : Nat → Prop} {g bt bp n c : Nat} {A : Option Addr} {p : Pp} {ts : List Tle} {ps : List Pze} (h : PPm w F g bt bp A n c p ts ps) (k : Nat) (hk : k < 18446744073709551616) (node : Nat) (v : Vt) :
    ∃ (ok : Bool) (nx bx : Nat) (dx : Int) (xA : Option Addr) (xn xc : Nat), (∀ W, Below w.heap.size w W → (Instr.lookup 78 (.map (some bt)) (.int .u64 (k : Int)) true).run Try.prog W = .ok (.tuple #[.agg #[.int .i64 (nx : Int), .int .u64 (bx : Int), .int .i64 dx, .slice xA xn xc], .bool ok]) W) ∧
      wins (getK p.told k) node v = (!ok || (Bl.less ⟨bx, dx⟩ v.bal || (Bl.eqB ⟨bx, dx⟩ v.bal && decide (node < nx)))) := by
  rcases h.tget k with ⟨e1, e2⟩ | ⟨x, hm, e1, e2⟩
  · refine ⟨false, 0, 0, 0, none, 0, 0, fun W hb => ?_, by rw [e2]; rfl⟩
    have := (h.below hb).tlook k hk
    rw [e1] at this
    exact this
  · obtain ⟨⟨nd, ⟨bn, bd⟩, l⟩, s⟩ := x
    obtain ⟨xA, xn, xc, hsv⟩ := slV_slP s
    refine ⟨true, nd, bn, bd, xA, xn, xc, fun W hb => ?_, by rw [e2]; rfl⟩
    have := (h.below hb).tlook k hk
    rw [e1] at this
    rw [← hsv]
    exact this
theorem own_slP {w : World} {base e n c m : Nat} {A : Option Addr} {xs : List Value} (ho : w.ownsRow base e 1 (.slice A m c) n xs) : ∃ s : Sl, slV s = .slice A m c := by
  rcases ho.2 with ⟨hv, _⟩ | ⟨g', cap, cur, hv, _⟩
  · injection hv with h1 h2 h3
    subst h1 h2 h3
    exact ⟨(none, 0, 0), rfl⟩
  · injection hv with h1 h2 h3
    subst h1 h2 h3
    exact ⟨(some g', _, _), rfl⟩
theorem bel1P {w : World} (o : Obj) : Below w.heap.size w (w.alloc o) := (Below.refl _ _).alloc (Nat.le_refl _) o
section
variable {w : World} {F : Nat → Prop} {g bt bp n c : Nat} {A : Option Addr} {p : Pp} {ts : List Tle} {ps : List Pze}
set_option maxRecDepth 100000 in
set_option maxHeartbeats 4000000 in
/-- What is heard binds: from the guard on. -/
theorem hear_any (h : PPm w F g bt bp A n c p ts ps) (node : Nat) (hnd : node < p.q.n) (v : Vt) (vA : Option Addr) (vn vc : Nat) (hrd : Rd w w.heap.size vA vn v.val) (hs : p.base ≤ v.slot ∧ v.slot < 18446744073709551616) (hb : v.bal.right = true) (hbn : v.bal.n < 18446744073709551616) (hl : v.val.length ≤ 100)
    (htl : p.told.length < 140737488355328) :
    Calls Try.prog 50 #[.pointer (some ⟨g, 0, none⟩), .int .i64 (node : Int), vtV v (.slice vA vn vc)] w (HearR w F g (p.hear node v)) := by
  obtain ⟨sl, ⟨bn, bd⟩, l⟩ := v
  dsimp only at hrd hs hbn hl
  obtain ⟨ok, nx, bx, dx, xA, xn, xc, hlook, hwins⟩ := h.told_at sl hs.2 node ⟨sl, ⟨bn, bd⟩, l⟩
  obtain ⟨w1, hw1⟩ : ∃ w1, w1 = w.alloc (.cells #[.int .u64 (sl : Int), .int .u64 (bn : Int), .int .i64 bd, .slice vA vn vc] 48) := ⟨_, rfl⟩
  have hb1 : Below w.heap.size w w1 := by rw [hw1]; exact bel1P _
  have hk1 : Bk w1 w.heap.size 48 #[.int .u64 (sl : Int), .int .u64 (bn : Int), .int .i64 bd, .slice vA vn vc] := by rw [hw1]; exact Bk.new w _ _
  have HQ : Hid (∀ W, Below w1.heap.size w1 W → W.cell? ⟨w.heap.size, 0, none⟩ = some (.int .u64 (sl : Int)) ∧ W.cell? ⟨w.heap.size, 1, none⟩ = some (.int .u64 (bn : Int)) ∧ W.cell? ⟨w.heap.size, 2, none⟩ = some (.int .i64 bd) ∧ W.cell? ⟨w.heap.size, 3, none⟩ = some (.slice vA vn vc) ∧ W.cell? ⟨g, 9, none⟩ = some (.map (some bt))) := Lib.hid fun W hb => by
    have hk := hk1.below hb hk1.lt
    exact ⟨hk.cell 0, hk.cell 1, hk.cell 2, hk.cell 3, (h.below (below_then hb1 hb)).bk.cell 9⟩
  have HW := Lib.hid hw1
  have HB1 := Lib.hid hb1
  have HLk := Lib.hid (fun W (hb : Below w1.heap.size w1 W) => hlook W (below_then hb1 hb))
  have HP := Lib.hid h
  have HWins := Lib.hid hwins
  have hsz : w1.heap.size = w.heap.size + 1 := by rw [hw1]; simp
  have HSz := Lib.hid hsz
  clear hw1 hb1 hk1 hlook h hwins hsz
  have hv : vtV (⟨sl, ⟨bn, bd⟩, l⟩ : Vt) (.slice vA vn vc) = .agg #[.int .u64 (sl : Int), .int .u64 (bn : Int), .int .i64 bd, .slice vA vn vc] := rfl
  rw [hv]
  clear hv
  have HS := Lib.hid hs
  have HBr := Lib.hid hb
  clear hs hb
  go_enter Try.func50, Try.ntmps50
  go_upto_region 1 with (fail)
  rw [← HW.out]
  go_cut [6, 7] (fun s o wx => ∃ g6, s = .pointer (some ⟨g6, 0, none⟩) ∧ o = .bool ok ∧ Bk wx g6 98 (tmA nx bx dx (.slice xA xn xc)) ∧ Below w1.heap.size w1 wx)
  case first =>
    obtain ⟨q0, q1, q2, q3, q9⟩ := HQ.out w1 (Below.refl _ _)
    have l1 := HLk.out w1 (Below.refl _ _)
    have l2 := HLk.out w1.drew (Below.refl _ _).drew
    have l3 := HLk.out (w1.alloc (.cells #[.int .i64 0, .int .u64 0, .int .i64 0, .slice none 0 0] 98)).drew (bel1P _).drew
    obtain ⟨r0, r1, r2, r3, r9⟩ := HQ.out (w1.alloc (.cells #[.int .i64 0, .int .u64 0, .int .i64 0, .slice none 0 0] 98)).drew (bel1P _).drew
    go_region_law (fail)
    all_goals
      go_wp2
      go_meet
      first
        | exact ⟨_, rfl, rfl, Bk.new w1 98 (tmA nx bx dx (.slice xA xn xc)), (bel1P _).drew⟩
        | exact ⟨_, rfl, rfl, Bk.new w1.drew 98 (tmA nx bx dx (.slice xA xn xc)), bel1P _⟩
  case rest =>
    obtain ⟨g6, rfl, rfl, hk6, hb6⟩ := hcut
    have HK6 := Lib.hid hk6
    have HB6 := Lib.hid hb6
    have HLs := Lib.hid (fun W => aless_any ⟨bx, dx⟩ ⟨bn, bd⟩ W)
    unfold blV at HLs
    dsimp only at HLs
    obtain ⟨q0, q1, q2, q3, q9⟩ := HQ.out _ hb6
    have y0 : wc.cell? ⟨g6, 0, none⟩ = some (.int .i64 (nx : Int)) := hk6.cell 0
    have y1 : wc.cell? ⟨g6, 1, none⟩ = some (.int .u64 (bx : Int)) := hk6.cell 1
    have y2 : wc.cell? ⟨g6, 2, none⟩ = some (.int .i64 dx) := hk6.cell 2
    clear hk6 hb6
    generalize hwn : wins (getK p.told sl) node ⟨sl, ⟨bn, bd⟩, l⟩ = wn at HWins
    have Hwn := Lib.hid hwn
    clear hwn
    go_upto_region 2 with (fail)
    go_cut [39] (fun b wx => b = .bool wn ∧ Below w1.heap.size w1 wx)
    case first =>
      cases ok with
      | false =>
        go_wp2
        go_meet
        exact ⟨by rw [HWins.out]; rfl, HB6.out⟩
      | true =>
        have HQ7 := Lib.hid (fun W hb => HQ.out W (below_then HB6.out hb))
        have HK7 : Hid (∀ W, Below wc.heap.size wc W → W.cell? ⟨g6, 0, none⟩ = some (.int .i64 (nx : Int)) ∧ W.cell? ⟨g6, 1, none⟩ = some (.int .u64 (bx : Int)) ∧ W.cell? ⟨g6, 2, none⟩ = some (.int .i64 dx)) := Lib.hid fun W hb => by
          have hk := HK6.out.below hb HK6.out.lt
          exact ⟨hk.cell 0, hk.cell 1, hk.cell 2⟩
        have HE : Hid (wn = (Bl.less ⟨bx, dx⟩ ⟨bn, bd⟩ || (Bl.eqB ⟨bx, dx⟩ ⟨bn, bd⟩ && decide (node < nx)))) := Lib.hid HWins.out
        clear HQ HWins
        cases hr : Bl.less ⟨bx, dx⟩ ⟨bn, bd⟩ with
        | true =>
          rw [hr] at HLs HE
          clear hr
          go_wp2_with fail
          refine (HLs.out _).mono ?_
          rintro e W7 ⟨rfl, hb7⟩
          have HB7 := Lib.hid (below_then HB6.out hb7)
          clear hb7 q0 q1 q2 q3 q9 y0 y1 y2
          go_wp2
          go_meet
          exact ⟨by rw [HE.out]; rfl, HB7.out⟩
        | false =>
          rw [hr] at HLs HE
          clear hr
          go_wp2_with fail
          refine (HLs.out _).mono ?_
          rintro e W7 ⟨rfl, hb7⟩
          have HB7 := Lib.hid (below_then HB6.out hb7)
          clear q0 q1 q2 q3 q9 y0 y1 y2
          obtain ⟨q0, q1, q2, q3, q9⟩ := HQ7.out _ hb7
          obtain ⟨y0, y1, y2⟩ := HK7.out _ hb7
          clear hb7
          unfold Bl.eqB at HE
          dsimp only at HE
          have hcs : (¬ bx = bn) ∨ (bx = bn ∧ ¬ dx = bd) ∨ (bx = bn ∧ dx = bd ∧ node < nx) ∨ (bx = bn ∧ dx = bd ∧ ¬ node < nx) := by omega
          rcases hcs with h1 | ⟨h1, h2⟩ | ⟨h1, h2, h3⟩ | ⟨h1, h2, h3⟩
          · rw [decide_eq_false h1] at HE
            have n1 : ¬ (bx : Int) = (bn : Int) := by omega
            go_wp2
            go_meet
            exact ⟨by rw [HE.out]; rfl, HB7.out⟩
          · rw [decide_eq_true h1, decide_eq_false h2] at HE
            subst h1
            go_wp2
            go_meet
            exact ⟨by rw [HE.out]; rfl, HB7.out⟩
          · rw [decide_eq_true h1, decide_eq_true h2, decide_eq_true h3] at HE
            subst h1 h2
            have n1 : (node : Int) < (nx : Int) := by omega
            go_wp2
            go_meet
            exact ⟨by rw [HE.out]; rfl, HB7.out⟩
          · rw [decide_eq_true h1, decide_eq_true h2, decide_eq_false h3] at HE
            subst h1 h2
            have n1 : ¬ (node : Int) < (nx : Int) := by omega
            go_wp2
            go_meet
            exact ⟨by rw [HE.out]; rfl, HB7.out⟩
    case rest =>
      obtain ⟨rfl, hb7⟩ := hcut
      have HB7 := Lib.hid (below_then HB1.out hb7)
      clear HK6 HB6 HLs q0 q1 q2 q3 q9 y0 y1 y2 HWins
      obtain ⟨q0, q1, q2, q3, q9⟩ := HQ.out _ hb7
      have HL7 := Lib.hid hb7
      clear hb7
      cases wn with
      | false =>
        have hh : p.hear node ⟨sl, ⟨bn, bd⟩, l⟩ = p := by unfold Pp.hear; rw [Hwn.out]; rfl
        have HD : Hid (HearR w F g (p.hear node ⟨sl, ⟨bn, bd⟩, l⟩) (.returned (.tuple #[])) wc) := Lib.hid ⟨F, rfl, by rw [hh]; exact ⟨_, _, _, _, _, _, _, HP.out.below HB7.out⟩, Mv.of (Kp.of_below HB7.out)⟩
        clear hh
        go_wp2
        go_end0
        exact HD.out
      | true =>
        have hh : p.hear node ⟨sl, ⟨bn, bd⟩, l⟩ = { p with told := putK sl ⟨node, ⟨bn, bd⟩, l⟩ p.told, top := max p.top sl } := by unfold Pp.hear; rw [Hwn.out]; rfl
        obtain rfl : l.length = vn := hrd.1
        have hok := HP.out.ok.hear (v := ⟨sl, ⟨bn, bd⟩, l⟩) hnd HS.out HBr.out hbn hl
        rw [hh] at hok
        have hok2 : Pp.Ok { p with told := putK sl ⟨node, ⟨bn, bd⟩, l⟩ p.told } := ⟨hok.right, hok.bal, hok.baln, hok.base, hok.prom, hok.tsrt, hok.told, HP.out.ok.top, hok.psrt, hok.props, hok.pre⟩
        have HC := Lib.hid (fun W (hb : Below wc.heap.size wc W) => cloneB_any vA l.length vc w.heap.size l W (by omega) (Nat.le_trans HB7.out.size hb.size) (hrd.below (HB7.out.trans (hb.mono HB7.out.size))))
        have HX : Hid (∀ W1 Av cv, Below wc.heap.size wc W1 → W1.ownsRow wc.heap.size 5 1 (.slice Av l.length cv) l.length (u8s l) → ∃ w2 F2 ts2, (Instr.mapUpdate 78 (.map (some bt)) (.int .u64 (sl : Int)) (.agg #[.int .i64 (node : Int), .int .u64 (bn : Int), .int .i64 bd, .slice Av l.length cv])).run Try.prog W1 = .ok () w2 ∧
            W1.cell? ⟨w.heap.size, 0, none⟩ = some (.int .u64 (sl : Int)) ∧ W1.cell? ⟨w.heap.size, 1, none⟩ = some (.int .u64 (bn : Int)) ∧ W1.cell? ⟨w.heap.size, 2, none⟩ = some (.int .i64 bd) ∧ W1.cell? ⟨w.heap.size, 3, none⟩ = some (.slice vA l.length vc) ∧ W1.cell? ⟨g, 9, none⟩ = some (.map (some bt)) ∧
            w2.cell? ⟨w.heap.size, 0, none⟩ = some (.int .u64 (sl : Int)) ∧ w2.cell? ⟨w.heap.size, 1, none⟩ = some (.int .u64 (bn : Int)) ∧ w2.cell? ⟨w.heap.size, 2, none⟩ = some (.int .i64 bd) ∧ w2.cell? ⟨w.heap.size, 3, none⟩ = some (.slice vA l.length vc) ∧ w2.cell? ⟨g, 9, none⟩ = some (.map (some bt)) ∧
            Hid (PPm w2 F2 g bt bp A n c { p with told := putK sl ⟨node, ⟨bn, bd⟩, l⟩ p.told } ts2 ps ∧ Mv F F2 w w2)) := Lib.hid fun W1 Av cv hb1 ho => by
          obtain ⟨s, hs⟩ := own_slP ho
          have hbW : Below w.heap.size w W1 := HB7.out.trans (hb1.mono HB7.out.size)
          have hP1 := HP.out.below hbW
          obtain ⟨w2, hrun, hP2, hkp⟩ := hP1.tput HS.out.2 (t := ⟨node, ⟨bn, bd⟩, l⟩) (s := s) (by rw [hs]; exact own_mono ho (Nat.zero_le _)) (by unfold maxLen; omega) hok2
          rw [show tmV (node, ⟨bn, bd⟩, s) = .agg #[.int .i64 (node : Int), .int .u64 (bn : Int), .int .i64 bd, .slice Av l.length cv] by rw [← hs]; rfl] at hrun
          obtain ⟨a0, a1, a2, a3, a9⟩ := HQ.out W1 (HL7.out.trans (hb1.mono HL7.out.size))
          have hne : ¬ w.heap.size = bt := by have := HP.out.lt _ HP.out.ft; omega
          refine ⟨w2, _, _, hrun, a0, a1, a2, a3, a9, cell_kp a0 hkp hne, cell_kp a1 hkp hne, cell_kp a2 hkp hne, cell_kp a3 hkp hne, hP2.bk.cell 9, Lib.hid ⟨hP2, ?_, ?_⟩⟩
          · exact (Kp.of_below hbW).trans' (hkp.mono (G := F) fun k e => by subst e; exact HP.out.ft) (fun i hi => .inl hi)
          · intro k hk
            rcases hk with hk | hk
            · exact .inl hk
            · rw [hs] at hk
              have := (ho.lt k hk).1
              have := HB7.out.size
              exact .inr (by omega)
        clear HQ HLk
        go_upto_region 3 with (fail)
        go_cut [62] (fun _ wx => ∃ F2 ts2, Hid (PPm wx F2 g bt bp A n c { p with told := putK sl ⟨node, ⟨bn, bd⟩, l⟩ p.told } ts2 ps ∧ Mv F F2 w wx) ∧ wx.cell? ⟨w.heap.size, 0, none⟩ = some (.int .u64 (sl : Int)))
        case first =>
          go_region_held3 (fun w' => w'.cell? ⟨w.heap.size, 0, none⟩ = some (.int .u64 (sl : Int)) ∧ w'.cell? ⟨w.heap.size, 1, none⟩ = some (.int .u64 (bn : Int)) ∧ w'.cell? ⟨w.heap.size, 2, none⟩ = some (.int .i64 bd) ∧ w'.cell? ⟨w.heap.size, 3, none⟩ = some (.slice vA l.length vc) ∧ w'.cell? ⟨g, 9, none⟩ = some (.map (some bt)))
            (first | exact ⟨q0, q1, q2, q3, q9⟩ | exact ⟨z0, z1, z2, z3, z9⟩ | exact ⟨x0, x1, x2, x3, x9⟩ | go_keep)
            (first | (go_at_call 51; (refine (HC.out _ (by (repeat' (first | assumption | exact Below.refl _ _ | apply Below.drew)))).mono ?_); rintro e W1 ⟨v1, rfl, ho1, hb1⟩; (obtain ⟨Av, cv, rfl, _⟩ := own_shape ho1); (obtain ⟨w2, F2, ts2, hrun, z0, z1, z2, z3, z9, x0, x1, x2, x3, x9, HK⟩ := HX.out W1 Av cv (below_then ((Below.refl _ _).drew) hb1) (own_mono ho1 (by simp only [World.drew]; exact Nat.le_refl _))); clear ho1 hb1))
          all_goals
            clear hrun z0 z1 z2 z3 z9 x1 x2 x3 x9 HC HX
            go_wp2_with fail
            go_meet
            exact ⟨_, _, HK, x0⟩
        case rest =>
          obtain ⟨F2, ts2, HK, x0⟩ := hcut
          have y1 : wc.cell? ⟨g, 10, none⟩ = some (.int .u64 (p.top : Int)) := HK.out.1.bk.cell 10
          have y2 : wc.frozen? ⟨g, 10, none⟩ = false := HK.out.1.bk.frozen 10
          have HD : Hid (HearR w F g (p.hear node ⟨sl, ⟨bn, bd⟩, l⟩) (.returned (.tuple #[])) ((wc.setCell ⟨g, 10, none⟩ (.int .u64 ((max p.top sl : Nat) : Int))).drew)) := by
            refine Lib.hid ⟨F2, rfl, ?_, ?_⟩
            · rw [hh]
              exact ⟨_, _, _, _, _, _, _, (HK.out.1.turn (p' := { p with told := putK sl ⟨node, ⟨bn, bd⟩, l⟩ p.told, top := max p.top sl }) (HK.out.1.bk.set_ 10 _) (Kp.set_ (F := fun j => j = g) (p := ⟨g, 10, none⟩) rfl _) rfl rfl rfl hok).drewN 1⟩
            · exact HK.out.2.trans (Mv.of ((Kp.set_ (F := F2) (p := ⟨g, 10, none⟩) HK.out.1.fg _).trans (Kp.drew F2 _)))
          have hm : (max (p.top : Int) (sl : Int)) = ((max p.top sl : Nat) : Int) := by omega
          have Hm := Lib.hid hm
          have htop := HK.out.1.ok.top
          generalize (max p.top sl : Nat) = M at *
          clear HC HX hh hok hok2 HK hm htop
          generalize p.top = tp at *
          go_upto_region 4 with (fail)
          go_still_tail 10, (by kernel_rfl)
          change wpList _ _ _ _ _ wc.drew
          go_wp2_with fail
          go_end0
          rw [Hm.out]
          exact HD.out
end
end Go.Proofs.Ythkkkldkpdkabaa
