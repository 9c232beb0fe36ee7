/- Of the proofs of layer 4, merged: ProC, ProD, ProE, ProF, ProG, ProH, ProO, SynM, SynA. -/
import Derived.Test.YtjapmolmgfaocaaMProA
import Derived.Deep.DeepCutAuto
import Derived.Deep.RegionLaw
import Derived.Deep.RegionHeld3
import Derived.StillTailTactics
import Derived.Deep.LoopGhost
import Derived.WalkMore
import Derived.Deep.CutRange
import Derived.Test.YtjapmolmgfaocaaM1Lent
import Derived.Test.YtjapmolmgfaocaaMProP
import Derived.Test.YtjapmolmgfaocaaMFoot

/- The program's proposer: hear. -/
namespace Go.Proofs.Ytjapmolmgfaocaa
open Go.RowKit Go.Maps

theorem Pp.hear_told_len (p : Pp) (node : Nat) (v : Vt) : (p.hear node v).told.length ≤ p.told.length + 1 := by
  unfold Pp.hear
  split
  · exact putK_len _ _ _
  · omega
def HearR (w : World) (F : Nat → Prop) (g : Nat) (p : Pp) (e : Ending) (w' : World) : Prop := ∃ F', e = .returned (.tuple #[]) ∧ PPM w' F' g p ∧ Mv F F' w w'
def tmA (nx : Nat) (bx : Nat) (dx : Int) (x : Value) : Array Value := #[.int .i64 (nx : Int), .int .u64 (bx : Int), .int .i64 dx, x]
/-- What stands in a slot, as it is looked up: by letters. -/
theorem PPm.told_at {w : World} {F : Nat → Prop} {g bt bp n c : Nat} {A : Option Addr} {p : Pp} {ts : List Tle} {ps : List Pze} (h : PPm w F g bt bp A n c p ts ps) (k : Nat) (hk : k < 18446744073709551616) (node : Nat) (v : Vt) :
    ∃ (ok : Bool) (nx bx : Nat) (dx : Int) (xA : Option Addr) (xn xc : Nat), (∀ W, Below w.heap.size w W → (Instr.lookup 104 (.map (some bt)) (.int .u64 (k : Int)) true).run Try.prog W = .ok (.tuple #[.agg #[.int .i64 (nx : Int), .int .u64 (bx : Int), .int .i64 dx, .slice xA xn xc], .bool ok]) W) ∧
      wins (getK p.told k) node v = (!ok || (Bl.less ⟨bx, dx⟩ v.bal || (Bl.eqB ⟨bx, dx⟩ v.bal && decide (node < nx)))) := by
  rcases h.tget k with ⟨e1, e2⟩ | ⟨x, hm, e1, e2⟩
  · refine ⟨false, 0, 0, 0, none, 0, 0, fun W hb => ?_, by rw [e2]; rfl⟩
    have := (h.below hb).tlook k hk
    rw [e1] at this
    exact this
  · obtain ⟨⟨nd, ⟨bn, bd⟩, l⟩, s⟩ := x
    obtain ⟨xA, xn, xc, hsv⟩ := slV_slP s
    refine ⟨true, nd, bn, bd, xA, xn, xc, fun W hb => ?_, by rw [e2]; rfl⟩
    have := (h.below hb).tlook k hk
    rw [e1] at this
    rw [← hsv]
    exact this
theorem own_slP {w : World} {base e n c m : Nat} {A : Option Addr} {xs : List Value} (ho : w.ownsRow base e 1 (.slice A m c) n xs) : ∃ s : Sl, slV s = .slice A m c := by
  rcases ho.2 with ⟨hv, _⟩ | ⟨g', cap, cur, hv, _⟩
  · injection hv with h1 h2 h3
    subst h1 h2 h3
    exact ⟨(none, 0, 0), rfl⟩
  · injection hv with h1 h2 h3
    subst h1 h2 h3
    exact ⟨(some g', _, _), rfl⟩
theorem bel1P {w : World} (o : Obj) : Below w.heap.size w (w.alloc o) := (Below.refl _ _).alloc (Nat.le_refl _) o
section
variable {w : World} {F : Nat → Prop} {g bt bp n c : Nat} {A : Option Addr} {p : Pp} {ts : List Tle} {ps : List Pze}
set_option maxRecDepth 100000 in
set_option maxHeartbeats 4000000 in
/-- What is heard binds: from the guard on. -/
theorem hear_any (h : PPm w F g bt bp A n c p ts ps) (node : Nat) (hnd : node < p.q.n) (v : Vt) (vA : Option Addr) (vn vc : Nat) (hrd : Rd w w.heap.size vA vn v.val) (hs : p.base ≤ v.slot ∧ v.slot < 18446744073709551616) (hb : v.bal.right = true) (hbn : v.bal.n < 18446744073709551616) (hl : v.val.length ≤ 100)
    (htl : p.told.length < 140737488355328) :
    Calls Try.prog 66 #[.pointer (some ⟨g, 0, none⟩), .int .i64 (node : Int), vtV v (.slice vA vn vc)] w (HearR w F g (p.hear node v)) := by
  obtain ⟨sl, ⟨bn, bd⟩, l⟩ := v
  dsimp only at hrd hs hbn hl
  obtain ⟨ok, nx, bx, dx, xA, xn, xc, hlook, hwins⟩ := h.told_at sl hs.2 node ⟨sl, ⟨bn, bd⟩, l⟩
  obtain ⟨w1, hw1⟩ : ∃ w1, w1 = w.alloc (.cells #[.int .u64 (sl : Int), .int .u64 (bn : Int), .int .i64 bd, .slice vA vn vc] 46) := ⟨_, rfl⟩
  have hb1 : Below w.heap.size w w1 := by rw [hw1]; exact bel1P _
  have hk1 : Bk w1 w.heap.size 46 #[.int .u64 (sl : Int), .int .u64 (bn : Int), .int .i64 bd, .slice vA vn vc] := by rw [hw1]; exact Bk.new w _ _
  have HQ : Hid (∀ W, Below w1.heap.size w1 W → W.cell? ⟨w.heap.size, 0, none⟩ = some (.int .u64 (sl : Int)) ∧ W.cell? ⟨w.heap.size, 1, none⟩ = some (.int .u64 (bn : Int)) ∧ W.cell? ⟨w.heap.size, 2, none⟩ = some (.int .i64 bd) ∧ W.cell? ⟨w.heap.size, 3, none⟩ = some (.slice vA vn vc) ∧ W.cell? ⟨g, 9, none⟩ = some (.map (some bt))) := Lib.hid fun W hb => by
    have hk := hk1.below hb hk1.lt
    exact ⟨hk.cell 0, hk.cell 1, hk.cell 2, hk.cell 3, (h.below (below_then hb1 hb)).bk.cell 9⟩
  have HW := Lib.hid hw1
  have HB1 := Lib.hid hb1
  have HLk := Lib.hid (fun W (hb : Below w1.heap.size w1 W) => hlook W (below_then hb1 hb))
  have HP := Lib.hid h
  have HWins := Lib.hid hwins
  have hsz : w1.heap.size = w.heap.size + 1 := by rw [hw1]; simp
  have HSz := Lib.hid hsz
  clear hw1 hb1 hk1 hlook h hwins hsz
  have hv : vtV (⟨sl, ⟨bn, bd⟩, l⟩ : Vt) (.slice vA vn vc) = .agg #[.int .u64 (sl : Int), .int .u64 (bn : Int), .int .i64 bd, .slice vA vn vc] := rfl
  rw [hv]
  clear hv
  have HS := Lib.hid hs
  have HBr := Lib.hid hb
  clear hs hb
  go_enter Try.func66, Try.ntmps66
  go_upto_region 1 with (fail)
  rw [← HW.out]
  go_cut [6, 7] (fun s o wx => ∃ g6, s = .pointer (some ⟨g6, 0, none⟩) ∧ o = .bool ok ∧ Bk wx g6 127 (tmA nx bx dx (.slice xA xn xc)) ∧ Below w1.heap.size w1 wx)
  case first =>
    obtain ⟨q0, q1, q2, q3, q9⟩ := HQ.out w1 (Below.refl _ _)
    have l1 := HLk.out w1 (Below.refl _ _)
    have l2 := HLk.out w1.drew (Below.refl _ _).drew
    have l3 := HLk.out (w1.alloc (.cells #[.int .i64 0, .int .u64 0, .int .i64 0, .slice none 0 0] 127)).drew (bel1P _).drew
    obtain ⟨r0, r1, r2, r3, r9⟩ := HQ.out (w1.alloc (.cells #[.int .i64 0, .int .u64 0, .int .i64 0, .slice none 0 0] 127)).drew (bel1P _).drew
    go_region_law (fail)
    all_goals
      go_wp2
      go_meet
      first
        | exact ⟨_, rfl, rfl, Bk.new w1 127 (tmA nx bx dx (.slice xA xn xc)), (bel1P _).drew⟩
        | exact ⟨_, rfl, rfl, Bk.new w1.drew 127 (tmA nx bx dx (.slice xA xn xc)), bel1P _⟩
  case rest =>
    obtain ⟨g6, rfl, rfl, hk6, hb6⟩ := hcut
    have HK6 := Lib.hid hk6
    have HB6 := Lib.hid hb6
    have HLs := Lib.hid (fun W => aless_any ⟨bx, dx⟩ ⟨bn, bd⟩ W)
    unfold blV at HLs
    dsimp only at HLs
    obtain ⟨q0, q1, q2, q3, q9⟩ := HQ.out _ hb6
    have y0 : wc.cell? ⟨g6, 0, none⟩ = some (.int .i64 (nx : Int)) := hk6.cell 0
    have y1 : wc.cell? ⟨g6, 1, none⟩ = some (.int .u64 (bx : Int)) := hk6.cell 1
    have y2 : wc.cell? ⟨g6, 2, none⟩ = some (.int .i64 dx) := hk6.cell 2
    clear hk6 hb6
    generalize hwn : wins (getK p.told sl) node ⟨sl, ⟨bn, bd⟩, l⟩ = wn at HWins
    have Hwn := Lib.hid hwn
    clear hwn
    go_upto_region 2 with (fail)
    go_cut [39] (fun b wx => b = .bool wn ∧ Below w1.heap.size w1 wx)
    case first =>
      cases ok with
      | false =>
        go_wp2
        go_meet
        exact ⟨by rw [HWins.out]; rfl, HB6.out⟩
      | true =>
        have HQ7 := Lib.hid (fun W hb => HQ.out W (below_then HB6.out hb))
        have HK7 : Hid (∀ W, Below wc.heap.size wc W → W.cell? ⟨g6, 0, none⟩ = some (.int .i64 (nx : Int)) ∧ W.cell? ⟨g6, 1, none⟩ = some (.int .u64 (bx : Int)) ∧ W.cell? ⟨g6, 2, none⟩ = some (.int .i64 dx)) := Lib.hid fun W hb => by
          have hk := HK6.out.below hb HK6.out.lt
          exact ⟨hk.cell 0, hk.cell 1, hk.cell 2⟩
        have HE : Hid (wn = (Bl.less ⟨bx, dx⟩ ⟨bn, bd⟩ || (Bl.eqB ⟨bx, dx⟩ ⟨bn, bd⟩ && decide (node < nx)))) := Lib.hid HWins.out
        clear HQ HWins
        cases hr : Bl.less ⟨bx, dx⟩ ⟨bn, bd⟩ with
        | true =>
          rw [hr] at HLs HE
          clear hr
          go_wp2_with fail
          refine (HLs.out _).mono ?_
          rintro e W7 ⟨rfl, hb7⟩
          have HB7 := Lib.hid (below_then HB6.out hb7)
          clear hb7 q0 q1 q2 q3 q9 y0 y1 y2
          go_wp2
          go_meet
          exact ⟨by rw [HE.out]; rfl, HB7.out⟩
        | false =>
          rw [hr] at HLs HE
          clear hr
          go_wp2_with fail
          refine (HLs.out _).mono ?_
          rintro e W7 ⟨rfl, hb7⟩
          have HB7 := Lib.hid (below_then HB6.out hb7)
          clear q0 q1 q2 q3 q9 y0 y1 y2
          obtain ⟨q0, q1, q2, q3, q9⟩ := HQ7.out _ hb7
          obtain ⟨y0, y1, y2⟩ := HK7.out _ hb7
          clear hb7
          unfold Bl.eqB at HE
          dsimp only at HE
          have hcs : (¬ bx = bn) ∨ (bx = bn ∧ ¬ dx = bd) ∨ (bx = bn ∧ dx = bd ∧ node < nx) ∨ (bx = bn ∧ dx = bd ∧ ¬ node < nx) := by omega
          rcases hcs with h1 | ⟨h1, h2⟩ | ⟨h1, h2, h3⟩ | ⟨h1, h2, h3⟩
          · rw [decide_eq_false h1] at HE
            have n1 : ¬ (bx : Int) = (bn : Int) := by omega
            go_wp2
            go_meet
            exact ⟨by rw [HE.out]; rfl, HB7.out⟩
          · rw [decide_eq_true h1, decide_eq_false h2] at HE
            subst h1
            go_wp2
            go_meet
            exact ⟨by rw [HE.out]; rfl, HB7.out⟩
          · rw [decide_eq_true h1, decide_eq_true h2, decide_eq_true h3] at HE
            subst h1 h2
            have n1 : (node : Int) < (nx : Int) := by omega
            go_wp2
            go_meet
            exact ⟨by rw [HE.out]; rfl, HB7.out⟩
          · rw [decide_eq_true h1, decide_eq_true h2, decide_eq_false h3] at HE
            subst h1 h2
            have n1 : ¬ (node : Int) < (nx : Int) := by omega
            go_wp2
            go_meet
            exact ⟨by rw [HE.out]; rfl, HB7.out⟩
    case rest =>
      obtain ⟨rfl, hb7⟩ := hcut
      have HB7 := Lib.hid (below_then HB1.out hb7)
      clear HK6 HB6 HLs q0 q1 q2 q3 q9 y0 y1 y2 HWins
      obtain ⟨q0, q1, q2, q3, q9⟩ := HQ.out _ hb7
      have HL7 := Lib.hid hb7
      clear hb7
      cases wn with
      | false =>
        have hh : p.hear node ⟨sl, ⟨bn, bd⟩, l⟩ = p := by unfold Pp.hear; rw [Hwn.out]; rfl
        have HD : Hid (HearR w F g (p.hear node ⟨sl, ⟨bn, bd⟩, l⟩) (.returned (.tuple #[])) wc) := Lib.hid ⟨F, rfl, by rw [hh]; exact ⟨_, _, _, _, _, _, _, HP.out.below HB7.out⟩, Mv.of (Kp.of_below HB7.out)⟩
        clear hh
        go_wp2
        go_end0
        exact HD.out
      | true =>
        have hh : p.hear node ⟨sl, ⟨bn, bd⟩, l⟩ = { p with told := putK sl ⟨node, ⟨bn, bd⟩, l⟩ p.told, top := max p.top sl } := by unfold Pp.hear; rw [Hwn.out]; rfl
        obtain rfl : l.length = vn := hrd.1
        have hok := HP.out.ok.hear (v := ⟨sl, ⟨bn, bd⟩, l⟩) hnd HS.out HBr.out hbn hl
        rw [hh] at hok
        have hok2 : Pp.Ok { p with told := putK sl ⟨node, ⟨bn, bd⟩, l⟩ p.told } := ⟨hok.right, hok.bal, hok.baln, hok.base, hok.prom, hok.tsrt, hok.told, HP.out.ok.top, hok.psrt, hok.props, hok.pre⟩
        have HC := Lib.hid (fun W (hb : Below wc.heap.size wc W) => cloneB_any vA l.length vc w.heap.size l W (by omega) (Nat.le_trans HB7.out.size hb.size) (hrd.below (HB7.out.trans (hb.mono HB7.out.size))))
        have HX : Hid (∀ W1 Av cv, Below wc.heap.size wc W1 → W1.ownsRow wc.heap.size 5 1 (.slice Av l.length cv) l.length (u8s l) → ∃ w2 F2 ts2, (Instr.mapUpdate 104 (.map (some bt)) (.int .u64 (sl : Int)) (.agg #[.int .i64 (node : Int), .int .u64 (bn : Int), .int .i64 bd, .slice Av l.length cv])).run Try.prog W1 = .ok () w2 ∧
            W1.cell? ⟨w.heap.size, 0, none⟩ = some (.int .u64 (sl : Int)) ∧ W1.cell? ⟨w.heap.size, 1, none⟩ = some (.int .u64 (bn : Int)) ∧ W1.cell? ⟨w.heap.size, 2, none⟩ = some (.int .i64 bd) ∧ W1.cell? ⟨w.heap.size, 3, none⟩ = some (.slice vA l.length vc) ∧ W1.cell? ⟨g, 9, none⟩ = some (.map (some bt)) ∧
            w2.cell? ⟨w.heap.size, 0, none⟩ = some (.int .u64 (sl : Int)) ∧ w2.cell? ⟨w.heap.size, 1, none⟩ = some (.int .u64 (bn : Int)) ∧ w2.cell? ⟨w.heap.size, 2, none⟩ = some (.int .i64 bd) ∧ w2.cell? ⟨w.heap.size, 3, none⟩ = some (.slice vA l.length vc) ∧ w2.cell? ⟨g, 9, none⟩ = some (.map (some bt)) ∧
            Hid (PPm w2 F2 g bt bp A n c { p with told := putK sl ⟨node, ⟨bn, bd⟩, l⟩ p.told } ts2 ps ∧ Mv F F2 w w2)) := Lib.hid fun W1 Av cv hb1 ho => by
          obtain ⟨s, hs⟩ := own_slP ho
          have hbW : Below w.heap.size w W1 := HB7.out.trans (hb1.mono HB7.out.size)
          have hP1 := HP.out.below hbW
          obtain ⟨w2, hrun, hP2, hkp⟩ := hP1.tput HS.out.2 (t := ⟨node, ⟨bn, bd⟩, l⟩) (s := s) (by rw [hs]; exact own_mono ho (Nat.zero_le _)) (by unfold maxLen; omega) hok2
          rw [show tmV (node, ⟨bn, bd⟩, s) = .agg #[.int .i64 (node : Int), .int .u64 (bn : Int), .int .i64 bd, .slice Av l.length cv] by rw [← hs]; rfl] at hrun
          obtain ⟨a0, a1, a2, a3, a9⟩ := HQ.out W1 (HL7.out.trans (hb1.mono HL7.out.size))
          have hne : ¬ w.heap.size = bt := by have := HP.out.lt _ HP.out.ft; omega
          refine ⟨w2, _, _, hrun, a0, a1, a2, a3, a9, cell_kp a0 hkp hne, cell_kp a1 hkp hne, cell_kp a2 hkp hne, cell_kp a3 hkp hne, hP2.bk.cell 9, Lib.hid ⟨hP2, ?_, ?_⟩⟩
          · exact (Kp.of_below hbW).trans' (hkp.mono (G := F) fun k e => by subst e; exact HP.out.ft) (fun i hi => .inl hi)
          · intro k hk
            rcases hk with hk | hk
            · exact .inl hk
            · rw [hs] at hk
              have := (ho.lt k hk).1
              have := HB7.out.size
              exact .inr (by omega)
        clear HQ HLk
        go_upto_region 3 with (fail)
        go_cut [62] (fun _ wx => ∃ F2 ts2, Hid (PPm wx F2 g bt bp A n c { p with told := putK sl ⟨node, ⟨bn, bd⟩, l⟩ p.told } ts2 ps ∧ Mv F F2 w wx) ∧ wx.cell? ⟨w.heap.size, 0, none⟩ = some (.int .u64 (sl : Int)))
        case first =>
          go_region_held3 (fun w' => w'.cell? ⟨w.heap.size, 0, none⟩ = some (.int .u64 (sl : Int)) ∧ w'.cell? ⟨w.heap.size, 1, none⟩ = some (.int .u64 (bn : Int)) ∧ w'.cell? ⟨w.heap.size, 2, none⟩ = some (.int .i64 bd) ∧ w'.cell? ⟨w.heap.size, 3, none⟩ = some (.slice vA l.length vc) ∧ w'.cell? ⟨g, 9, none⟩ = some (.map (some bt)))
            (first | exact ⟨q0, q1, q2, q3, q9⟩ | exact ⟨z0, z1, z2, z3, z9⟩ | exact ⟨x0, x1, x2, x3, x9⟩ | go_keep)
            (first | (go_at_call 31; (refine (HC.out _ (by (repeat' (first | assumption | exact Below.refl _ _ | apply Below.drew)))).mono ?_); rintro e W1 ⟨v1, rfl, ho1, hb1⟩; (obtain ⟨Av, cv, rfl, _⟩ := own_shape ho1); (obtain ⟨w2, F2, ts2, hrun, z0, z1, z2, z3, z9, x0, x1, x2, x3, x9, HK⟩ := HX.out W1 Av cv (below_then ((Below.refl _ _).drew) hb1) (own_mono ho1 (by simp only [World.drew]; exact Nat.le_refl _))); clear ho1 hb1))
          all_goals
            clear hrun z0 z1 z2 z3 z9 x1 x2 x3 x9 HC HX
            go_wp2_with fail
            go_meet
            exact ⟨_, _, HK, x0⟩
        case rest =>
          obtain ⟨F2, ts2, HK, x0⟩ := hcut
          have y1 : wc.cell? ⟨g, 10, none⟩ = some (.int .u64 (p.top : Int)) := HK.out.1.bk.cell 10
          have y2 : wc.frozen? ⟨g, 10, none⟩ = false := HK.out.1.bk.frozen 10
          have HD : Hid (HearR w F g (p.hear node ⟨sl, ⟨bn, bd⟩, l⟩) (.returned (.tuple #[])) ((wc.setCell ⟨g, 10, none⟩ (.int .u64 ((max p.top sl : Nat) : Int))).drew)) := by
            refine Lib.hid ⟨F2, rfl, ?_, ?_⟩
            · rw [hh]
              exact ⟨_, _, _, _, _, _, _, (HK.out.1.turn (p' := { p with told := putK sl ⟨node, ⟨bn, bd⟩, l⟩ p.told, top := max p.top sl }) (HK.out.1.bk.set_ 10 _) (Kp.set_ (F := fun j => j = g) (p := ⟨g, 10, none⟩) rfl _) rfl rfl rfl hok).drewN 1⟩
            · exact HK.out.2.trans (Mv.of ((Kp.set_ (F := F2) (p := ⟨g, 10, none⟩) HK.out.1.fg _).trans (Kp.drew F2 _)))
          have hm : (max (p.top : Int) (sl : Int)) = ((max p.top sl : Nat) : Int) := by omega
          have Hm := Lib.hid hm
          have htop := HK.out.1.ok.top
          generalize (max p.top sl : Nat) = M at *
          clear HC HX hh hok hok2 HK hm htop
          generalize p.top = tp at *
          go_upto_region 4 with (fail)
          go_still_tail 10, (by kernel_rfl)
          change wpList _ _ _ _ _ wc.drew
          go_wp2_with fail
          go_end0
          rw [Hm.out]
          exact HD.out
end
end Go.Proofs.Ytjapmolmgfaocaa

/- The program's proposer: mayBe. -/
namespace Go.Proofs.Ytjapmolmgfaocaa
open Go.RowKit Go.Maps

/-- The least slot that the vote at k may have. -/
def loAt (s : Nat) (l : List Vt) : Nat → Nat
  | 0 => s
  | k + 1 => (l[k]?.map (·.slot)).getD 0 + 1
theorem mayL_at (b : Bl) (s : Nat) (l : List Vt) (k : Nat) (hk : k < l.length) : mayL b (loAt s l k) (l.drop k) = (okV b (loAt s l k) l[k] && mayL b (loAt s l (k + 1)) (l.drop (k + 1))) := by
  rw [List.drop_eq_getElem_cons hk, mayL_cons]
  congr 2
  unfold loAt
  simp [hk]
def MayI (b : Bl) (s : Nat) (l : List Vt) (k : Nat) : Prop := mayL b s l = mayL b (loAt s l k) (l.drop k)
section
variable {w : World} {F G : Nat → Prop} {g bt bp n c N C : Nat} {A B : Option Addr} {p : Pp} {ts : List Tle} {ps : List Pze} {es : List Vtr}
set_option maxRecDepth 100000 in
set_option maxHeartbeats 8000000 in
theorem mayBe_any (h : PPm w F g bt bp A n c p ts ps) (hv : VsR w G B N C es) (hN : N < 4611686018427387904) :
    Calls Try.prog 65 #[.pointer (some ⟨g, 0, none⟩), .slice B N C] w fun e w' => e = .returned (.bool (mayL p.bal p.base (es.map (·.1)))) ∧ Below w.heap.size w w' := by
  have HC : Hid (∀ W, Below w.heap.size w W → W.cell? ⟨g, 5, none⟩ = some (.int .u64 (p.bal.n : Int)) ∧ W.cell? ⟨g, 6, none⟩ = some (.int .i64 p.bal.node) ∧ W.cell? ⟨g, 7, none⟩ = some (.int .u64 (p.base : Int))) := Lib.hid fun W hb => by
    obtain ⟨_, _, _, _, _, a, b, d, _⟩ := (h.below hb).cells
    exact ⟨a, b, d⟩
  obtain ⟨l, hl⟩ : ∃ l, l = es.map (·.1) := ⟨_, rfl⟩
  have hlen : l.length = N := by rw [hl, List.length_map]; exact hv.len
  rw [← hl]
  have HI0 : Hid (MayI p.bal p.base l 0) := Lib.hid rfl
  have HRes : Hid (mayL p.bal p.base l = mayL p.bal p.base l) := Lib.hid rfl
  have HBal : Hid (∀ W (b : Bl), Calls Try.prog 54 #[blV b, blV p.bal] W fun e w' => e = .returned (.bool (Bl.less b p.bal)) ∧ Below W.heap.size W w') := Lib.hid fun W b => aless_any b p.bal W
  have HRg : Hid (∀ W (b : Bl), Calls Try.prog 53 #[blV b] W fun e w' => e = .returned (.bool b.right) ∧ Below W.heap.size W w') := Lib.hid fun W b => aright_any b W
  generalize hbal : p.bal = bal at *
  generalize p.base = base at *
  obtain ⟨pn, pd⟩ := bal
  dsimp only at HC
  have HL := Lib.hid hlen
  rcases Nat.eq_zero_or_pos N with h0 | h0
  · subst h0
    obtain rfl : l = [] := List.eq_nil_of_length_eq_zero hlen
    clear h hv hlen hl hN hbal HC HI0 HRes HBal HRg HL
    go_enter Try.func65, Try.ntmps65
    go_wp2_with fail
    go_step3
    go_wp2_with fail
    go_step3
    go_wp2_with fail
    go_loopg [5, 10] 0 (fun gk s i wr => s = .int .i64 0 ∧ i = .int .i64 0 ∧ gk = 0 ∧ wr = w)
    case atStart => exact ⟨rfl, rfl, rfl, rfl⟩
    case round =>
      obtain ⟨rfl, rfl, rfl, rfl⟩ := hrel
      go_wp2
      rw [Exit.noGoto_ret]
      go_ret
      exact ⟨rfl, Below.refl _ _⟩
  obtain ⟨R, o, rfl, -, -, -⟩ := hv.row h0
  have HV : Hid (∀ W, Below w.heap.size w W → ∀ k (hk : k < l.length), ∃ x : Option Addr × Nat × Nat, l[k].val.length = x.2.1 ∧ x.2.1 ≤ x.2.2 ∧ x.2.2 ≤ 9223372036854775807 ∧ W.cell? ⟨R, o + k * 4, none⟩ = some (.int .u64 (l[k].slot : Int)) ∧ W.cell? ⟨R, o + k * 4 + 1, none⟩ = some (.int .u64 (l[k].bal.n : Int)) ∧
      W.cell? ⟨R, o + k * 4 + 2, none⟩ = some (.int .i64 l[k].bal.node) ∧ W.cell? ⟨R, o + k * 4 + 3, none⟩ = some (.slice x.1 x.2.1 x.2.2)) := Lib.hid fun W hb k hk => by
    subst hl
    obtain ⟨R', o', e, _, _, hc⟩ := (hv.below hb).row h0
    injection e with e
    injection e with e1 e2
    subst e1 e2
    have hk' : k < es.length := by simpa using hk
    obtain ⟨c0, c1, c2, c3⟩ := hc k hk'
    obtain ⟨a1, a2, a3, _⟩ := hv.each _ (List.getElem_mem hk')
    rw [List.getElem_map]
    exact ⟨es[k].2, a3.1, a1, a2, c0, c1, c2, c3⟩
  clear h hv hl hlen
  have HB0 := Lib.hid hbal
  clear hbal
  go_enter Try.func65, Try.ntmps65
  go_wp2_with fail
  go_step3
  go_wp2_with fail
  go_step3
  go_wp2_with fail
  go_loopg [5, 10] N (fun gk s i wr => ∃ k : Nat, s = .int .i64 (k : Int) ∧ i = .int .i64 (k : Int) ∧ k + gk = N ∧ Hid (MayI ⟨pn, pd⟩ base l k ∧ base ≤ loAt base l k) ∧ Hid (Below w.heap.size w wr))
  case atStart => exact ⟨0, rfl, rfl, by omega, Lib.hid ⟨HI0.out, Nat.le_refl _⟩, Lib.hid (Below.refl _ _)⟩
  case round =>
    obtain ⟨k, rfl, rfl, hkg, HI, HB⟩ := hrel
    by_cases hk : k < N
    · have hkl : k < l.length := by rw [HL.out]; exact hk
      have hmay := mayL_at ⟨pn, pd⟩ base l k hkl
      obtain ⟨x, hx1, hx2, hx3, c0, c1, c2, c3⟩ := HV.out wr HB.out k hkl
      have HNx : Hid (∀ e, okV ⟨pn, pd⟩ (loAt base l k) l[k] = e → mayL ⟨pn, pd⟩ base l = (e && mayL ⟨pn, pd⟩ (loAt base l (k + 1)) (l.drop (k + 1)))) := Lib.hid fun e he => by
        have := HI.out.1
        unfold MayI at this
        rw [this, hmay, he]
      have hnext : loAt base l (k + 1) = l[k].slot + 1 := by unfold loAt; simp [hkl]
      have HNext := Lib.hid hnext
      clear hmay hnext
      have HLo : Hid ((k = 0 ∧ loAt base l k = base) ∨ ∃ j prev, k = j + 1 ∧ loAt base l k = prev + 1 ∧ ∀ W, Below w.heap.size w W → W.cell? ⟨R, o + j * 4, none⟩ = some (.int .u64 (prev : Int))) := Lib.hid (by
        cases k with
        | zero => exact .inl ⟨rfl, rfl⟩
        | succ j =>
          have hj : j < l.length := by omega
          refine .inr ⟨j, l[j].slot, rfl, by unfold loAt; simp [hj], fun W hb => ?_⟩
          obtain ⟨_, _, _, _, d0, _⟩ := HV.out W hb j hj
          exact d0)
      have hlb := HI.out.2
      generalize loAt base l k = lo at *
      generalize hrest : mayL ⟨pn, pd⟩ (loAt base l (k + 1)) (l.drop (k + 1)) = rest at *
      have HRst := Lib.hid hrest
      clear hrest
      generalize l[k] = vk at *
      obtain ⟨sl, ⟨bn, bd⟩, vv⟩ := vk
      obtain ⟨xA, xn, xc⟩ := x
      dsimp only at *
      obtain ⟨w3, hw3⟩ : ∃ w3, w3 = wr.alloc (.cells #[.int .u64 (sl : Int), .int .u64 (bn : Int), .int .i64 bd, .slice xA xn xc] 46) := ⟨_, rfl⟩
      have hb3 : Below w.heap.size w w3 := by rw [hw3]; exact HB.out.alloc HB.out.size _
      have hk3 : Bk w3 wr.heap.size 46 #[.int .u64 (sl : Int), .int .u64 (bn : Int), .int .i64 bd, .slice xA xn xc] := by rw [hw3]; exact Bk.new wr _ _
      have HY : Hid (∀ W, Below w3.heap.size w3 W → W.cell? ⟨wr.heap.size, 0, none⟩ = some (.int .u64 (sl : Int)) ∧ W.cell? ⟨wr.heap.size, 1, none⟩ = some (.int .u64 (bn : Int)) ∧ W.cell? ⟨wr.heap.size, 2, none⟩ = some (.int .i64 bd) ∧ W.cell? ⟨wr.heap.size, 3, none⟩ = some (.slice xA xn xc)) := Lib.hid fun W hb => by
        have hk := hk3.below hb hk3.lt
        exact ⟨hk.cell 0, hk.cell 1, hk.cell 2, hk.cell 3⟩
      have HW3 := Lib.hid hw3
      have HB3 := Lib.hid hb3
      clear hw3 hb3 hk3
      go_upto_region 5 with (fail)
      rw [← HW3.out]
      obtain ⟨y0, y1, y2, y3⟩ := HY.out w3 (Below.refl _ _)
      obtain ⟨g5, g6, g7⟩ := HC.out w3 HB3.out
      clear c0 c1 c2 c3
      go_quiet (fail)
      go_upto_if 15 with (fail)
      go_cut [10, 15] from 10 to 56 (fun i b wx => i = .int .i64 (k : Int) ∧ b = .bool (decide (sl < lo)) ∧ Below w3.heap.size w3 wx)
      case first =>
        by_cases h1 : sl < base
        · have h1' : (sl : Int) < (base : Int) := by omega
          have hd : Hid (decide (sl < lo) = true) := Lib.hid (decide_eq_true (by omega))
          go_wp2
          go_meet
          exact ⟨rfl, by rw [hd.out, decide_eq_true h1], by (repeat' (first | exact Below.refl _ _ | apply bel_drewN))⟩
        · have h1' : ¬ (sl : Int) < (base : Int) := by omega
          rcases HLo.out with ⟨rfl, rfl⟩ | ⟨j, prev, rfl, rfl, hpc⟩
          · have hd : Hid (decide (sl < lo) = false) := Lib.hid (decide_eq_false h1)
            go_wp2_with fail
            go_quiet (fail)
            go_wp2
            go_meet
            exact ⟨rfl, by rw [hd.out], by (repeat' (first | exact Below.refl _ _ | apply bel_drewN))⟩
          · have p0 := hpc w3 HB3.out
            have e0 : (0 : Int) < ((j + 1 : Nat) : Int) := by omega
            have e1 : IntKind.i64.wrap (((j + 1 : Nat) : Int) - 1) = (j : Int) := by rw [IntKind.wrap_i64]; omega
            have e2 : (0 : Int) ≤ ((j + 1 : Nat) : Int) - 1 := by omega
            have e3 : (((j + 1 : Nat) : Int) - 1).toNat = j := by omega
            have e4 : ((j + 1 : Nat) : Int) - 1 < (N : Int) := by omega
            have e5 : j < N := by omega
            by_cases h2 : sl ≤ prev
            · have h2' : (sl : Int) ≤ (prev : Int) := by omega
              have hd : Hid (decide (sl < prev + 1) = true) := Lib.hid (decide_eq_true (by omega))
              clear hpc
              go_wp2_with fail
              go_quiet (fail)
              go_wp2
              go_meet
              exact ⟨rfl, by rw [hd.out], by (repeat' (first | exact Below.refl _ _ | apply bel_drewN))⟩
            · have h2' : ¬ (sl : Int) ≤ (prev : Int) := by omega
              have hd : Hid (decide (sl < prev + 1) = false) := Lib.hid (decide_eq_false (by omega))
              clear hpc
              go_wp2_with fail
              go_quiet (fail)
              go_wp2
              go_meet
              exact ⟨rfl, by rw [hd.out], by (repeat' (first | exact Below.refl _ _ | apply bel_drewN))⟩
      case rest =>
        obtain ⟨rfl, rfl, hb4⟩ := hcut
        have HB4 := Lib.hid (below_then HB3.out hb4)
        have HY4 := Lib.hid (fun W (hb : Below wc.heap.size wc W) => HY.out W (below_then hb4 hb))
        obtain ⟨_, z0, z1, _⟩ := HY.out wc hb4
        clear HY HLo hb4 y0 y1 y2 y3 g5 g6 g7
        unfold okV at HNx
        dsimp only at HNx
        obtain ⟨w4, hw4⟩ : ∃ w4, w4 = wc := ⟨_, rfl⟩
        subst hw4
        by_cases h1 : sl < lo
        · have hd : mayL ⟨pn, pd⟩ base l = false := by
            have := HNx.out false (by rw [decide_eq_false (by omega)]; rfl)
            rw [this]; rfl
          have HD := Lib.hid hd
          rw [decide_eq_true h1]
          clear hd HNx HNext HBal HRg z0 z1 HY4
          go_wp2
          rw [Exit.noGoto_ret]
          go_ret
          have hne : ¬ (k : Int) = (N : Int) := by omega
          exact ⟨by rw [HD.out]; simp; omega, HB4.out⟩
        · have HN1 : Hid (∀ e, (Bl.right ⟨bn, bd⟩ && (Bl.less ⟨bn, bd⟩ ⟨pn, pd⟩ && decide (vv.length ≤ 100))) = e → mayL ⟨pn, pd⟩ base l = (e && rest)) := Lib.hid fun e he => HNx.out e (by rw [decide_eq_true (by omega), Bool.true_and]; exact he)
          rw [decide_eq_false h1]
          clear HNx
          have HR1 := Lib.hid (HRg.out w4 ⟨bn, bd⟩)
          have HL1 := Lib.hid (fun W => HBal.out W ⟨bn, bd⟩)
          clear HRg HBal
          unfold blV at HR1 HL1
          dsimp only at HR1 HL1
          generalize Bl.right ⟨bn, bd⟩ = rb at *
          generalize Bl.less ⟨bn, bd⟩ ⟨pn, pd⟩ = lb at *
          go_upto_region 7 with (fail)
          go_wp2_with fail
          refine HR1.out.mono ?_
          rintro e w5 ⟨rfl, hb5⟩
          have HB5 := Lib.hid (below_then HB4.out hb5)
          obtain ⟨y0, y1, y2, y3⟩ := HY4.out w5 hb5
          have HY5 := Lib.hid (fun W (hb : Below w5.heap.size w5 W) => HY4.out W (below_then hb5 hb))
          obtain ⟨g5, g6, g7⟩ := HC.out w5 HB5.out
          clear hb5 z0 z1 HY4 HR1
          go_upto_if 36 with (fail)
          go_cut [10, 36] from 10 to 56 (fun i b wx => i = .int .i64 (k : Int) ∧ b = .bool (!(rb && lb)) ∧ Below w5.heap.size w5 wx)
          case first =>
            cases rb with
            | false =>
              go_wp2
              go_meet
              exact ⟨rfl, rfl, Below.refl _ _⟩
            | true =>
              have HL2 := Lib.hid (HL1.out (w5.drewN 1))
              go_wp2_with fail
              go_still_tail 6, (by kernel_rfl)
              change wpList _ _ _ _ _ w5.drew
              go_wp2_with fail
              refine HL2.out.mono ?_
              rintro e w6 ⟨rfl, hb6⟩
              have HB6 := Lib.hid (bel_of_drewN hb6)
              clear hb6
              go_wp2
              go_meet
              exact ⟨rfl, by simp, HB6.out⟩
          case rest =>
            obtain ⟨rfl, rfl, hb6⟩ := hcut
            have HB6 := Lib.hid (below_then HB5.out hb6)
            obtain ⟨z0, z1, z2, z3⟩ := HY5.out _ hb6
            clear hb6 y0 y1 y2 y3 g5 g6 g7 HY5 HL1
            cases hrl : (rb && lb) with
            | false =>
              have hd : mayL ⟨pn, pd⟩ base l = false := by
                have := HN1.out false (by rw [← Bool.and_assoc, hrl]; rfl)
                rw [this]; rfl
              have HD := Lib.hid hd
              clear hd HN1 HNext hrl z0 z1 z2 z3
              go_wp2
              rw [Exit.noGoto_ret]
              go_ret
              exact ⟨by rw [HD.out]; simp; omega, HB6.out⟩
            | true =>
              by_cases h4 : vv.length ≤ 100
              · have n4 : ¬ ((xn : Int) > 100) := by omega
                have n5 : ¬ 100 < xn := by omega
                have hd : mayL ⟨pn, pd⟩ base l = rest := by
                  have := HN1.out true (by rw [← Bool.and_assoc, hrl, decide_eq_true h4]; rfl)
                  rw [this]; rfl
                have HD := Lib.hid hd
                clear hd HN1 hrl z0 z1 z2
                go_wp2
                go_roundg (gk - 1)
                case measure => omega
                case rel => exact ⟨k + 1, by go_num, by go_num, by omega, Lib.hid ⟨by unfold MayI; rw [HRst.out]; exact HD.out, by rw [HNext.out]; omega⟩, HB6⟩
              · have n4 : ((xn : Int) > 100) := by omega
                have n5 : 100 < xn := by omega
                have hd : mayL ⟨pn, pd⟩ base l = false := by
                  have := HN1.out false (by rw [← Bool.and_assoc, hrl, decide_eq_false h4]; rfl)
                  rw [this]; rfl
                have HD := Lib.hid hd
                clear hd HN1 HNext hrl z0 z1 z2
                go_wp2
                rw [Exit.noGoto_ret]
                go_ret
                exact ⟨by rw [HD.out]; simp; omega, HB6.out⟩
    · obtain rfl : k = N := by omega
      have hres : mayL ⟨pn, pd⟩ base l = true := by
        have := HI.out.1
        unfold MayI at this
        rw [this, List.drop_eq_nil_of_le (by rw [HL.out]; exact Nat.le_refl _)]
        rfl
      have HRe := Lib.hid hres
      clear hres hk
      go_wp2
      rw [Exit.noGoto_ret]
      go_ret
      exact ⟨by rw [HRe.out]; simp, HB.out⟩
end
end Go.Proofs.Ytjapmolmgfaocaa

/- The program's proposer: Promise. -/
namespace Go.Proofs.Ytjapmolmgfaocaa
open Go.RowKit Go.Maps

theorem Pp.hears_app (p : Pp) (node : Nat) (l : List Vt) (v : Vt) : p.hears node (l ++ [v]) = (p.hears node l).hear node v := by unfold Pp.hears; rw [List.foldl_append]; rfl
theorem Pp.hears_len (node : Nat) : ∀ (l : List Vt) (p : Pp), (p.hears node l).told.length ≤ p.told.length + l.length
  | [], _ => Nat.le_refl _
  | v :: r, p => by
    have e : p.hears node (v :: r) = (p.hear node v).hears node r := rfl
    rw [e]
    have h1 := Pp.hears_len node r (p.hear node v)
    have h2 := p.hear_told_len node v
    simp only [List.length_cons]
    omega
def PromR (w : World) (F : Nat → Prop) (g : Nat) (r : Int × Pp) (e : Ending) (w' : World) : Prop := ∃ F', e = .returned (.int .i64 r.1) ∧ PPM w' F' g r.2 ∧ Mv F F' w w'
theorem bit_is (pm nd : Nat) (hp : pm < 4294967296) (hn : nd ≤ 12) : (bits .and .u32 ((pm : Int) / 2 ^ min nd 32) 1 == 1) = pm.testBit nd := by
  have e : min nd 32 = nd := by omega
  have h2 : pm / 2 ^ nd ≤ pm := Nat.div_le_self _ _
  rw [e, show (2 : Int) ^ nd = ((2 ^ nd : Nat) : Int) by simp, show ((pm : Int) / ((2 ^ nd : Nat) : Int)) = ((pm / 2 ^ nd : Nat) : Int) by simp, show (1 : Int) = ((1 : Nat) : Int) from rfl, u32_and_nat _ _ (by omega) (by omega), Nat.and_one_is_mod, Nat.testBit_eq_decide_div_mod_eq, Bool.eq_iff_iff]
  simp only [beq_iff_eq, decide_eq_true_eq]
  omega
theorem or_num (a nd : Nat) (ha : a < 4294967296) (hn : nd ≤ 12) : bits .or .u32 (a : Int) ((2 : Int) ^ min nd 32 % 4294967296) = ((a ||| 2 ^ nd : Nat) : Int) := by
  rw [bit_num nd hn]
  have h2 : 2 ^ nd ≤ 2 ^ 12 := Nat.pow_le_pow_right (by decide) hn
  exact u32_or_nat _ _ ha (by omega)
section
variable {w : World} {F G : Nat → Prop} {g bt bp n c N C : Nat} {A B : Option Addr} {p : Pp} {ts : List Tle} {ps : List Pze} {es : List Vtr}
theorem PPm.pm (h : PPm w F g bt bp A n c p ts ps) : PPM w F g p := ⟨bt, bp, A, n, c, ts, ps, h⟩
theorem PromR.same (h : PPm w F g bt bp A n c p ts ps) {w' : World} (hb : Below w.heap.size w w') {E : Int} {r : Int × Pp} (hr : r = (E, p)) : PromR w F g r (.returned (.int .i64 E)) w' := by
  subst hr
  exact ⟨F, rfl, (h.below hb).pm, Mv.of (Kp.of_below hb)⟩
set_option maxRecDepth 100000 in
set_option maxHeartbeats 8000000 in
theorem ppromise_any (h : PPm w F g bt bp A n c p ts ps) (hv : VsR w G B N C es) (hG : ∀ k, G k → ¬ F k) (hGl : ∀ k, G k → k < w.heap.size) (hN : p.told.length + N < 140737488355328) (x : Int) :
    Calls Try.prog 56 #[.pointer (some ⟨g, 0, none⟩), .int .i64 x, .slice B N C] w (PromR w F g (p.promise x (es.map (·.1)))) := by
  have HI := Lib.hid (isNode_any h x)
  have HM := Lib.hid (mayBe_any h hv (by omega))
  cases hi : p.isNode x with
  | false =>
    have HD := Lib.hid (PromR.same h (Below.refl _ _) (r := p.promise x (es.map (·.1))) (E := 2) (by unfold Pp.promise; rw [if_pos hi]))
    rw [hi] at HI
    clear h hv hG hGl hN HM hi
    go_enter Try.func56, Try.ntmps56
    go_wp2_with fail
    refine HI.out.mono ?_
    rintro e w2 ⟨rfl, rfl⟩
    go_wp2
    go_ret
    exact HD.out
  | true =>
    rw [hi] at HI
    cases hm : mayL p.bal p.base (es.map (·.1)) with
    | false =>
      have HD : Hid (∀ w2, Below w.heap.size w w2 → PromR w F g (p.promise x (es.map (·.1))) (.returned (.int .i64 91)) w2) := Lib.hid fun w2 hb => PromR.same h hb (by unfold Pp.promise; rw [if_neg (by rw [hi]; simp), if_pos hm])
      rw [hm] at HM
      clear h hv hG hGl hN hm hi
      go_enter Try.func56, Try.ntmps56
      go_wp2_with fail
      refine HI.out.mono ?_
      rintro e w2 ⟨rfl, rfl⟩
      go_wp2_with fail
      refine HM.out.mono ?_
      rintro e w3 ⟨rfl, hb3⟩
      have HD3 := Lib.hid (HD.out w3 hb3)
      clear hb3 HD
      go_wp2
      go_ret
      exact HD3.out
    | true =>
      rw [hm] at HM
      have hx := (Pp.isNode_iff h.ok.right x).1 hi
      obtain ⟨nd, rfl⟩ := Int.eq_ofNat_of_zero_le hx.1
      have hnd : nd < p.q.n := by simpa using hx.2
      have hn12 := (p.q.n_le h.ok.right).2.1
      have HC : Hid (∀ W, Below w.heap.size w W → W.cell? ⟨g, 8, none⟩ = some (.int .u32 (p.prom : Int)) ∧ W.frozen? ⟨g, 8, none⟩ = false) := Lib.hid fun W hb => ⟨(h.below hb).bk.cell 8, (h.below hb).bk.frozen 8⟩
      have e0 : ¬ ((nd : Int) < 0) := by omega
      cases hb : p.prom.testBit nd with
      | true =>
        have HD : Hid (∀ w2, Below w.heap.size w w2 → PromR w F g (p.promise nd (es.map (·.1))) (.returned (.int .i64 0)) w2) := Lib.hid fun w2 hbw => PromR.same h hbw (by unfold Pp.promise; rw [if_neg (by rw [hi]; simp), if_neg (by rw [hm]; simp), if_pos (by simpa using hb)])
        have hbit := bit_is p.prom nd (acc_lt h h.ok.prom) (by omega)
        rw [hb] at hbit
        clear h hv hG hGl hN hm hi hb hx hnd hn12
        generalize p.prom = pm at *
        go_enter Try.func56, Try.ntmps56
        go_wp2_with fail
        refine HI.out.mono ?_
        rintro e w2 ⟨rfl, rfl⟩
        go_wp2_with fail
        refine HM.out.mono ?_
        rintro e w3 ⟨rfl, hb3⟩
        have HD3 := Lib.hid (HD.out w3 hb3)
        obtain ⟨c8, f8⟩ := HC.out w3 hb3
        clear hb3 HD
        go_wp2
        go_ret
        exact HD3.out
      | false =>
        obtain ⟨p1, hp1⟩ : ∃ p1, p1 = { p with prom := p.prom ||| 2 ^ nd } := ⟨_, rfl⟩
        have hres : p.promise nd (es.map (·.1)) = (0, p1.hears nd (es.map (·.1))) := by
          unfold Pp.promise
          rw [if_neg (by rw [hi]; simp), if_neg (by rw [hm]; simp), if_neg (by simpa using hb), hp1]
          rfl
        rw [hres]
        have hok1 : p1.Ok := by
          rw [hp1]
          exact ⟨h.ok.right, h.ok.bal, h.ok.baln, h.ok.base, or_lt h.ok.prom hnd, h.ok.tsrt, h.ok.told, h.ok.top, h.ok.psrt, h.ok.props, h.ok.pre⟩
        have hbit := bit_is p.prom nd (acc_lt h h.ok.prom) (by omega)
        rw [hb] at hbit
        have hor := or_num p.prom nd (acc_lt h h.ok.prom) (by omega)
        have hv1 : ∀ v ∈ es.map (·.1), p1.base ≤ v.slot ∧ v.bal.right = true ∧ v.val.length ≤ 100 ∧ v.Num := fun v hv' => by
          have h1 := mayL_each _ _ _ hm v hv'
          obtain ⟨e, he, rfl⟩ := List.mem_map.1 hv'
          rw [hp1]
          exact ⟨h1.1, h1.2.1, h1.2.2.2, (hv.each e he).2.2.2.1⟩
        have hlen : (es.map (·.1)).length = N := by rw [List.length_map]; exact hv.len
        have hst : p1.told.length = p.told.length ∧ p1.q = p.q := by rw [hp1]; exact ⟨rfl, rfl⟩
        -- the state ahead of each round
        have HP1 : Hid (∀ W, Below w.heap.size w W → PPm ((W.setCell ⟨g, 8, none⟩ (.int .u32 ((p.prom ||| 2 ^ nd : Nat) : Int))).drew) F g bt bp A n c p1 ts ps ∧ Kp F w ((W.setCell ⟨g, 8, none⟩ (.int .u32 ((p.prom ||| 2 ^ nd : Nat) : Int))).drew)) := Lib.hid fun W hbw => by
          have hk : Kp (fun j => j = g) W (W.setCell ⟨g, 8, none⟩ (.int .u32 ((p.prom ||| 2 ^ nd : Nat) : Int))) := Kp.set_ (F := fun j => j = g) (p := ⟨g, 8, none⟩) rfl _
          refine ⟨PPm.drewN ((h.below hbw).turn (p' := p1) (by rw [hp1]; exact (h.below hbw).bk.set_ 8 _) hk (by rw [hp1]) (by rw [hp1]) (by rw [hp1]) hok1) 1, ?_⟩
          exact ((Kp.of_below hbw).trans (hk.mono fun k e => by subst e; exact h.fg)).trans (Kp.drew F _)
        have HV : Hid (∀ W F', Mv F F' w W → VsR W G B N C es ∧ ∀ k, F' k → ¬ G k) := Lib.hid fun W F' hmv => ⟨hv.kp hmv.kp hG, hmv.apart hGl fun k hk hg => hG k hg hk⟩
        obtain ⟨l, hl⟩ : ∃ l, l = es.map (·.1) := ⟨_, rfl⟩
        rw [← hl] at hv1 hlen ⊢
        have HL := Lib.hid hl
        have HV1 := Lib.hid hv1
        have HLen := Lib.hid hlen
        have HS := Lib.hid hst
        have HOk := Lib.hid hok1
        have hnd1 : nd < p1.q.n := by rw [hst.2]; exact hnd
        have htl : p1.told.length + N < 140737488355328 := by rw [hst.1]; exact hN
        have hp0 : p.prom ||| 2 ^ nd = p.prom ||| 2 ^ nd := rfl
        clear h hv hG hGl hN hm hi hb hx hnd hn12 hres hok1 hv1 hlen hst hl hp1 hp0
        generalize (p.prom ||| 2 ^ nd : Nat) = pm2 at *
        generalize p.prom = pm at *
        go_enter Try.func56, Try.ntmps56
        go_wp2_with fail
        refine HI.out.mono ?_
        rintro e w2 ⟨rfl, rfl⟩
        go_wp2_with fail
        refine HM.out.mono ?_
        rintro e w3 ⟨rfl, hb3⟩
        obtain ⟨hpm, hkp⟩ := HP1.out w3 hb3
        obtain ⟨c8, f8⟩ := HC.out w3 hb3
        have HPm := Lib.hid hpm
        have HKp := Lib.hid hkp
        clear hb3 hpm hkp HP1 HC HM HI
        go_upto_region 9 with (fail)
        go_still_tail 9, (by kernel_rfl)
        change wpList _ _ _ _ _ w3.drew
        go_wp2_with fail
        go_loopg [42] N (fun gk i wr => ∃ k : Nat, i = .int .i64 (k : Int) ∧ k + gk = N ∧ Hid (∃ F', PPM wr F' g (p1.hears nd (l.take k)) ∧ Mv F F' w wr))
        case atStart => exact ⟨0, rfl, by omega, Lib.hid ⟨F, by rw [List.take_zero]; exact HPm.out.pm, Mv.of HKp.out⟩⟩
        case round =>
          obtain ⟨k, rfl, hkg, HI⟩ := hrel
          obtain ⟨F', hP, hmv⟩ := HI.out
          by_cases hk : k < N
          · obtain ⟨hvw, hF'G⟩ := HV.out wr F' hmv
            obtain ⟨R, o, rfl, hGR, hRl, hcells⟩ := hvw.row (by omega)
            have hke : k < es.length := by rw [hvw.len]; exact hk
            obtain ⟨c0, c1, c2, c3⟩ := hcells k hke
            have hea := hvw.each _ (List.getElem_mem hke)
            have hkl : k < l.length := by rw [HLen.out]; exact hk
            have hlk : l[k] = es[k].1 := by
              have : l[k]? = (es.map (·.1))[k]? := by rw [HL.out]
              rw [List.getElem?_eq_getElem hkl, List.getElem?_map, List.getElem?_eq_getElem hke] at this
              simpa using this
            have hvk := HV1.out l[k] (List.getElem_mem hkl)
            have htake : l.take (k + 1) = l.take k ++ [l[k]] := List.take_succ_eq_append_getElem hkl
            have hq2 := Pp.hears_same nd (l.take k) p1
            have hl2 := Pp.hears_len nd (l.take k) p1
            have hl3 : (l.take k).length ≤ k := List.length_take_le _ _
            rw [hlk] at hvk htake
            have HNext : Hid (p1.hears nd (l.take (k + 1)) = (p1.hears nd (l.take k)).hear nd es[k].1) := Lib.hid (by rw [htake, Pp.hears_app])
            generalize p1.hears nd (l.take k) = pk at *
            generalize es[k] = ek at *
            obtain ⟨⟨sl, ⟨bn, bd⟩, vv⟩, xA, xn, xc⟩ := ek
            dsimp only at *
            obtain ⟨w4, hw4⟩ : ∃ w4, w4 = wr.alloc (.cells #[.int .u64 (sl : Int), .int .u64 (bn : Int), .int .i64 bd, .slice xA xn xc] 46) := ⟨_, rfl⟩
            have hb4 : Below wr.heap.size wr w4 := by rw [hw4]; exact bel1P _
            have hk4 : Bk w4 wr.heap.size 46 #[.int .u64 (sl : Int), .int .u64 (bn : Int), .int .i64 bd, .slice xA xn xc] := by rw [hw4]; exact Bk.new wr _ _
            have y0 : w4.cell? ⟨wr.heap.size, 0, none⟩ = some (.int .u64 (sl : Int)) := hk4.cell 0
            have y1 : w4.cell? ⟨wr.heap.size, 1, none⟩ = some (.int .u64 (bn : Int)) := hk4.cell 1
            have y2 : w4.cell? ⟨wr.heap.size, 2, none⟩ = some (.int .i64 bd) := hk4.cell 2
            have y3 : w4.cell? ⟨wr.heap.size, 3, none⟩ = some (.slice xA xn xc) := hk4.cell 3
            obtain ⟨bt', bp', A', n', c', ts', ps', hP4⟩ := hP.below hb4
            have HH := Lib.hid (hear_any hP4 nd (by rw [hq2.1]; exact hnd1) ⟨sl, ⟨bn, bd⟩, vv⟩ xA xn xc (hea.2.2.1.below hb4).rd ⟨by rw [hq2.2.2.1]; exact hvk.1, hvk.2.2.2.1⟩ hvk.2.1 hvk.2.2.2.2 hvk.2.2.1 (by omega))
            have hvt : vtV (⟨sl, ⟨bn, bd⟩, vv⟩ : Vt) (.slice xA xn xc) = .agg #[.int .u64 (sl : Int), .int .u64 (bn : Int), .int .i64 bd, .slice xA xn xc] := rfl
            rw [hvt] at HH
            have HM4 := Lib.hid (hmv.trans (Mv.of (Kp.of_below hb4)))
            have HW4 := Lib.hid hw4
            clear hvt hP4 hk4 hb4 hw4 hP hmv hvw hcells hea hkl hlk hvk htake hq2 hl2 hl3 hke HI
            go_upto_region 13 with (fail)
            rw [← HW4.out]
            go_wp2_with fail
            refine HH.out.mono ?_
            rintro e w5 ⟨F5, rfl, hP5, hmv5⟩
            have HN5 : Hid (∃ F', PPM w5 F' g (p1.hears nd (l.take (k + 1))) ∧ Mv F F' w w5) := Lib.hid ⟨F5, by rw [HNext.out]; exact hP5, HM4.out.trans hmv5⟩
            clear hP5 hmv5 HH HM4 HNext y0 y1 y2 y3 c0 c1 c2 c3
            go_wp2
            go_roundg (gk - 1)
            case measure => omega
            case rel => exact ⟨k + 1, by go_num, by omega, HN5⟩
          · obtain rfl : k = N := by omega
            have HD : Hid (PromR w F g (0, p1.hears nd l) (.returned (.int .i64 0)) wr) := by
              refine Lib.hid ⟨F', rfl, ?_, hmv⟩
              rw [List.take_of_length_le (by rw [HLen.out]; exact Nat.le_refl _)] at hP
              exact hP
            clear hP hmv HI hk
            go_wp2
            go_ret
            exact HD.out
end
end Go.Proofs.Ytjapmolmgfaocaa

/- The program's proposer: Accepted. -/
namespace Go.Proofs.Ytjapmolmgfaocaa
open Go.RowKit Go.Maps

section
variable {w : World} {F : Nat → Prop} {g bt bp n c : Nat} {A : Option Addr} {p : Pp} {ts : List Tle} {ps : List Pze}
set_option maxRecDepth 100000 in
set_option maxHeartbeats 8000000 in
theorem paccepted_any (h : PPm w F g bt bp A n c p ts ps) (x : Int) (s : Nat) (hs : s < 18446744073709551616) :
    Calls Try.prog 58 #[.pointer (some ⟨g, 0, none⟩), .int .i64 x, .int .u64 (s : Int)] w (PromR w F g (p.accepted x s)) := by
  have HI := Lib.hid (isNode_any h x)
  have c11 : w.cell? ⟨g, 11, none⟩ = some (.map (some bp)) := h.bk.cell 11
  have hlk := h.plook s hs
  cases hi : p.isNode x with
  | false =>
    have HD := Lib.hid (PromR.same h (Below.refl _ _) (r := p.accepted x s) (E := 2) (by unfold Pp.accepted; rw [if_pos hi]))
    rw [hi] at HI
    clear h hi hlk c11 hs
    go_enter Try.func58, Try.ntmps58
    go_wp2_with fail
    refine HI.out.mono ?_
    rintro e w2 ⟨rfl, rfl⟩
    go_wp2
    go_ret
    exact HD.out
  | true =>
    rw [hi] at HI
    rcases h.pget s with ⟨e1, e2⟩ | ⟨⟨z, gz, sl⟩, hm, e1, e2⟩
    · have HD := Lib.hid (PromR.same h (Below.refl _ _) (r := p.accepted x s) (E := 4) (by unfold Pp.accepted; rw [if_neg (by rw [hi]; simp), e2]))
      rw [e1] at hlk
      replace hlk : (Instr.lookup 105 (.map (some bp)) (.int .u64 (s : Int)) false).run Try.prog w = .ok (.pointer none) w := hlk
      clear h hi e1 e2 hs
      go_enter Try.func58, Try.ntmps58
      go_wp2_with fail
      refine HI.out.mono ?_
      rintro e w2 ⟨rfl, rfl⟩
      go_wp2
      go_ret
      exact HD.out
    · rw [e1] at hlk
      replace hlk : (Instr.lookup 105 (.map (some bp)) (.int .u64 (s : Int)) false).run Try.prog w = .ok (.pointer (some ⟨gz, 0, none⟩)) w := hlk
      have hx := (Pp.isNode_iff h.ok.right x).1 hi
      obtain ⟨nd, rfl⟩ := Int.eq_ofNat_of_zero_le hx.1
      have hnd : nd < p.q.n := by simpa using hx.2
      have hn12 := (p.q.n_le h.ok.right).2.1
      have hac := h.acc hm
      have z1 : w.cell? ⟨gz, 1, none⟩ = some (.int .u32 (z.acc : Int)) := (h.peach _ hm).cell 1
      have f1 : w.frozen? ⟨gz, 1, none⟩ = false := (h.peach _ hm).frozen 1
      obtain ⟨p1, hp1⟩ : ∃ p1, p1 = { p with props := putK s ⟨z.val, z.acc ||| 2 ^ nd⟩ p.props } := ⟨_, rfl⟩
      have hok1 : p1.Ok := by rw [hp1]; exact h.ok.putp ⟨hac.2.2.1, hac.2.2.2⟩ ⟨or_lt hac.1 hnd, hac.2.1⟩
      have hres : p.accepted nd s = (0, { p1 with pre := p1.climb (p1.props.length + 1) p1.pre }) := by
        unfold Pp.accepted
        rw [if_neg (by rw [hi]; simp), e2, hp1]
        rfl
      rw [hres]
      have hor := or_num z.acc nd (acc_lt h hac.1) (by omega)
      have hor2 : bits .or .u32 (z.acc : Int) (IntKind.u32.wrap ((2 : Int) ^ min nd 32)) = ((z.acc ||| 2 ^ nd : Nat) : Int) := by rw [IntKind.wrap_u32]; exact hor
      have e0 : ¬ ((nd : Int) < 0) := by omega
      have hP1 : PPm (w.setCell ⟨gz, 1, none⟩ (.int .u32 ((z.acc ||| 2 ^ nd : Nat) : Int))) F g bt bp A n c p1 ts (putK s (⟨z.val, z.acc ||| 2 ^ nd⟩, (gz, sl)) ps) := by
        rw [hp1]
        exact h.aput hm (z.acc ||| 2 ^ nd) (by rw [hp1] at hok1; exact hok1)
      have hK1 : Kp F w (w.setCell ⟨gz, 1, none⟩ (.int .u32 ((z.acc ||| 2 ^ nd : Nat) : Int))) := Kp.set_ (F := F) (p := ⟨gz, 1, none⟩) (h.pf _ hm) _
      generalize putK s (⟨z.val, z.acc ||| 2 ^ nd⟩, (gz, sl)) ps = ps1 at *
      have HP1 := Lib.hid hP1
      have HK1 := Lib.hid hK1
      have HOk := Lib.hid hok1
      have hpre := hok1.pre.2
      have habove := above_le p1.props p1.pre
      have HL2 : Hid ((Instr.lookup 105 (.map (some bp)) (.int .u64 (s : Int)) false).run Try.prog w.drew = .ok (.pointer (some ⟨gz, 0, none⟩)) w.drew) := Lib.hid (by
        have := (h.drewN 1).plook s hs
        rw [e1] at this
        exact this)
      clear h hi e1 e2 hm hx hnd hn12 hac hp1 hok1 hres hP1 hK1
      generalize (z.acc ||| 2 ^ nd : Nat) = a2 at *
      generalize z.acc = a1 at *
      go_enter Try.func58, Try.ntmps58
      go_wp2_with fail
      refine HI.out.mono ?_
      rintro e w2 ⟨rfl, rfl⟩
      go_upto_region 7 with (fail)
      have hlk2 : (Instr.lookup 105 (.map (some bp)) (.int .u64 (s : Int)) false).run Try.prog w.drew = .ok (.pointer (some ⟨gz, 0, none⟩)) w.drew := HL2.out
      go_region_law (fail)
      all_goals
        have HP2 : Hid (PPm (w.setCell ⟨gz, 1, none⟩ (.int .u32 (a2 : Int))).drew F g bt bp A n c p1 ts ps1) := Lib.hid (HP1.out.drewN 1)
        have HK2 := Lib.hid (HK1.out.trans (Kp.drew F _))
        have HD : Hid (∀ W x, PPm W F g bt bp A n c { p1 with pre := x } ts ps1 → Kp F w W → p1.pre ≤ x → (∀ s, p1.pre < s → s ≤ x → p1.isChosen s = true) → p1.isChosen (x + 1) = false → PromR w F g (0, { p1 with pre := p1.climb (p1.props.length + 1) p1.pre }) (.returned (.int .i64 0)) W) := Lib.hid fun W x hP hK hx hc he => by
          refine ⟨F, rfl, ?_, Mv.of hK⟩
          rw [Pp.climb_eq HOk.out (by omega) hx hc he]
          exact hP.pm
        clear HP1 HK1 hlk hlk2 HL2 c11 z1 f1 HI
        clear hor hor2
        generalize (w.setCell ⟨gz, 1, none⟩ (.int .u32 (a2 : Int))).drew = W2 at *
        go_wp2_with fail
        go_loopg [] (above p1.props p1.pre) (fun gk wr => ∃ x : Nat, above p1.props x = gk ∧ Hid (PPm wr F g bt bp A n c { p1 with pre := x } ts ps1 ∧ Kp F w wr ∧ p1.pre ≤ x ∧ (∀ s, p1.pre < s → s ≤ x → p1.isChosen s = true)))
        case atStart => exact ⟨p1.pre, rfl, Lib.hid ⟨HP2.out, HK2.out, Nat.le_refl _, fun s h1 h2 => by omega⟩⟩
        case round =>
          obtain ⟨x, hgk, HI⟩ := hrel
          obtain ⟨hP, hK, hx, hc⟩ := HI.out
          have hxl := hP.ok.pre
          dsimp only at hxl
          obtain ⟨k, hk⟩ : ∃ k, k = (x + 1) % 18446744073709551616 := ⟨_, rfl⟩
          have hkl : k < 18446744073709551616 := by omega
          have hck : p1.isChosen k = p1.isChosen (x + 1) := by
            by_cases h1 : x + 1 < 18446744073709551616
            · rw [hk, Nat.mod_eq_of_lt h1]
            · have e1 : p1.isChosen k = false := by
                cases h2 : p1.isChosen k with
                | false => rfl
                | true =>
                  have h3 := p1.isChosen_lt HOk.out h2
                  have h4 := HOk.out.base
                  omega
              have e2 : p1.isChosen (x + 1) = false := by
                cases h2 : p1.isChosen (x + 1) with
                | false => rfl
                | true =>
                  have h3 := p1.isChosen_lt HOk.out h2
                  omega
              rw [e1, e2]
          have ew : IntKind.u64.wrap ((x : Int) + 1) = (k : Int) := by rw [IntKind.wrap_u64]; omega
          have HC := isChosen_any hP k hkl
          have ec : Pp.isChosen { p1 with pre := x } k = p1.isChosen k := rfl
          rw [ec, hck] at HC
          have x12 : wr.cell? ⟨g, 12, none⟩ = some (.int .u64 (x : Int)) := hP.bk.cell 12
          have HPx := Lib.hid hP
          have HKx := Lib.hid hK
          have Hck := Lib.hid hck
          have Hcc := Lib.hid hc
          cases hch : p1.isChosen (x + 1) with
          | false =>
            rw [hch] at HC
            have HC := Lib.hid HC
            have HDx := Lib.hid (fun W hb => HD.out W x (hP.below hb) (hK.trans (Kp.of_below hb)) hx hc hch)
            clear hP hK hc hck ec hch HI hk
            go_wp2_with (go_at_call 68; refine HC.out.mono ?_; rintro e w5 ⟨rfl, hb5⟩; have HDy := Lib.hid (HDx.out w5 hb5); clear hb5)
            go_ret
            exact HDy.out
          | true =>
            rw [hch] at HC
            have HC := Lib.hid HC
            have hx1 := p1.isChosen_lt HOk.out hch
            have HB5 : Hid (∀ W, Below wr.heap.size wr W → W.cell? ⟨g, 12, none⟩ = some (.int .u64 (x : Int)) ∧ W.frozen? ⟨g, 12, none⟩ = false) := Lib.hid fun W hb => ⟨(hP.below hb).bk.cell 12, (hP.below hb).bk.frozen 12⟩
            have hkx : k = x + 1 := by omega
            obtain ⟨_, h64, z0, hz0⟩ := hx1
            have hab := above_lt hz0
            have HN : Hid (∀ W, Below wr.heap.size wr W → PPm (W.setCell ⟨g, 12, none⟩ (.int .u64 (k : Int))) F g bt bp A n c { p1 with pre := x + 1 } ts ps1 ∧ Kp F w (W.setCell ⟨g, 12, none⟩ (.int .u64 (k : Int))) ∧ p1.pre ≤ x + 1 ∧ (∀ s, p1.pre < s → s ≤ x + 1 → p1.isChosen s = true)) := Lib.hid fun W hb => by
              subst hkx
              refine ⟨(hP.below hb).turn ((hP.below hb).bk.set_ 12 _) (Kp.set_ (F := fun j => j = g) (p := ⟨g, 12, none⟩) rfl _) rfl rfl rfl ⟨HOk.out.right, HOk.out.bal, HOk.out.baln, HOk.out.base, HOk.out.prom, HOk.out.tsrt, HOk.out.told, HOk.out.top, HOk.out.psrt, HOk.out.props, ⟨Nat.le_succ_of_le hxl.1, h64⟩⟩, (hK.trans (Kp.of_below hb)).trans (Kp.set_ (F := F) (p := ⟨g, 12, none⟩) hP.fg _), by omega, fun s h1 h2 => ?_⟩
              by_cases h3 : s = x + 1
              · rw [h3]; exact hch
              · exact hc s h1 (by omega)
            clear hP hK hc hck ec hch HI hk hz0 hkx
            go_wp2_with (go_at_call 68; refine HC.out.mono ?_; rintro e w5 ⟨rfl, hb5⟩; obtain ⟨y12, f12⟩ := HB5.out w5 hb5; have HNx := Lib.hid (HN.out w5 hb5); clear hb5)
            go_roundg (above p1.props (x + 1))
            case measure => omega
            case rel => exact ⟨x + 1, rfl, HNx⟩
end
end Go.Proofs.Ytjapmolmgfaocaa

/- The program's proposer: Propose. -/
namespace Go.Proofs.Ytjapmolmgfaocaa
open Go.RowKit Go.Maps

/-- What Propose gives: a vote whose value is the caller's own, and an error. -/
def ProposeR (w : World) (F : Nat → Prop) (g : Nat) (r : Int × Vt × Pp) (e : Ending) (w' : World) : Prop :=
  ∃ (F' : Nat → Prop) (v : Value), e = .returned (.tuple #[vtV r.2.1 v, .int .i64 r.1]) ∧ w'.ownsRow w.heap.size 5 1 v r.2.1.val.length (u8s r.2.1.val) ∧ PPM w' F' g r.2.2 ∧ Mv F F' w w' ∧ ∀ k, v.ownBlock = some k → ¬ F' k
theorem st4P (w : World) (B : Nat) (a b c d : Value) : Kp (fun j => j = B) w ((((w.setCell ⟨B, 0, none⟩ a).setCell ⟨B, 1, none⟩ b).setCell ⟨B, 2, none⟩ c).setCell ⟨B, 3, none⟩ d) :=
  (((Kp.set_ (F := fun j => j = B) (p := ⟨B, 0, none⟩) rfl _).trans (Kp.set_ (F := fun j => j = B) (p := ⟨B, 1, none⟩) rfl _)).trans (Kp.set_ (F := fun j => j = B) (p := ⟨B, 2, none⟩) rfl _)).trans (Kp.set_ (F := fun j => j = B) (p := ⟨B, 3, none⟩) rfl _)
theorem Bk.s4P {w : World} {B : Nat} {t : TypeId} {x0 x1 x2 x3 : Value} (h : Bk w B t #[x0, x1, x2, x3]) (a b c d : Value) : Bk ((((w.setCell ⟨B, 0, none⟩ a).setCell ⟨B, 1, none⟩ b).setCell ⟨B, 2, none⟩ c).setCell ⟨B, 3, none⟩ d) B t #[a, b, c, d] := (((h.set_ 0 a).set_ 1 b).set_ 2 c).set_ 3 d
def vt0 : Array Value := #[.int .u64 0, .int .u64 0, .int .i64 0, .slice none 0 0]
section
variable {w : World} {F : Nat → Prop} {g bt bp n c : Nat} {A : Option Addr} {p : Pp} {ts : List Tle} {ps : List Pze}
theorem ProposeR_none (h : PPm w F g bt bp A n c p ts ps) {w' : World} (hb : Kp (fun j => j = w.heap.size) w w') {E : Int} {r : Int × Vt × Pp} (hr : r = (E, ⟨0, Bl.zero, []⟩, p)) : ProposeR w F g r (.returned (.tuple #[.agg #[.int .u64 0, .int .u64 0, .int .i64 0, .slice none 0 0], .int .i64 E])) w' := by
  subst hr
  have hb' : Kp (fun _ => False) w w' := ⟨hb.os, hb.tape, hb.output, hb.size, fun k hk _ => hb.block k hk (by omega)⟩
  exact ⟨F, .slice none 0 0, rfl, World.ownsRow_nil _ _ _ _, (h.kp hb' (fun _ _ h => h)).pm, Mv.of (hb'.mono fun _ h => h.elim), fun k e => by cases e⟩
/-- Ahead of the end: something is proposed in the slot. -/
def PropMid (w1 wx : World) (B : Nat) (F : Nat → Prop) (g : Nat) (p' : Pp) (s : Nat) (z : Pz) : Prop :=
  ∃ (F2 : Nat → Prop) (bt bp : Nat) (A : Option Addr) (n c : Nat) (ts : List Tle) (ps : List Pze) (gz : Nat) (sl : Sl), PPm wx F2 g bt bp A n c p' ts ps ∧ (s, (z, (gz, sl))) ∈ ps ∧ Mv F F2 w1 wx ∧ Bk wx B 46 vt0
theorem prop_put {w1 W : World} {B : Nat} (h : PPm w1 F g bt bp A n c p ts ps) (hB : Bk w1 B 46 vt0) (hb : Below w1.heap.size w1 W) {vA : Option Addr} {vc : Nat} {val : List UInt8} (ho : W.ownsRow w1.heap.size 5 1 (.slice vA val.length vc) val.length (u8s val)) (hval : val.length ≤ 100) {s : Nat} (hs : p.base ≤ s ∧ s < 18446744073709551616) (hpl : p.props.length + 1 < 140737488355328) :
    ∃ W5, (Instr.mapUpdate 105 (.map (some bp)) (.int .u64 (s : Int)) (.pointer (some ⟨W.heap.size, 0, none⟩))).run Try.prog (W.alloc (.cells #[.slice vA val.length vc, .int .u32 0] 122)) = .ok () W5 ∧ PropMid w1 W5 B F g { p with props := putK s ⟨val, 0⟩ p.props } s ⟨val, 0⟩ := by
  obtain ⟨sl, hsl⟩ := own_slP ho
  have hbA : Below W.heap.size W (W.alloc (.cells #[.slice vA val.length vc, .int .u32 0] 122)) := bel1P _
  have hbW : Below w1.heap.size w1 (W.alloc (.cells #[.slice vA val.length vc, .int .u32 0] 122)) := below_then hb hbA
  have hP := h.below hbW
  have hz : Bk (W.alloc (.cells #[.slice vA val.length vc, .int .u32 0] 122)) W.heap.size 122 (pzA ((⟨val, 0⟩ : Pz), (W.heap.size, sl))) := by
    have e : pzA ((⟨val, 0⟩ : Pz), (W.heap.size, sl)) = #[.slice vA val.length vc, .int .u32 0] := by unfold pzA; rw [hsl]; rfl
    rw [e]
    exact Bk.new W _ _
  have hsz := hb.size
  have hnew : ∀ e ∈ ps, e.2.2.1 ≠ W.heap.size := fun e he => by
    have := h.lt _ (h.pf e he)
    omega
  have ho2 := own_below ho hbA (fun k e => (ho.lt k e).2)
  obtain ⟨W5, hrun, hP5, hkp⟩ := hP.pput hs.2 (z := ⟨val, 0⟩) (gz := W.heap.size) (s := sl) (by rw [hsl]; exact own_mono ho2 (Nat.zero_le _)) hz hnew (by unfold maxLen; omega) (h.ok.putp hs ⟨Nat.two_pow_pos _, hval⟩)
  refine ⟨W5, hrun, _, bt, bp, A, n, c, ts, _, W.heap.size, sl, hP5, putK_has _ _ _, ⟨?_, fun k hk => ?_⟩, ?_⟩
  · exact (Kp.of_below hbW).trans' (hkp.mono (G := F) fun k e => by subst e; exact h.fp) (fun i hi => .inl hi)
  · rcases hk with hk | rfl | hk
    · exact .inl hk
    · exact .inr hsz
    · rw [hsl] at hk
      exact .inr (ho.lt k hk).1
  · exact (hB.below hbW hB.lt).kp hkp (hP.pmap.off_bk (hB.below hbW hB.lt))
set_option maxRecDepth 100000 in
set_option maxHeartbeats 8000000 in
theorem ppropose_any (h : PPm w F g bt bp A n c p ts ps) (s : Nat) (hs : s < 18446744073709551616) (oA : Option Addr) (on oc : Nat) (own : List UInt8) (hon : on ≤ 140737488355328) (hrd : Rd w w.heap.size oA on own) (hpl : p.props.length + 1 < 140737488355328) :
    Calls Try.prog 57 #[.pointer (some ⟨g, 0, none⟩), .int .u64 (s : Int), .slice oA on oc] w (ProposeR w F g (p.propose s own)) := by
  obtain ⟨w1, hw1⟩ : ∃ w1, w1 = w.alloc (.cells #[.int .u64 0, .int .u64 0, .int .i64 0, .slice none 0 0] 46) := ⟨_, rfl⟩
  have hb1 : Below w.heap.size w w1 := by rw [hw1]; exact bel1P _
  have hk1 : Bk w1 w.heap.size 46 #[.int .u64 0, .int .u64 0, .int .i64 0, .slice none 0 0] := by rw [hw1]; exact Bk.new w _ _
  have hs1 : w1.heap.size = w.heap.size + 1 := by rw [hw1]; simp
  have HRd := Lib.hid (pready_any (h.below hb1))
  have HZ : Hid (∀ W, Below w1.heap.size w1 W → Bk W w.heap.size 46 #[.int .u64 0, .int .u64 0, .int .i64 0, .slice none 0 0] ∧ W.cell? ⟨g, 7, none⟩ = some (.int .u64 (p.base : Int)) ∧ W.cell? ⟨g, 11, none⟩ = some (.map (some bp))) := Lib.hid fun W hb => ⟨hk1.below hb hk1.lt, (h.below (below_then hb1 hb)).bk.cell 7, (h.below (below_then hb1 hb)).bk.cell 11⟩
  have HW1 := Lib.hid hw1
  have HB1 := Lib.hid hb1
  have HS1 := Lib.hid hs1
  have HP := Lib.hid h
  clear hw1 hk1 hs1
  cases hrdy : p.ready with
  | false =>
    have HD := Lib.hid (fun W hb => ProposeR_none h (w' := W) hb (r := p.propose s own) (E := 100) (by unfold Pp.propose; rw [if_pos hrdy]))
    rw [hrdy] at HRd
    clear h hb1 hrdy hrd
    go_enter Try.func57, Try.ntmps57
    go_wp2_with fail
    rw [← HW1.out]
    refine HRd.out.mono ?_
    rintro e w2 ⟨rfl, hb2⟩
    obtain ⟨hz, c7, c11⟩ := HZ.out w2 hb2
    have f0 := hz.frozen 0
    have f1 := hz.frozen 1
    have f2 := hz.frozen 2
    have f3 := hz.frozen 3
    have z0 : w2.cell? ⟨w.heap.size, 0, none⟩ = some (.int .u64 0) := hz.cell 0
    have z1 : w2.cell? ⟨w.heap.size, 1, none⟩ = some (.int .u64 0) := hz.cell 1
    have z2 : w2.cell? ⟨w.heap.size, 2, none⟩ = some (.int .i64 0) := hz.cell 2
    have z3 : w2.cell? ⟨w.heap.size, 3, none⟩ = some (.slice none 0 0) := hz.cell 3
    have HK2 : Hid (Kp (fun j => j = w.heap.size) w w2) := Lib.hid (Kp.of_below (below_then HB1.out hb2))
    have HZ2 := Lib.hid hz
    clear hz hb2
    go_wp2
    have hkp := st4P w2 w.heap.size (.int .u64 0) (.int .u64 0) (.int .i64 0) (.slice none 0 0)
    have hk4 := HZ2.out.s4P (.int .u64 0) (.int .u64 0) (.int .i64 0) (.slice none 0 0)
    generalize (((w2.setCell ⟨w.heap.size, 0, none⟩ (.int .u64 0)).setCell ⟨w.heap.size, 1, none⟩ (.int .u64 0)).setCell ⟨w.heap.size, 2, none⟩ (.int .i64 0)).setCell ⟨w.heap.size, 3, none⟩ (.slice none 0 0) = w9 at *
    have j0 : w9.cell? ⟨w.heap.size, 0, none⟩ = some (.int .u64 0) := hk4.cell 0
    have j1 : w9.cell? ⟨w.heap.size, 1, none⟩ = some (.int .u64 0) := hk4.cell 1
    have j2 : w9.cell? ⟨w.heap.size, 2, none⟩ = some (.int .i64 0) := hk4.cell 2
    have j3 : w9.cell? ⟨w.heap.size, 3, none⟩ = some (.slice none 0 0) := hk4.cell 3
    refine bodyPost_ret (by simp [results, Try.results57, go_sem, j0, j1, j2, j3]; try rfl) rfl ?_
    exact HD.out _ (HK2.out.trans hkp)
  | true =>
    rw [hrdy] at HRd
    by_cases hlo : s < p.base
    · have HD := Lib.hid (fun W hb => ProposeR_none h (w' := W) hb (r := p.propose s own) (E := 2) (by unfold Pp.propose; rw [if_neg (by rw [hrdy]; simp), if_pos hlo]))
      have n1 : (s : Int) < (p.base : Int) := by omega
      clear h hb1 hrdy hrd
      go_enter Try.func57, Try.ntmps57
      go_wp2_with fail
      rw [← HW1.out]
      refine HRd.out.mono ?_
      rintro e w2 ⟨rfl, hb2⟩
      obtain ⟨hz, c7, c11⟩ := HZ.out w2 hb2
      have f0 := hz.frozen 0
      have f1 := hz.frozen 1
      have f2 := hz.frozen 2
      have f3 := hz.frozen 3
      have z0 : w2.cell? ⟨w.heap.size, 0, none⟩ = some (.int .u64 0) := hz.cell 0
      have z1 : w2.cell? ⟨w.heap.size, 1, none⟩ = some (.int .u64 0) := hz.cell 1
      have z2 : w2.cell? ⟨w.heap.size, 2, none⟩ = some (.int .i64 0) := hz.cell 2
      have z3 : w2.cell? ⟨w.heap.size, 3, none⟩ = some (.slice none 0 0) := hz.cell 3
      have HK2 : Hid (Kp (fun j => j = w.heap.size) w w2) := Lib.hid (Kp.of_below (below_then HB1.out hb2))
      have HZ2 := Lib.hid hz
      clear hz hb2
      go_wp2
      have hkp := st4P w2 w.heap.size (.int .u64 0) (.int .u64 0) (.int .i64 0) (.slice none 0 0)
      have hk4 := HZ2.out.s4P (.int .u64 0) (.int .u64 0) (.int .i64 0) (.slice none 0 0)
      generalize (((w2.setCell ⟨w.heap.size, 0, none⟩ (.int .u64 0)).setCell ⟨w.heap.size, 1, none⟩ (.int .u64 0)).setCell ⟨w.heap.size, 2, none⟩ (.int .i64 0)).setCell ⟨w.heap.size, 3, none⟩ (.slice none 0 0) = w9 at *
      have j0 : w9.cell? ⟨w.heap.size, 0, none⟩ = some (.int .u64 0) := hk4.cell 0
      have j1 : w9.cell? ⟨w.heap.size, 1, none⟩ = some (.int .u64 0) := hk4.cell 1
      have j2 : w9.cell? ⟨w.heap.size, 2, none⟩ = some (.int .i64 0) := hk4.cell 2
      have j3 : w9.cell? ⟨w.heap.size, 3, none⟩ = some (.slice none 0 0) := hk4.cell 3
      refine bodyPost_ret (by simp [results, Try.results57, go_sem, j0, j1, j2, j3]; try rfl) rfl ?_
      exact HD.out _ (HK2.out.trans hkp)
    · have n1 : ¬ (s : Int) < (p.base : Int) := by omega
      rcases h.pget s with ⟨e1, e2⟩ | ⟨⟨⟨zval, zacc⟩, gz0, sl0⟩, hm, e1, e2⟩
      · cases hmu : p.must s with
        | some zval =>
          have hvl : zval.length ≤ 100 := p.must_len h.ok hmu
          have HL0 : Hid (∀ W, Below w1.heap.size w1 W → (Instr.lookup 105 (.map (some bp)) (.int .u64 (s : Int)) false).run Try.prog W = .ok (.pointer none) W) := Lib.hid fun W hb => by
            have hq := (h.below (below_then hb1 hb)).plook s hs
            rw [e1] at hq
            exact hq
          have HMu : Hid (∀ W, Below w1.heap.size w1 W → Calls Try.prog 67 #[.pointer (some ⟨g, 0, none⟩), .int .u64 (s : Int)] W (GiveR (p.must s) W)) := Lib.hid fun W hb => pmust_any ((h.below hb1).below hb) s hs
          rw [hmu] at HMu
          obtain ⟨p', hp'⟩ : ∃ p', p' = { p with props := putK s ⟨zval, 0⟩ p.props } := ⟨_, rfl⟩
          have HBal : Hid (p.bal = p'.bal) := Lib.hid (by rw [hp'])
          have hzB : Bk w1 w.heap.size 46 vt0 := (HZ.out w1 (Below.refl _ _)).1
          have HPut : Hid (∀ W A3 c3, Below w1.heap.size w1 W → W.ownsRow w1.heap.size 5 1 (.slice A3 zval.length c3) zval.length (u8s zval) → ∃ W5, (Instr.mapUpdate 105 (.map (some bp)) (.int .u64 (s : Int)) (.pointer (some ⟨W.heap.size, 0, none⟩))).run Try.prog (W.alloc (.cells #[.slice A3 zval.length c3, .int .u32 0] 122)) = .ok () W5 ∧ Hid (PropMid w1 W5 w.heap.size F g p' s ⟨zval, 0⟩)) := Lib.hid fun W A3 c3 hb ho => by
            obtain ⟨W5, hrun, hm⟩ := prop_put (h.below hb1) hzB hb ho hvl (s := s) ⟨by omega, hs⟩ hpl
            exact ⟨W5, hrun, Lib.hid (by rw [hp']; exact hm)⟩
          have HR : Hid (p.propose s own = (0, ⟨s, p.bal, zval⟩, p')) := Lib.hid (by unfold Pp.propose; rw [if_neg (by rw [hrdy]; simp), if_neg hlo, e2, hmu, hp'])
          clear h hb1 hrdy hrd hp' e1 e2 hmu hzB hvl
          go_enter Try.func57, Try.ntmps57
          go_wp2_with fail
          rw [← HW1.out]
          refine HRd.out.mono ?_
          rintro e w2 ⟨rfl, hb2⟩
          obtain ⟨hz, c7, c11⟩ := HZ.out w2 hb2
          have HL3 := Lib.hid (fun W hb => (HZ.out W hb).2.2)
          have hl0 := HL0.out w2 hb2
          have HB2 := Lib.hid hb2
          clear HL0 hz hb2
          go_wp2_with fail
          refine (HMu.out w2 HB2.out).mono ?_
          rintro e w3 ⟨v3, rfl, ho3, hb3⟩
          dsimp only [Option.getD_some, Option.isSome_some] at ho3 ⊢
          obtain ⟨A3, c3, rfl, _⟩ := own_shape ho3
          have hb13 := below_then HB2.out hb3
          have x11 := HL3.out w3 hb13
          obtain ⟨W5, hrun, HMid⟩ := HPut.out w3 A3 c3 hb13 (own_mono ho3 HB2.out.size)
          have hgl : g < w3.heap.size := by have := HP.out.lt _ HP.out.fg; have := HB1.out.size; have := hb13.size; omega
          clear ho3 hb3 hb13 HPut HMu HL3
          go_upto_region 14 with (fail)
          obtain ⟨W3, hW3⟩ : ∃ W3, W3 = W5 := ⟨_, rfl⟩
          subst hW3
          clear hrun x11 hgl
          obtain ⟨F2, bt2, bp2, A2, n2, c2, ts2, ps2, gz, sl2, hP2, hm2, hmv2, hz2⟩ := HMid.out
          obtain ⟨xA, xn, xc, hsv⟩ := slV_slP sl2
          have ho := hP2.pval _ hm2
          have hl2 := (hP2.acc hm2).2.1
          dsimp only at ho hl2
          rw [hsv] at ho
          obtain rfl : zval.length = xn := by
            obtain ⟨_, _, e, _⟩ := own_shape ho
            injection e with _ e _
            exact e.symm
          have hrd2 := Rd.of_own ho
          have HC2 := Lib.hid (fun W (hb : Below W3.heap.size W3 W) => cloneB_any xA zval.length xc W3.heap.size zval W (by omega) hb.size (hrd2.below hb))
          have HX2 : Hid (∀ W, Below W3.heap.size W3 W → W.cell? ⟨g, 5, none⟩ = some (.int .u64 (p'.bal.n : Int)) ∧ W.cell? ⟨g, 6, none⟩ = some (.int .i64 p'.bal.node) ∧ W.cell? ⟨g, 11, none⟩ = some (.map (some bp2)) ∧ (Instr.lookup 105 (.map (some bp2)) (.int .u64 (s : Int)) false).run Try.prog W = .ok (.pointer (some ⟨gz, 0, none⟩)) W ∧ W.cell? ⟨gz, 0, none⟩ = some (.slice xA zval.length xc) ∧ Bk W w.heap.size 46 vt0) := Lib.hid fun W hb => by
            have hPW := hP2.below hb
            have hsrt : SrtK ps2 := by
              have hq := hPW.ok.psrt
              rw [← hPW.peq] at hq
              exact hq.on
            have hg := getK_of_mem hsrt hm2
            refine ⟨hPW.bk.cell 5, hPW.bk.cell 6, hPW.bk.cell 11, ?_, ?_, hz2.below hb hz2.lt⟩
            · have hq := hPW.plook s hs
              rw [getK_on, hg] at hq
              exact hq
            · have hq := (hPW.peach _ hm2).cell 0
              rw [← hsv]
              exact hq
          have HD2 : Hid (∀ W v, Below W3.heap.size W3 W → W.ownsRow W3.heap.size 5 1 v zval.length (u8s zval) → ∀ W6, Kp (fun j => j = w.heap.size) W W6 → ProposeR w F g (p.propose s own) (.returned (.tuple #[.agg #[.int .u64 (s : Int), .int .u64 (p'.bal.n : Int), .int .i64 p'.bal.node, v], .int .i64 0])) W6) := Lib.hid fun W v hb ho6 W6 hk6 => by
            have hsz1 := HS1.out
            have hsz2 := hmv2.kp.size
            have hsz3 := hb.size
            have hnf : ¬ F2 w.heap.size := fun hf => by
              rcases hmv2.new _ hf with hf | hf
              · have := HP.out.lt _ hf
                omega
              · omega
            rw [HR.out]
            refine ⟨F2, v, ?_, ?_, (((hP2.below hb).kp hk6 (fun k hk e => hnf (by rw [← e]; exact hk)))).pm, ⟨?_, fun k hk => ?_⟩, fun k hk hf => ?_⟩
            · rw [HBal.out]
              rfl
            · exact own_mono (own_kp ho6 hk6 fun k e1 e2 => by have := (ho6.lt k e1).1; omega) (by omega)
            · have k1 : Kp F w W3 := (Kp.of_below HB1.out).trans hmv2.kp
              have k2 : Kp F w W := k1.trans (Kp.of_below hb)
              exact k2.trans' hk6 (fun i e => .inr (by omega))
            · rcases hmv2.new k hk with hf | hf
              · exact .inl hf
              · exact .inr (by omega)
            · have h1 := (ho6.lt k hk).1
              have h2 := hP2.lt k hf
              omega
          have hlt1 : w.heap.size < W3.heap.size := by have := HS1.out; have := hmv2.kp.size; omega
          have hng : ¬ g = w.heap.size := by have := HP.out.lt _ HP.out.fg; omega
          have Hng := Lib.hid hng
          have Hlt := Lib.hid hlt1
          clear hP2 hm2 hmv2 hz2 ho hrd2 hsv HMid hl2 hng hlt1 HR HBal
          generalize p'.bal.n = pbn at *
          generalize p'.bal.node = pbd at *
          obtain ⟨x5, x6, x11, hl1, xz, _⟩ := HX2.out W3 (Below.refl _ _)
          obtain ⟨_, _, _, hl2, _, _⟩ := HX2.out W3.drew (Below.refl _ _).drew
          go_region_law (go_simp; go_at_call 31; (refine (HC2.out _ (by (repeat' (first | assumption | exact Below.refl _ _ | apply Below.drew | exact bel_drewN (Below.refl _ _) _)))).mono ?_); rintro x W5 ⟨v5, rfl, ho5, hb5⟩; (have hd5 : Below W3.heap.size W3 W5 := below_then (by (repeat' (first | assumption | exact Below.refl _ _ | apply Below.drew | exact bel_drewN (Below.refl _ _) _))) hb5); (obtain ⟨y5, y6, y11, hl5, yz, hzz⟩ := HX2.out W5 hd5); (obtain ⟨A5, c5, rfl, _⟩ := own_shape ho5); (have a0 : W5.cell? ⟨w.heap.size, 0, none⟩ = some (.int .u64 0) := hzz.cell 0); (have a1 : W5.cell? ⟨w.heap.size, 1, none⟩ = some (.int .u64 0) := hzz.cell 1); (have a2 : W5.cell? ⟨w.heap.size, 2, none⟩ = some (.int .i64 0) := hzz.cell 2); (have a3 : W5.cell? ⟨w.heap.size, 3, none⟩ = some (.slice none 0 0) := hzz.cell 3); (have b0 := hzz.frozen 0); (have b1 := hzz.frozen 1); (have b2 := hzz.frozen 2); (have b3 := hzz.frozen 3))
          all_goals
            have HD5 := Lib.hid (HD2.out W5 _ hd5 (own_mono ho5 (by first | exact Nat.le_refl _ | (simp only [World.drew]; exact Nat.le_refl _))))
            have HZ5 := Lib.hid hzz
            clear hb5 hd5 ho5 hzz HC2 HX2 HD2 y5 y6 y11 hl5 yz x5 x6 x11 hl1 hl2 xz a0 a1 a2 a3 b0 b1 b2 b3
            go_wp2
            have hkp := st4P W5 w.heap.size (.int .u64 (s : Int)) (.int .u64 (pbn : Int)) (.int .i64 pbd) (.slice A5 zval.length c5)
            have hk4 := HZ5.out.s4P (.int .u64 (s : Int)) (.int .u64 (pbn : Int)) (.int .i64 pbd) (.slice A5 zval.length c5)
            generalize (((W5.setCell ⟨w.heap.size, 0, none⟩ (.int .u64 (s : Int))).setCell ⟨w.heap.size, 1, none⟩ (.int .u64 (pbn : Int))).setCell ⟨w.heap.size, 2, none⟩ (.int .i64 pbd)).setCell ⟨w.heap.size, 3, none⟩ (.slice A5 zval.length c5) = w9 at *
            have j0 : w9.cell? ⟨w.heap.size, 0, none⟩ = some (.int .u64 (s : Int)) := hk4.cell 0
            have j1 : w9.cell? ⟨w.heap.size, 1, none⟩ = some (.int .u64 (pbn : Int)) := hk4.cell 1
            have j2 : w9.cell? ⟨w.heap.size, 2, none⟩ = some (.int .i64 pbd) := hk4.cell 2
            have j3 : w9.cell? ⟨w.heap.size, 3, none⟩ = some (.slice A5 zval.length c5) := hk4.cell 3
            refine bodyPost_ret (by simp [results, Try.results57, go_sem, j0, j1, j2, j3]; try rfl) rfl ?_
            first | exact HD5.out _ hkp | exact HD5.out _ (hkp.trans (Kp.drew _ _))
        | none =>
          have HL0 : Hid (∀ W, Below w1.heap.size w1 W → (Instr.lookup 105 (.map (some bp)) (.int .u64 (s : Int)) false).run Try.prog W = .ok (.pointer none) W) := Lib.hid fun W hb => by
            have hq := (h.below (below_then hb1 hb)).plook s hs
            rw [e1] at hq
            exact hq
          have HMu : Hid (∀ W, Below w1.heap.size w1 W → Calls Try.prog 67 #[.pointer (some ⟨g, 0, none⟩), .int .u64 (s : Int)] W (GiveR (p.must s) W)) := Lib.hid fun W hb => pmust_any ((h.below hb1).below hb) s hs
          rw [hmu] at HMu
          by_cases hln : 100 < own.length
          · have HD := Lib.hid (fun W hb => ProposeR_none h (w' := W) hb (r := p.propose s own) (E := 3) (by unfold Pp.propose; rw [if_neg (by rw [hrdy]; simp), if_neg hlo, e2, hmu]; simp only; rw [if_pos hln]))
            have n2 : (on : Int) > 100 := by have := hrd.1; omega
            have n3 : 100 < on := by have := hrd.1; omega
            clear h hb1 hrdy hrd e1 e2 hmu hln
            go_enter Try.func57, Try.ntmps57
            go_wp2_with fail
            rw [← HW1.out]
            refine HRd.out.mono ?_
            rintro e w2 ⟨rfl, hb2⟩
            obtain ⟨hz, c7, c11⟩ := HZ.out w2 hb2
            have HL3 := Lib.hid (fun W hb => (HZ.out W hb).2.2)
            have hl0 := HL0.out w2 hb2
            have HB2 := Lib.hid hb2
            clear HL0 hz hb2
            go_wp2_with fail
            refine (HMu.out w2 HB2.out).mono ?_
            rintro e w3 ⟨v3, rfl, ho3, hb3⟩
            dsimp only [Option.isSome_none]
            obtain ⟨hz, _, _⟩ := HZ.out w3 (below_then HB2.out hb3)
            have f0 := hz.frozen 0
            have f1 := hz.frozen 1
            have f2 := hz.frozen 2
            have f3 := hz.frozen 3
            have z0 : w3.cell? ⟨w.heap.size, 0, none⟩ = some (.int .u64 0) := hz.cell 0
            have z1 : w3.cell? ⟨w.heap.size, 1, none⟩ = some (.int .u64 0) := hz.cell 1
            have z2 : w3.cell? ⟨w.heap.size, 2, none⟩ = some (.int .i64 0) := hz.cell 2
            have z3 : w3.cell? ⟨w.heap.size, 3, none⟩ = some (.slice none 0 0) := hz.cell 3
            have HK2 : Hid (Kp (fun j => j = w.heap.size) w w3) := Lib.hid (Kp.of_below (below_then HB1.out (below_then HB2.out hb3)))
            have HZ2 := Lib.hid hz
            clear hz hb3 ho3
            go_wp2
            have hkp := st4P w3 w.heap.size (.int .u64 0) (.int .u64 0) (.int .i64 0) (.slice none 0 0)
            have hk4 := HZ2.out.s4P (.int .u64 0) (.int .u64 0) (.int .i64 0) (.slice none 0 0)
            generalize (((w3.setCell ⟨w.heap.size, 0, none⟩ (.int .u64 0)).setCell ⟨w.heap.size, 1, none⟩ (.int .u64 0)).setCell ⟨w.heap.size, 2, none⟩ (.int .i64 0)).setCell ⟨w.heap.size, 3, none⟩ (.slice none 0 0) = w9 at *
            have j0 : w9.cell? ⟨w.heap.size, 0, none⟩ = some (.int .u64 0) := hk4.cell 0
            have j1 : w9.cell? ⟨w.heap.size, 1, none⟩ = some (.int .u64 0) := hk4.cell 1
            have j2 : w9.cell? ⟨w.heap.size, 2, none⟩ = some (.int .i64 0) := hk4.cell 2
            have j3 : w9.cell? ⟨w.heap.size, 3, none⟩ = some (.slice none 0 0) := hk4.cell 3
            refine bodyPost_ret (by simp [results, Try.results57, go_sem, j0, j1, j2, j3]; try rfl) rfl ?_
            exact HD.out _ (HK2.out.trans hkp)
          · have hvl : own.length ≤ 100 := by omega
            obtain rfl : own.length = on := hrd.1
            have n2 : ¬ ((own.length : Int) > 100) := by omega
            have n3 : ¬ 100 < own.length := hln
            obtain ⟨p', hp'⟩ : ∃ p', p' = { p with props := putK s ⟨own, 0⟩ p.props } := ⟨_, rfl⟩
            have HBal : Hid (p.bal = p'.bal) := Lib.hid (by rw [hp'])
            have hzB : Bk w1 w.heap.size 46 vt0 := (HZ.out w1 (Below.refl _ _)).1
            have HPut : Hid (∀ W A3 c3, Below w1.heap.size w1 W → W.ownsRow w1.heap.size 5 1 (.slice A3 own.length c3) own.length (u8s own) → ∃ W5, (Instr.mapUpdate 105 (.map (some bp)) (.int .u64 (s : Int)) (.pointer (some ⟨W.heap.size, 0, none⟩))).run Try.prog (W.alloc (.cells #[.slice A3 own.length c3, .int .u32 0] 122)) = .ok () W5 ∧ Hid (PropMid w1 W5 w.heap.size F g p' s ⟨own, 0⟩)) := Lib.hid fun W A3 c3 hb ho => by
              obtain ⟨W5, hrun, hm⟩ := prop_put (h.below hb1) hzB hb ho hvl (s := s) ⟨by omega, hs⟩ hpl
              exact ⟨W5, hrun, Lib.hid (by rw [hp']; exact hm)⟩
            have HR : Hid (p.propose s own = (0, ⟨s, p.bal, own⟩, p')) := Lib.hid (by unfold Pp.propose; rw [if_neg (by rw [hrdy]; simp), if_neg hlo, e2, hmu]; simp only; rw [if_neg hln, hp'])
            have HCo := Lib.hid (fun W (hb : Below w.heap.size w W) => cloneB_any oA own.length oc w.heap.size own W hon hb.size (hrd.below hb))
            clear h hb1 hrdy hrd hp' e1 e2 hmu hzB hvl hln
            go_enter Try.func57, Try.ntmps57
            go_wp2_with fail
            rw [← HW1.out]
            refine HRd.out.mono ?_
            rintro e w2 ⟨rfl, hb2⟩
            obtain ⟨hz, c7, c11⟩ := HZ.out w2 hb2
            have HL3 := Lib.hid (fun W hb => (HZ.out W hb).2.2)
            have hl0 := HL0.out w2 hb2
            have HB2 := Lib.hid hb2
            clear HL0 hz hb2
            go_wp2_with fail
            refine (HMu.out w2 HB2.out).mono ?_
            rintro e w3 ⟨v3, rfl, ho3, hb3⟩
            dsimp only [Option.isSome_none]
            have hb13 := below_then HB2.out hb3
            have HB13 := Lib.hid hb13
            clear ho3 hb3 hb13 HMu
            go_wp2_with fail
            refine (HCo.out w3 (below_then HB1.out HB13.out)).mono ?_
            rintro e w4 ⟨v4, rfl, ho4, hb4⟩
            obtain ⟨A4, c4, rfl, _⟩ := own_shape ho4
            have hb14 := below_then HB13.out hb4
            have x11 := HL3.out w4 hb14
            obtain ⟨W5, hrun, HMid⟩ := HPut.out w4 A4 c4 hb14 (own_mono ho4 HB13.out.size)
            have hgl : g < w4.heap.size := by have := HP.out.lt _ HP.out.fg; have := HB1.out.size; have := hb14.size; omega
            clear ho4 hb4 hb14 HPut HL3
            go_upto_region 14 with (fail)
            obtain ⟨W3, hW3⟩ : ∃ W3, W3 = W5 := ⟨_, rfl⟩
            subst hW3
            clear hrun x11 hgl n2 n3
            obtain ⟨F2, bt2, bp2, A2, n2, c2, ts2, ps2, gz, sl2, hP2, hm2, hmv2, hz2⟩ := HMid.out
            obtain ⟨xA, xn, xc, hsv⟩ := slV_slP sl2
            have ho := hP2.pval _ hm2
            have hl2 := (hP2.acc hm2).2.1
            dsimp only at ho hl2
            rw [hsv] at ho
            obtain rfl : own.length = xn := by
              obtain ⟨_, _, e, _⟩ := own_shape ho
              injection e with _ e _
              exact e.symm
            have hrd2 := Rd.of_own ho
            have HC2 := Lib.hid (fun W (hb : Below W3.heap.size W3 W) => cloneB_any xA own.length xc W3.heap.size own W (by omega) hb.size (hrd2.below hb))
            have HX2 : Hid (∀ W, Below W3.heap.size W3 W → W.cell? ⟨g, 5, none⟩ = some (.int .u64 (p'.bal.n : Int)) ∧ W.cell? ⟨g, 6, none⟩ = some (.int .i64 p'.bal.node) ∧ W.cell? ⟨g, 11, none⟩ = some (.map (some bp2)) ∧ (Instr.lookup 105 (.map (some bp2)) (.int .u64 (s : Int)) false).run Try.prog W = .ok (.pointer (some ⟨gz, 0, none⟩)) W ∧ W.cell? ⟨gz, 0, none⟩ = some (.slice xA own.length xc) ∧ Bk W w.heap.size 46 vt0) := Lib.hid fun W hb => by
              have hPW := hP2.below hb
              have hsrt : SrtK ps2 := by
                have hq := hPW.ok.psrt
                rw [← hPW.peq] at hq
                exact hq.on
              have hg := getK_of_mem hsrt hm2
              refine ⟨hPW.bk.cell 5, hPW.bk.cell 6, hPW.bk.cell 11, ?_, ?_, hz2.below hb hz2.lt⟩
              · have hq := hPW.plook s hs
                rw [getK_on, hg] at hq
                exact hq
              · have hq := (hPW.peach _ hm2).cell 0
                rw [← hsv]
                exact hq
            have HD2 : Hid (∀ W v, Below W3.heap.size W3 W → W.ownsRow W3.heap.size 5 1 v own.length (u8s own) → ∀ W6, Kp (fun j => j = w.heap.size) W W6 → ProposeR w F g (p.propose s own) (.returned (.tuple #[.agg #[.int .u64 (s : Int), .int .u64 (p'.bal.n : Int), .int .i64 p'.bal.node, v], .int .i64 0])) W6) := Lib.hid fun W v hb ho6 W6 hk6 => by
              have hsz1 := HS1.out
              have hsz2 := hmv2.kp.size
              have hsz3 := hb.size
              have hnf : ¬ F2 w.heap.size := fun hf => by
                rcases hmv2.new _ hf with hf | hf
                · have := HP.out.lt _ hf
                  omega
                · omega
              rw [HR.out]
              refine ⟨F2, v, ?_, ?_, (((hP2.below hb).kp hk6 (fun k hk e => hnf (by rw [← e]; exact hk)))).pm, ⟨?_, fun k hk => ?_⟩, fun k hk hf => ?_⟩
              · rw [HBal.out]
                rfl
              · exact own_mono (own_kp ho6 hk6 fun k e1 e2 => by have := (ho6.lt k e1).1; omega) (by omega)
              · have k1 : Kp F w W3 := (Kp.of_below HB1.out).trans hmv2.kp
                have k2 : Kp F w W := k1.trans (Kp.of_below hb)
                exact k2.trans' hk6 (fun i e => .inr (by omega))
              · rcases hmv2.new k hk with hf | hf
                · exact .inl hf
                · exact .inr (by omega)
              · have h1 := (ho6.lt k hk).1
                have h2 := hP2.lt k hf
                omega
            have hlt1 : w.heap.size < W3.heap.size := by have := HS1.out; have := hmv2.kp.size; omega
            have hng : ¬ g = w.heap.size := by have := HP.out.lt _ HP.out.fg; omega
            have Hng := Lib.hid hng
            have Hlt := Lib.hid hlt1
            clear hP2 hm2 hmv2 hz2 ho hrd2 hsv HMid hl2 hng hlt1 HR HBal
            generalize p'.bal.n = pbn at *
            generalize p'.bal.node = pbd at *
            obtain ⟨x5, x6, x11, hl1, xz, _⟩ := HX2.out W3 (Below.refl _ _)
            obtain ⟨_, _, _, hl2, _, _⟩ := HX2.out W3.drew (Below.refl _ _).drew
            go_region_law (go_simp; go_at_call 31; (refine (HC2.out _ (by (repeat' (first | assumption | exact Below.refl _ _ | apply Below.drew | exact bel_drewN (Below.refl _ _) _)))).mono ?_); rintro x W5 ⟨v5, rfl, ho5, hb5⟩; (have hd5 : Below W3.heap.size W3 W5 := below_then (by (repeat' (first | assumption | exact Below.refl _ _ | apply Below.drew | exact bel_drewN (Below.refl _ _) _))) hb5); (obtain ⟨y5, y6, y11, hl5, yz, hzz⟩ := HX2.out W5 hd5); (obtain ⟨A5, c5, rfl, _⟩ := own_shape ho5); (have a0 : W5.cell? ⟨w.heap.size, 0, none⟩ = some (.int .u64 0) := hzz.cell 0); (have a1 : W5.cell? ⟨w.heap.size, 1, none⟩ = some (.int .u64 0) := hzz.cell 1); (have a2 : W5.cell? ⟨w.heap.size, 2, none⟩ = some (.int .i64 0) := hzz.cell 2); (have a3 : W5.cell? ⟨w.heap.size, 3, none⟩ = some (.slice none 0 0) := hzz.cell 3); (have b0 := hzz.frozen 0); (have b1 := hzz.frozen 1); (have b2 := hzz.frozen 2); (have b3 := hzz.frozen 3))
            all_goals
              have HD5 := Lib.hid (HD2.out W5 _ hd5 (own_mono ho5 (by first | exact Nat.le_refl _ | (simp only [World.drew]; exact Nat.le_refl _))))
              have HZ5 := Lib.hid hzz
              clear hb5 hd5 ho5 hzz HC2 HX2 HD2 y5 y6 y11 hl5 yz x5 x6 x11 hl1 hl2 xz a0 a1 a2 a3 b0 b1 b2 b3
              go_wp2
              have hkp := st4P W5 w.heap.size (.int .u64 (s : Int)) (.int .u64 (pbn : Int)) (.int .i64 pbd) (.slice A5 own.length c5)
              have hk4 := HZ5.out.s4P (.int .u64 (s : Int)) (.int .u64 (pbn : Int)) (.int .i64 pbd) (.slice A5 own.length c5)
              generalize (((W5.setCell ⟨w.heap.size, 0, none⟩ (.int .u64 (s : Int))).setCell ⟨w.heap.size, 1, none⟩ (.int .u64 (pbn : Int))).setCell ⟨w.heap.size, 2, none⟩ (.int .i64 pbd)).setCell ⟨w.heap.size, 3, none⟩ (.slice A5 own.length c5) = w9 at *
              have j0 : w9.cell? ⟨w.heap.size, 0, none⟩ = some (.int .u64 (s : Int)) := hk4.cell 0
              have j1 : w9.cell? ⟨w.heap.size, 1, none⟩ = some (.int .u64 (pbn : Int)) := hk4.cell 1
              have j2 : w9.cell? ⟨w.heap.size, 2, none⟩ = some (.int .i64 pbd) := hk4.cell 2
              have j3 : w9.cell? ⟨w.heap.size, 3, none⟩ = some (.slice A5 own.length c5) := hk4.cell 3
              refine bodyPost_ret (by simp [results, Try.results57, go_sem, j0, j1, j2, j3]; try rfl) rfl ?_
              first | exact HD5.out _ hkp | exact HD5.out _ (hkp.trans (Kp.drew _ _))
      · obtain ⟨p', hp'⟩ : ∃ p', p' = p := ⟨_, rfl⟩
        have HR : Hid (p.propose s own = (0, ⟨s, p.bal, zval⟩, p')) := Lib.hid (by unfold Pp.propose; rw [if_neg (by rw [hrdy]; simp), if_neg hlo, e2, hp'])
        have HBal : Hid (p.bal = p'.bal) := Lib.hid (by rw [hp'])
        have HMid0 : Hid (∀ W, Below w1.heap.size w1 W → PropMid w1 W w.heap.size F g p' s ⟨zval, zacc⟩) := Lib.hid fun W hb => by
          rw [hp']
          exact ⟨F, bt, bp, A, n, c, ts, ps, gz0, sl0, (h.below hb1).below hb, hm, Mv.of (Kp.of_below hb), (HZ.out W hb).1⟩
        have HL0 : Hid (∀ W, Below w1.heap.size w1 W → (Instr.lookup 105 (.map (some bp)) (.int .u64 (s : Int)) false).run Try.prog W = .ok (.pointer (some ⟨gz0, 0, none⟩)) W) := Lib.hid fun W hb => by
          have hq := (h.below (below_then hb1 hb)).plook s hs
          rw [e1] at hq
          exact hq
        clear h hb1 hrdy hrd hp' e1 e2 hm
        go_enter Try.func57, Try.ntmps57
        go_wp2_with fail
        rw [← HW1.out]
        refine HRd.out.mono ?_
        rintro e w2 ⟨rfl, hb2⟩
        obtain ⟨hz, c7, c11⟩ := HZ.out w2 hb2
        have HMid := Lib.hid (HMid0.out w2 hb2)
        have hl0 := HL0.out w2 hb2
        clear HMid0 HL0 hz hb2
        obtain ⟨W3, hW3⟩ : ∃ W3, W3 = w2 := ⟨_, rfl⟩
        subst hW3
        go_upto_region 14 with (fail)
        obtain ⟨F2, bt2, bp2, A2, n2, c2, ts2, ps2, gz, sl2, hP2, hm2, hmv2, hz2⟩ := HMid.out
        obtain ⟨xA, xn, xc, hsv⟩ := slV_slP sl2
        have ho := hP2.pval _ hm2
        have hl2 := (hP2.acc hm2).2.1
        dsimp only at ho hl2
        rw [hsv] at ho
        obtain rfl : zval.length = xn := by
          obtain ⟨_, _, e, _⟩ := own_shape ho
          injection e with _ e _
          exact e.symm
        have hrd2 := Rd.of_own ho
        have HC2 := Lib.hid (fun W (hb : Below W3.heap.size W3 W) => cloneB_any xA zval.length xc W3.heap.size zval W (by omega) hb.size (hrd2.below hb))
        have HX2 : Hid (∀ W, Below W3.heap.size W3 W → W.cell? ⟨g, 5, none⟩ = some (.int .u64 (p'.bal.n : Int)) ∧ W.cell? ⟨g, 6, none⟩ = some (.int .i64 p'.bal.node) ∧ W.cell? ⟨g, 11, none⟩ = some (.map (some bp2)) ∧ (Instr.lookup 105 (.map (some bp2)) (.int .u64 (s : Int)) false).run Try.prog W = .ok (.pointer (some ⟨gz, 0, none⟩)) W ∧ W.cell? ⟨gz, 0, none⟩ = some (.slice xA zval.length xc) ∧ Bk W w.heap.size 46 vt0) := Lib.hid fun W hb => by
          have hPW := hP2.below hb
          have hsrt : SrtK ps2 := by
            have hq := hPW.ok.psrt
            rw [← hPW.peq] at hq
            exact hq.on
          have hg := getK_of_mem hsrt hm2
          refine ⟨hPW.bk.cell 5, hPW.bk.cell 6, hPW.bk.cell 11, ?_, ?_, hz2.below hb hz2.lt⟩
          · have hq := hPW.plook s hs
            rw [getK_on, hg] at hq
            exact hq
          · have hq := (hPW.peach _ hm2).cell 0
            rw [← hsv]
            exact hq
        have HD2 : Hid (∀ W v, Below W3.heap.size W3 W → W.ownsRow W3.heap.size 5 1 v zval.length (u8s zval) → ∀ W6, Kp (fun j => j = w.heap.size) W W6 → ProposeR w F g (p.propose s own) (.returned (.tuple #[.agg #[.int .u64 (s : Int), .int .u64 (p'.bal.n : Int), .int .i64 p'.bal.node, v], .int .i64 0])) W6) := Lib.hid fun W v hb ho6 W6 hk6 => by
          have hsz1 := HS1.out
          have hsz2 := hmv2.kp.size
          have hsz3 := hb.size
          have hnf : ¬ F2 w.heap.size := fun hf => by
            rcases hmv2.new _ hf with hf | hf
            · have := HP.out.lt _ hf
              omega
            · omega
          rw [HR.out]
          refine ⟨F2, v, ?_, ?_, (((hP2.below hb).kp hk6 (fun k hk e => hnf (by rw [← e]; exact hk)))).pm, ⟨?_, fun k hk => ?_⟩, fun k hk hf => ?_⟩
          · rw [HBal.out]
            rfl
          · exact own_mono (own_kp ho6 hk6 fun k e1 e2 => by have := (ho6.lt k e1).1; omega) (by omega)
          · have k1 : Kp F w W3 := (Kp.of_below HB1.out).trans hmv2.kp
            have k2 : Kp F w W := k1.trans (Kp.of_below hb)
            exact k2.trans' hk6 (fun i e => .inr (by omega))
          · rcases hmv2.new k hk with hf | hf
            · exact .inl hf
            · exact .inr (by omega)
          · have h1 := (ho6.lt k hk).1
            have h2 := hP2.lt k hf
            omega
        have hlt1 : w.heap.size < W3.heap.size := by have := HS1.out; have := hmv2.kp.size; omega
        have hng : ¬ g = w.heap.size := by have := HP.out.lt _ HP.out.fg; omega
        have Hng := Lib.hid hng
        have Hlt := Lib.hid hlt1
        clear hP2 hm2 hmv2 hz2 ho hrd2 hsv HMid hl2 hng hlt1 HR HBal
        generalize p'.bal.n = pbn at *
        generalize p'.bal.node = pbd at *
        obtain ⟨x5, x6, x11, hl1, xz, _⟩ := HX2.out W3 (Below.refl _ _)
        obtain ⟨_, _, _, hl2, _, _⟩ := HX2.out W3.drew (Below.refl _ _).drew
        go_region_law (go_simp; go_at_call 31; (refine (HC2.out _ (by (repeat' (first | assumption | exact Below.refl _ _ | apply Below.drew | exact bel_drewN (Below.refl _ _) _)))).mono ?_); rintro x W5 ⟨v5, rfl, ho5, hb5⟩; (have hd5 : Below W3.heap.size W3 W5 := below_then (by (repeat' (first | assumption | exact Below.refl _ _ | apply Below.drew | exact bel_drewN (Below.refl _ _) _))) hb5); (obtain ⟨y5, y6, y11, hl5, yz, hzz⟩ := HX2.out W5 hd5); (obtain ⟨A5, c5, rfl, _⟩ := own_shape ho5); (have a0 : W5.cell? ⟨w.heap.size, 0, none⟩ = some (.int .u64 0) := hzz.cell 0); (have a1 : W5.cell? ⟨w.heap.size, 1, none⟩ = some (.int .u64 0) := hzz.cell 1); (have a2 : W5.cell? ⟨w.heap.size, 2, none⟩ = some (.int .i64 0) := hzz.cell 2); (have a3 : W5.cell? ⟨w.heap.size, 3, none⟩ = some (.slice none 0 0) := hzz.cell 3); (have b0 := hzz.frozen 0); (have b1 := hzz.frozen 1); (have b2 := hzz.frozen 2); (have b3 := hzz.frozen 3))
        all_goals
          have HD5 := Lib.hid (HD2.out W5 _ hd5 (own_mono ho5 (by first | exact Nat.le_refl _ | (simp only [World.drew]; exact Nat.le_refl _))))
          have HZ5 := Lib.hid hzz
          clear hb5 hd5 ho5 hzz HC2 HX2 HD2 y5 y6 y11 hl5 yz x5 x6 x11 hl1 hl2 xz a0 a1 a2 a3 b0 b1 b2 b3
          go_wp2
          have hkp := st4P W5 w.heap.size (.int .u64 (s : Int)) (.int .u64 (pbn : Int)) (.int .i64 pbd) (.slice A5 zval.length c5)
          have hk4 := HZ5.out.s4P (.int .u64 (s : Int)) (.int .u64 (pbn : Int)) (.int .i64 pbd) (.slice A5 zval.length c5)
          generalize (((W5.setCell ⟨w.heap.size, 0, none⟩ (.int .u64 (s : Int))).setCell ⟨w.heap.size, 1, none⟩ (.int .u64 (pbn : Int))).setCell ⟨w.heap.size, 2, none⟩ (.int .i64 pbd)).setCell ⟨w.heap.size, 3, none⟩ (.slice A5 zval.length c5) = w9 at *
          have j0 : w9.cell? ⟨w.heap.size, 0, none⟩ = some (.int .u64 (s : Int)) := hk4.cell 0
          have j1 : w9.cell? ⟨w.heap.size, 1, none⟩ = some (.int .u64 (pbn : Int)) := hk4.cell 1
          have j2 : w9.cell? ⟨w.heap.size, 2, none⟩ = some (.int .i64 pbd) := hk4.cell 2
          have j3 : w9.cell? ⟨w.heap.size, 3, none⟩ = some (.slice A5 zval.length c5) := hk4.cell 3
          refine bodyPost_ret (by simp [results, Try.results57, go_sem, j0, j1, j2, j3]; try rfl) rfl ?_
          first | exact HD5.out _ hkp | exact HD5.out _ (hkp.trans (Kp.drew _ _))
end
end Go.Proofs.Ytjapmolmgfaocaa

/- The program's proposer: New; a proposer that is not there. -/
namespace Go.Proofs.Ytjapmolmgfaocaa
open Go.RowKit Go.Maps

section
variable (w : World)
set_option maxRecDepth 100000 in
set_option maxHeartbeats 1000000 in
theorem ppromise_nil (x : Int) (B : Option Addr) (N C : Nat) : Calls Try.prog 56 #[.pointer none, .int .i64 x, .slice B N C] w fun e w' => e = .returned (.int .i64 1) ∧ w = w' := by
  go_enter Try.func56, Try.ntmps56
  go_wp2
  go_ret
  exact ⟨rfl, rfl⟩
set_option maxRecDepth 100000 in
set_option maxHeartbeats 1000000 in
theorem pready_nil : Calls Try.prog 55 #[.pointer none] w fun e w' => e = .returned (.bool false) ∧ Below w.heap.size w w' := by
  go_enter Try.func55, Try.ntmps55
  go_wp2_with fail
  go_quiet (fail)
  go_wp2
  go_ret
  exact ⟨rfl, bel_drewN (Below.refl _ _) _⟩
set_option maxRecDepth 100000 in
set_option maxHeartbeats 1000000 in
theorem pmust_nil (s : Nat) : Calls Try.prog 67 #[.pointer none, .int .u64 (s : Int)] w fun e w' => e = .returned (.tuple #[.slice none 0 0, .bool false]) ∧ w = w' := by
  go_enter Try.func67, Try.ntmps67
  go_wp2
  go_ret2
  exact ⟨rfl, rfl⟩
set_option maxRecDepth 100000 in
set_option maxHeartbeats 1000000 in
theorem pchosen_nil (s : Nat) : Calls Try.prog 59 #[.pointer none, .int .u64 (s : Int)] w fun e w' => e = .returned (.tuple #[.slice none 0 0, .bool false]) ∧ w = w' := by
  go_enter Try.func59, Try.ntmps59
  go_wp2
  go_ret2
  exact ⟨rfl, rfl⟩
set_option maxRecDepth 100000 in
set_option maxHeartbeats 1000000 in
theorem paccepted_nil (x : Int) (s : Nat) : Calls Try.prog 58 #[.pointer none, .int .i64 x, .int .u64 (s : Int)] w fun e w' => e = .returned (.int .i64 1) ∧ w = w' := by
  go_enter Try.func58, Try.ntmps58
  go_wp2
  go_ret
  exact ⟨rfl, rfl⟩
set_option maxRecDepth 100000 in
set_option maxHeartbeats 1000000 in
theorem ppropose_nil (s : Nat) (oA : Option Addr) (on oc : Nat) : Calls Try.prog 57 #[.pointer none, .int .u64 (s : Int), .slice oA on oc] w fun e w' => e = .returned (.tuple #[.agg #[.int .u64 0, .int .u64 0, .int .i64 0, .slice none 0 0], .int .i64 1]) ∧ Below w.heap.size w w' := by
  obtain ⟨w1, hw1⟩ : ∃ w1, w1 = w.alloc (.cells #[.int .u64 0, .int .u64 0, .int .i64 0, .slice none 0 0] 46) := ⟨_, rfl⟩
  have hb1 : Below w.heap.size w w1 := by rw [hw1]; exact bel1P _
  have hz : Bk w1 w.heap.size 46 #[.int .u64 0, .int .u64 0, .int .i64 0, .slice none 0 0] := by rw [hw1]; exact Bk.new w _ _
  have f0 := hz.frozen 0
  have f1 := hz.frozen 1
  have f2 := hz.frozen 2
  have f3 := hz.frozen 3
  have z0 : w1.cell? ⟨w.heap.size, 0, none⟩ = some (.int .u64 0) := hz.cell 0
  have z1 : w1.cell? ⟨w.heap.size, 1, none⟩ = some (.int .u64 0) := hz.cell 1
  have z2 : w1.cell? ⟨w.heap.size, 2, none⟩ = some (.int .i64 0) := hz.cell 2
  have z3 : w1.cell? ⟨w.heap.size, 3, none⟩ = some (.slice none 0 0) := hz.cell 3
  have HZ := Lib.hid hz
  have HB := Lib.hid hb1
  have HW := Lib.hid hw1
  clear hz hb1 hw1
  go_enter Try.func57, Try.ntmps57
  go_upto_region 1 with (fail)
  rw [← HW.out]
  go_wp2
  have hkp := st4P w1 w.heap.size (.int .u64 0) (.int .u64 0) (.int .i64 0) (.slice none 0 0)
  have hk4 := HZ.out.s4P (.int .u64 0) (.int .u64 0) (.int .i64 0) (.slice none 0 0)
  generalize (((w1.setCell ⟨w.heap.size, 0, none⟩ (.int .u64 0)).setCell ⟨w.heap.size, 1, none⟩ (.int .u64 0)).setCell ⟨w.heap.size, 2, none⟩ (.int .i64 0)).setCell ⟨w.heap.size, 3, none⟩ (.slice none 0 0) = w9 at *
  have j0 : w9.cell? ⟨w.heap.size, 0, none⟩ = some (.int .u64 0) := hk4.cell 0
  have j1 : w9.cell? ⟨w.heap.size, 1, none⟩ = some (.int .u64 0) := hk4.cell 1
  have j2 : w9.cell? ⟨w.heap.size, 2, none⟩ = some (.int .i64 0) := hk4.cell 2
  have j3 : w9.cell? ⟨w.heap.size, 3, none⟩ = some (.slice none 0 0) := hk4.cell 3
  refine bodyPost_ret (by simp [results, Try.results57, go_sem, j0, j1, j2, j3]; try rfl) rfl ?_
  exact ⟨rfl, HB.out.trans (hkp.below (fun k e => by omega) HB.out.size)⟩
end
/-! ### New -/
theorem infoIntP : (Try.prog.info? 3).map (fun i => (i.zero, i.size, i.bytes)) = some (some (.int .i64 0), 1, 8) := by kernel_rfl
theorem RdI.cellsP {w : World} {B n : Nat} {A : Option Addr} {l : List Int} (h : RdI w B A n l) : ∀ ad, A = some ad → ∀ j u, (l.map (Value.int .i64))[j]? = some u → w.cell? (ad.add j) = some u := by
  intro ad e j u hu
  rw [List.getElem?_map] at hu
  obtain ⟨x, hx, rfl⟩ := Option.map_eq_some_iff.1 hu
  have hj : j < l.length := (List.getElem?_eq_some_iff.1 hx).1
  obtain ⟨b, o, e', _, hc⟩ := h.2.2 (by have := h.1; omega)
  rw [e'] at e
  obtain rfl := Option.some.inj e
  rw [Addr.add_lit, hc j hj, (List.getElem?_eq_some_iff.1 hx).2]
/-- slices.Clone of the sites. -/
theorem sit_of {w' : World} {A : Option Addr} {n c : Nat} {l : List Int} {B : Nat} (hl : l.length = n) (hr : ∀ x ∈ l, -9223372036854775808 ≤ x ∧ x ≤ 9223372036854775807) (ho : w'.ownsRow B 3 1 (.slice A n c) n (l.map (Value.int .i64))) : Sit w' (fun k => B ≤ k) A n c l := by
  obtain ⟨A', c', e, h1, h2⟩ := own_shape ho
  injection e with e1 e2 e3
  subst e3
  unfold maxLen at h2
  exact ⟨⟨h1, by omega⟩, hl, hr, fun _ => own_mono ho (Nat.zero_le _), fun _ k e => (ho.lt k e).1⟩
set_option maxRecDepth 100000 in
set_option maxHeartbeats 1000000 in
theorem cloneI_any (A : Option Addr) (n c : Nat) (l : List Int) (w : World) (hn : n ≤ 1000000) (h : RdI w w.heap.size A n l) :
    Calls Try.prog 39 #[.slice A n c] w fun e w' => ∃ A' c', e = .returned (.slice A' n c') ∧ Sit w' (fun k => w.heap.size ≤ k) A' n c' l ∧ Below w.heap.size w w' := by
  obtain ⟨i0, hi0, hz0, hz1, hz2⟩ := info_parts infoIntP
  have q := fun (w : World) (a : Option Addr) (n c n' c' : Nat) => Lib.run_eql_slice_nil (P := Try.prog) w 22 3 a n c n' c' Try.underlying22
  have hl := h.1
  have hrg := h.2.1
  cases A with
  | none =>
    have hn0 : n = 0 := by
      rcases Nat.eq_zero_or_pos n with h0 | h0
      · exact h0
      · obtain ⟨b, o, e, _⟩ := h.2.2 h0; cases e
    subst hn0
    obtain rfl : l = [] := List.eq_nil_of_length_eq_zero hl
    clear h
    go_enter Try.func39, Try.ntmps39
    go_wp2
    go_ret
    exact ⟨none, 0, rfl, sit_of rfl hrg (World.ownsRow_nil _ _ _ _), Below.refl _ _⟩
  | some a =>
    have hb0 := (Below.refl w.heap.size w).alloc (Nat.le_refl _) (.cells #[] 3)
    have h' := h.below hb0
    have Hcells := Lib.hid h'.cellsP
    have Hl := Lib.hid hl
    have Hrg := Lib.hid hrg
    clear hl hrg h h'
    go_enter Try.func39, Try.ntmps39
    go_wp2_with (at_builtin; go_loud (refine wpList_append_app _ rfl _ _ 22 rfl w.heap.size 3 i0 (.int .i64 0) 1 8 Try.underlying22 hi0 hz0 hz1 hz2 rfl _ 0 [] rfl (World.ownsRow_made w #[] 0 (Nat.le_refl _) (Nat.zero_le _) rfl) (some a) n c (l.map (Value.int .i64)) rfl (by rw [List.length_map, Hl.out, Nat.mul_one]) (by intro e; cases e) Hcells.out (by intro u hu; obtain ⟨x, _, rfl⟩ := List.mem_map.1 hu; rfl) (by unfold maxLen; omega) (by omega) (by simp) ?_))
    intro v' w1 ha
    have hb1 := ha.below hb0 (by simp) (by intro k hk; simp [Value.ownBlock] at hk; omega)
    have ho := ha.own
    rw [Nat.zero_add, List.nil_append] at ho
    obtain ⟨A', c', rfl, _⟩ := own_shape ho
    have HS := Lib.hid (sit_of Hl.out Hrg.out ho)
    have HB := Lib.hid hb1
    clear Hcells ha ho hb0 hb1
    go_wp2
    go_ret
    exact ⟨A', c', rfl, HS.out, HB.out⟩
section
variable (q : Qm) (A : Option Addr) (n c : Nat) (b : Bl) (s : Nat) (w : World) (hq : Qi w q A n c)
include hq
set_option maxRecDepth 100000 in
set_option maxHeartbeats 2000000 in
theorem pnew_bad (E : Int) (hE : E = (if q.right ≠ 0 then q.right else if b.right = false ∨ s = 0 then 2 else 0)) (h0 : E ≠ 0) : Calls Try.prog 44 #[qV q (.slice A n c), blV b, .int .u64 (s : Int)] w fun e w' => e = .returned (.tuple #[.pointer none, .int .i64 E]) ∧ Below w.heap.size w w' := by
  obtain ⟨bn, bd⟩ := b
  obtain ⟨w1, HW1, HB1, HK1⟩ := boxed q.kind q.nodes q.one q.two A n c w
  obtain ⟨w2, hw2⟩ : ∃ w2, w2 = w1.alloc (.cells #[.int .u64 (bn : Int), .int .i64 bd] 44) := ⟨_, rfl⟩
  have hb2 : Below w1.heap.size w1 w2 := by rw [hw2]; exact bel1P _
  have hs1 : w1.heap.size = w.heap.size + 1 := by rw [HW1.out]; simp
  have hk2 : Bk w2 (w.heap.size + 1) 44 #[.int .u64 (bn : Int), .int .i64 bd] := by rw [hw2, ← hs1]; exact Bk.new w1 _ _
  have HQ : Hid (∀ W, Below w2.heap.size w2 W → (W.cell? ⟨w.heap.size, 0, none⟩ = some (.int .i64 q.kind) ∧ W.cell? ⟨w.heap.size, 1, none⟩ = some (.int .i64 q.nodes) ∧ W.cell? ⟨w.heap.size, 2, none⟩ = some (.int .i64 q.one) ∧ W.cell? ⟨w.heap.size, 3, none⟩ = some (.int .i64 q.two) ∧ W.cell? ⟨w.heap.size, 4, none⟩ = some (.slice A n c)) ∧ W.cell? ⟨w.heap.size + 1, 0, none⟩ = some (.int .u64 (bn : Int)) ∧ W.cell? ⟨w.heap.size + 1, 1, none⟩ = some (.int .i64 bd)) := Lib.hid fun W hb =>
    ⟨QB.cells q.kind q.nodes q.one q.two A n c ((HK1.out.below hb2 HK1.out.lt).below hb (HK1.out.below hb2 HK1.out.lt).lt), (hk2.below hb hk2.lt).cell 0, (hk2.below hb hk2.lt).cell 1⟩
  have HRT := Lib.hid (right_any q A n c w2 (hq.up (below_then HB1.out hb2)))
  have HRA := Lib.hid (fun W => aright_any ⟨bn, bd⟩ W)
  have HB2 := Lib.hid (below_then HB1.out hb2)
  have HW2 := Lib.hid hw2
  obtain ⟨⟨q0, q1, q2, q3, q4⟩, q5, q6⟩ := HQ.out w2 (Below.refl _ _)
  unfold qV blV at *
  dsimp only at HRA ⊢
  clear hb2 hk2 hw2 hq HK1 hs1
  generalize q.right = r at *
  obtain ⟨kd, nd, on, tw, l⟩ := q
  dsimp only at *
  by_cases hr : r = 0
  · subst hr
    simp only [ne_eq, not_true_eq_false, ↓reduceIte] at hE
    cases hbr : Bl.right ⟨bn, bd⟩ with
    | false =>
      rw [hbr] at HRA hE
      simp only [true_or, ↓reduceIte] at hE
      subst hE
      clear hbr h0
      go_enter Try.func44, Try.ntmps44
      go_upto_region 1 with (fail)
      rw [← HW1.out]
      rw [← HW2.out]
      go_wp2_with fail
      refine HRT.out.mono ?_
      rintro e w3 ⟨rfl, hb3⟩
      obtain ⟨_, y5, y6⟩ := HQ.out w3 hb3
      have HB3 := Lib.hid (below_then HB2.out hb3)
      clear hb3 q0 q1 q2 q3 q4 q5 q6
      go_wp2_with fail
      refine (HRA.out _).mono ?_
      rintro e w4 ⟨rfl, hb4⟩
      have HB4 := Lib.hid (below_then HB3.out hb4)
      clear hb4 y5 y6
      go_wp2
      go_ret2
      exact ⟨rfl, HB4.out⟩
    | true =>
      rw [hbr] at HRA hE
      have hs : s = 0 := by
        rcases Nat.eq_zero_or_pos s with h | h
        · exact h
        · rw [if_neg (by simp; omega)] at hE
          exact absurd hE h0
      subst hs
      simp only [or_true, ↓reduceIte] at hE
      subst hE
      clear hbr h0
      go_enter Try.func44, Try.ntmps44
      go_upto_region 1 with (fail)
      rw [← HW1.out]
      rw [← HW2.out]
      go_wp2_with fail
      refine HRT.out.mono ?_
      rintro e w3 ⟨rfl, hb3⟩
      obtain ⟨_, y5, y6⟩ := HQ.out w3 hb3
      have HB3 := Lib.hid (below_then HB2.out hb3)
      clear hb3 q0 q1 q2 q3 q4 q5 q6
      go_wp2_with fail
      refine (HRA.out _).mono ?_
      rintro e w4 ⟨rfl, hb4⟩
      have HB4 := Lib.hid (below_then HB3.out hb4)
      clear hb4 y5 y6
      go_wp2
      go_ret2
      exact ⟨rfl, HB4.out⟩
  · rw [if_pos hr] at hE
    subst hE
    clear h0
    go_enter Try.func44, Try.ntmps44
    go_upto_region 1 with (fail)
    rw [← HW1.out]
    rw [← HW2.out]
    go_wp2_with fail
    refine HRT.out.mono ?_
    rintro e w3 ⟨rfl, hb3⟩
    have HB3 := Lib.hid (below_then HB2.out hb3)
    clear hb3 q0 q1 q2 q3 q4 q5 q6
    go_wp2
    go_ret2
    exact ⟨rfl, HB3.out⟩
/-- A new proposer: all of it is new. -/
def NewR (q : Qm) (b : Bl) (s : Nat) (w : World) (e : Ending) (w' : World) : Prop := ∃ g F, e = .returned (.tuple #[.pointer (some ⟨g, 0, none⟩), .int .i64 0]) ∧ PPM w' F g (Pp.new q b s) ∧ (∀ k, F k → w.heap.size ≤ k) ∧ Below w.heap.size w w'
set_option maxRecDepth 100000 in
set_option maxHeartbeats 4000000 in
theorem pnew_any (hr : q.right = 0) (hbr : b.right = true) (hbn : b.n < 18446744073709551616) (hs0 : 0 < s) (hs : s < 18446744073709551616) (hn : n ≤ 1000000) : Calls Try.prog 44 #[qV q (.slice A n c), blV b, .int .u64 (s : Int)] w (NewR q b s w) := by
  obtain ⟨bn, bd⟩ := b
  dsimp only at hbn
  obtain ⟨w1, HW1, HB1, HK1⟩ := boxed q.kind q.nodes q.one q.two A n c w
  obtain ⟨w2, hw2⟩ : ∃ w2, w2 = w1.alloc (.cells #[.int .u64 (bn : Int), .int .i64 bd] 44) := ⟨_, rfl⟩
  have hb2 : Below w1.heap.size w1 w2 := by rw [hw2]; exact bel1P _
  have hs1 : w1.heap.size = w.heap.size + 1 := by rw [HW1.out]; simp
  have hs2 : w2.heap.size = w.heap.size + 2 := by rw [hw2]; simp [hs1]
  have hk2 : Bk w2 (w.heap.size + 1) 44 #[.int .u64 (bn : Int), .int .i64 bd] := by rw [hw2, ← hs1]; exact Bk.new w1 _ _
  have HQ : Hid (∀ W, Below w2.heap.size w2 W → (W.cell? ⟨w.heap.size, 0, none⟩ = some (.int .i64 q.kind) ∧ W.cell? ⟨w.heap.size, 1, none⟩ = some (.int .i64 q.nodes) ∧ W.cell? ⟨w.heap.size, 2, none⟩ = some (.int .i64 q.one) ∧ W.cell? ⟨w.heap.size, 3, none⟩ = some (.int .i64 q.two) ∧ W.cell? ⟨w.heap.size, 4, none⟩ = some (.slice A n c)) ∧ W.cell? ⟨w.heap.size + 1, 0, none⟩ = some (.int .u64 (bn : Int)) ∧ W.cell? ⟨w.heap.size + 1, 1, none⟩ = some (.int .i64 bd) ∧ W.frozen? ⟨w.heap.size, 4, none⟩ = false) := Lib.hid fun W hb =>
    ⟨QB.cells q.kind q.nodes q.one q.two A n c ((HK1.out.below hb2 HK1.out.lt).below hb (HK1.out.below hb2 HK1.out.lt).lt), (hk2.below hb hk2.lt).cell 0, (hk2.below hb hk2.lt).cell 1, ((HK1.out.below hb2 HK1.out.lt).below hb (HK1.out.below hb2 HK1.out.lt).lt).frozen 4⟩
  have HRT := Lib.hid (right_any q A n c w2 (hq.up (below_then HB1.out hb2)))
  rw [hr] at HRT
  have HRA := Lib.hid (fun W => aright_any ⟨bn, bd⟩ W)
  rw [hbr] at HRA
  have HCl := Lib.hid (fun W (hb : Below w2.heap.size w2 W) => cloneI_any A n c q.sites W hn (hq.up (below_then HB1.out (below_then hb2 hb))).rd)
  have HB2 := Lib.hid (below_then HB1.out hb2)
  have HW2 := Lib.hid hw2
  have HS2 := Lib.hid hs2
  have m1 : ¬ ((s : Int) = 0) := by omega
  have m2 : IntKind.u64.wrap ((s : Int) - 1) = ((s - 1 : Nat) : Int) := by rw [IntKind.wrap_u64]; omega
  have hmm := @run_makeMap Try.prog
  -- the end: two maps and the proposer's block, made one behind the other
  have HD : Hid (∀ W A' c', Below w.heap.size w W → Sit W (fun k => w2.heap.size ≤ k) A' n c' q.sites → NewR q ⟨bn, bd⟩ s w (.returned (.tuple #[.pointer (some ⟨W.heap.size + 1 + 1, 0, none⟩), .int .i64 0])) (((W.alloc (.map #[] 0)).alloc (.map #[] 0)).alloc (.cells (ppA (Pp.new q ⟨bn, bd⟩ s) (.slice A' n c') W.heap.size (W.heap.size + 1)) 108))) := Lib.hid fun W A' c' hb hsit => by
    have b1 : Below W.heap.size W (W.alloc (.map #[] 0)) := bel1P _
    have s1 : (W.alloc (.map #[] 0)).heap.size = W.heap.size + 1 := by simp
    have b2 : Below (W.alloc (.map #[] 0)).heap.size (W.alloc (.map #[] 0)) ((W.alloc (.map #[] 0)).alloc (.map #[] 0)) := bel1P _
    have s2 : ((W.alloc (.map #[] 0)).alloc (.map #[] 0)).heap.size = W.heap.size + 1 + 1 := by simp
    have b3 : Below ((W.alloc (.map #[] 0)).alloc (.map #[] 0)).heap.size ((W.alloc (.map #[] 0)).alloc (.map #[] 0)) (((W.alloc (.map #[] 0)).alloc (.map #[] 0)).alloc (.cells (ppA (Pp.new q ⟨bn, bd⟩ s) (.slice A' n c') W.heap.size (W.heap.size + 1)) 108)) := bel1P _
    have hbA := below_then b1 (below_then b2 b3)
    have m1 : OwnB tmE (W.alloc (.map #[] 0)) W.heap.size 0 [] := OwnB.made W
    have m2 : OwnB prE ((W.alloc (.map #[] 0)).alloc (.map #[] 0)) (W.alloc (.map #[] 0)).heap.size 0 [] := OwnB.made _
    have hb' := below_then b2 b3
    have hz := hb.size
    have hz2 := HS2.out
    have hbk := Bk.new ((W.alloc (.map #[] 0)).alloc (.map #[] 0)) 108 (ppA (Pp.new q ⟨bn, bd⟩ s) (.slice A' n c') W.heap.size (W.heap.size + 1))
    rw [s2] at hbk
    rw [s1] at m2
    refine ⟨W.heap.size + 1 + 1, fun k => w.heap.size ≤ k ∧ k < (((W.alloc (.map #[] 0)).alloc (.map #[] 0)).alloc (.cells (ppA (Pp.new q ⟨bn, bd⟩ s) (.slice A' n c') W.heap.size (W.heap.size + 1)) 108)).heap.size, rfl, ⟨W.heap.size, W.heap.size + 1, A', n, c', [], [], ?_⟩, fun k hk => hk.1, hb.trans (hbA.mono hb.size)⟩
    refine ⟨hbk, ?_, m1.kp (F := fun _ => False) (Kp.of_below hb') (fun h => h), m2.kp (F := fun _ => False) (Kp.of_below b3) (fun h => h), fun e he => (List.not_mem_nil he).elim, fun e he => (List.not_mem_nil he).elim, fun e he => (List.not_mem_nil he).elim, fun e he => (List.not_mem_nil he).elim, rfl, rfl, Pp.Ok.new hr hbr hbn hs0 hs, ⟨hq.kind, hq.nodes, hq.one, hq.two⟩, ⟨by omega, by simp⟩, ⟨hz, by simp; omega⟩, ⟨by omega, by simp⟩, by omega, fun e he => (List.not_mem_nil he).elim, fun e he => (List.not_mem_nil he).elim, fun e he => (List.not_mem_nil he).elim, fun k hk => hk.2⟩
    have hs3 := hsit.keep (F' := fun k => w.heap.size ≤ k) (Kp.of_below hbA) (fun _ _ _ hf => hf) (fun k hk => by omega)
    exact ⟨hs3.cap, hs3.len, hs3.num, hs3.own, fun hn k e => ⟨hs3.foot hn k e, ((hs3.own hn).lt k e).2⟩⟩
  obtain ⟨⟨q0, q1, q2, q3, q4⟩, q5, q6, _⟩ := HQ.out w2 (Below.refl _ _)
  unfold ppA Pp.new at HD
  unfold qV blV at *
  dsimp only at HRA HD ⊢
  clear hb2 hk2 hw2 hq HK1 hs1 hs2 hr hbr
  obtain ⟨kd, nd, on, tw, l⟩ := q
  dsimp only at *
  go_enter Try.func44, Try.ntmps44
  go_upto_region 1 with (fail)
  rw [← HW1.out]
  rw [← HW2.out]
  go_wp2_with fail
  refine HRT.out.mono ?_
  rintro e w3 ⟨rfl, hb3⟩
  obtain ⟨_, y5, y6, _⟩ := HQ.out w3 hb3
  have HB3 := Lib.hid hb3
  clear hb3 q0 q1 q2 q3 q4 q5 q6
  go_wp2_with fail
  refine (HRA.out _).mono ?_
  rintro e w4 ⟨rfl, hb4⟩
  have HB4 := Lib.hid (below_then HB3.out hb4)
  clear hb4 y5 y6
  obtain ⟨⟨q0, q1, q2, q3, q4⟩, q5, q6, fr4⟩ := HQ.out w4 HB4.out
  go_wp2_with fail
  refine (HCl.out w4 HB4.out).mono ?_
  rintro e w5 ⟨A5, c5, rfl, hsit, hb5⟩
  have hb25 := below_then HB4.out hb5
  clear q0 q1 q2 q3 q4 q5 q6 fr4
  obtain ⟨⟨q0, q1, q2, q3, q4⟩, q5, q6, fr4⟩ := HQ.out w5 hb25
  have hk6 : Kp (fun j => j = w.heap.size) w5 (w5.setCell ⟨w.heap.size, 4, none⟩ (.slice A5 n c5)) := Kp.set_ (F := fun j => j = w.heap.size) (p := ⟨w.heap.size, 4, none⟩) rfl _
  have HD6 := Lib.hid (HD.out (w5.setCell ⟨w.heap.size, 4, none⟩ (.slice A5 n c5)) A5 c5 ((below_then HB2.out hb25).trans (hk6.below (fun k e => by omega) (below_then HB2.out hb25).size))
    (hsit.keep hk6 (fun hn k e1 e2 => by have h1 := ((hsit.own hn).lt k e1).1; have h2 := hsit.foot hn k e1; have h3 := HB4.out.size; have h4 := HS2.out; omega) (fun k hk => by have h3 := HB4.out.size; omega)))
  clear hsit hb5 hb25 HD HCl HRA HRT hk6 HQ
  have hz6 : (w5.setCell ⟨w.heap.size, 4, none⟩ (.slice A5 n c5)).heap.size = w5.heap.size := by simp [World.setCell]
  rw [hz6] at HD6
  clear hz6
  go_upto_region 7 with (fail)
  go_wp2
  go_ret2
  exact HD6.out
end
end Go.Proofs.Ytjapmolmgfaocaa

/- Layer 10's laws: a proposer of the call's own; what lies apart from it; the chapter's examples. -/
namespace Go.Proofs.Ytjapmolmgfaocaa
open Go.RowKit Go.Maps

/-- The proposer at g is p, made since W, in the blocks F. -/
structure OwP (W w : World) (F : Nat → Prop) (g : Nat) (p : Pp) : Prop where
  pm : PPM w F g p
  ge : ∀ k, F k → W.heap.size ≤ k
  bel : Below W.heap.size W w
section
variable {W w w' : World} {F F' : Nat → Prop} {g : Nat} {p p' : Pp}
theorem OwP.below (h : OwP W w F g p) (hb : Below w.heap.size w w') : OwP W w' F g p := ⟨h.pm.below hb, h.ge, below_then h.bel hb⟩
theorem OwP.mv (h : OwP W w F g p) (hp : PPM w' F' g p') (hm : Mv F F' w w') : OwP W w' F' g p' := ⟨hp, hm.ge h.bel.size h.ge, h.bel.trans (hm.kp.below h.ge h.bel.size)⟩
theorem OwP.kp {G : Nat → Prop} (h : OwP W w F g p) (hk : Kp G w w') (hg : ∀ k, G k → W.heap.size ≤ k) (hd : ∀ k, F k → ¬ G k) : OwP W w' F g p := ⟨h.pm.kp hk hd, h.ge, h.bel.trans (hk.below hg h.bel.size)⟩
/-- Bytes that lie apart from it. -/
def Ap (w : World) (F : Nat → Prop) (B : Nat) (v : Value) (l : List UInt8) : Prop := w.ownsRow B 5 1 v l.length (u8s l) ∧ ∀ k, v.ownBlock = some k → ¬ F k
theorem Ap.mv {B : Nat} {v : Value} {l : List UInt8} (h : Ap w F B v l) (hm : Mv F F' w w') : Ap w' F' B v l :=
  ⟨own_kp h.1 hm.kp h.2, fun k e hf => by
    rcases hm.new k hf with h1 | h1
    · exact h.2 k e h1
    · have := (h.1.lt k e).2; omega⟩
theorem Ap.below {B : Nat} {v : Value} {l : List UInt8} (h : Ap w F B v l) (hb : Below w.heap.size w w') : Ap w' F B v l := ⟨own_kp h.1 (Kp.of_below (F := fun _ => False) hb) (fun _ _ h => h), h.2⟩
theorem Ap.new {v : Value} {l : List UInt8} {B : Nat} (ho : w'.ownsRow w.heap.size 5 1 v l.length (u8s l)) (hlt : ∀ k, F k → k < w.heap.size) (hB : B ≤ w.heap.size) : Ap w' F B v l := ⟨own_mono ho hB, fun k e hf => by have := (ho.lt k e).1; have := hlt k hf; omega⟩
theorem Ap.shape {B : Nat} {v : Value} {l : List UInt8} (h : Ap w F B v l) : ∃ A c, v = .slice A l.length c := by obtain ⟨A, c, e, _⟩ := own_shape h.1; exact ⟨A, c, e⟩
def PromO (W w : World) (F : Nat → Prop) (g : Nat) (r : Int × Pp) (e : Ending) (w' : World) : Prop := ∃ F', e = .returned (.int .i64 r.1) ∧ OwP W w' F' g r.2 ∧ Mv F F' w w'
def ProposeO (W w : World) (F : Nat → Prop) (g : Nat) (r : Int × Vt × Pp) (e : Ending) (w' : World) : Prop := ∃ F' A c, e = .returned (.tuple #[.agg #[.int .u64 (r.2.1.slot : Int), .int .u64 (r.2.1.bal.n : Int), .int .i64 r.2.1.bal.node, .slice A r.2.1.val.length c], .int .i64 r.1]) ∧ Ap w' F' w.heap.size (.slice A r.2.1.val.length c) r.2.1.val ∧ OwP W w' F' g r.2.2 ∧ Mv F F' w w'
def NewO (q : Qm) (b : Bl) (s : Nat) (W : World) (e : Ending) (w' : World) : Prop := ∃ g F, e = .returned (.tuple #[.pointer (some ⟨g, 0, none⟩), .int .i64 0]) ∧ OwP W w' F g (Pp.new q b s)
def GiveO (o : Option (List UInt8)) (w : World) (e : Ending) (w' : World) : Prop := ∃ A c, e = .returned (.tuple #[.slice A (o.getD []).length c, .bool o.isSome]) ∧ w'.ownsRow w.heap.size 5 1 (.slice A (o.getD []).length c) (o.getD []).length (u8s (o.getD [])) ∧ Below w.heap.size w w'
theorem GiveR.o {o : Option (List UInt8)} {e : Ending} (h : GiveR o w e w') : GiveO o w e w' := by
  obtain ⟨v, rfl, ho, hb⟩ := h
  obtain ⟨A, c, rfl, _⟩ := own_shape ho
  exact ⟨A, c, rfl, ho, hb⟩
theorem OwP.new (q : Qm) (A : Option Addr) (n c : Nat) (b : Bl) (s : Nat) (W w : World) (hb : Below W.heap.size W w) (hq : Qi w q A n c) (hr : q.right = 0) (hbr : b.right = true) (hbn : b.n < 18446744073709551616) (hs0 : 0 < s) (hs : s < 18446744073709551616) (hn : n ≤ 1000000) :
    Calls Try.prog 44 #[qV q (.slice A n c), blV b, .int .u64 (s : Int)] w (NewO q b s W) := by
  refine (pnew_any q A n c b s w hq hr hbr hbn hs0 hs hn).mono ?_
  rintro e w' ⟨g, F, rfl, hp, hg, hbw⟩
  exact ⟨g, F, rfl, hp, fun k hk => Nat.le_trans hb.size (hg k hk), below_then hb hbw⟩
theorem OwP.promise (h : OwP W w F g p) {G : Nat → Prop} {B : Option Addr} {N C : Nat} {es : List Vtr} (hv : VsR w G B N C es) (hG : ∀ k, G k → ¬ F k) (hGl : ∀ k, G k → k < w.heap.size) (hN : p.told.length + N < 140737488355328) (x : Int) :
    Calls Try.prog 56 #[.pointer (some ⟨g, 0, none⟩), .int .i64 x, .slice B N C] w (PromO W w F g (p.promise x (es.map (·.1)))) := by
  obtain ⟨bt, bp, A, n, c, ts, ps, hP⟩ := h.pm
  refine (ppromise_any hP hv hG hGl hN x).mono ?_
  rintro e w' ⟨F', rfl, hp, hm⟩
  exact ⟨F', rfl, h.mv hp hm, hm⟩
theorem OwP.accepted (h : OwP W w F g p) (x : Int) (s : Nat) (hs : s < 18446744073709551616) : Calls Try.prog 58 #[.pointer (some ⟨g, 0, none⟩), .int .i64 x, .int .u64 (s : Int)] w (PromO W w F g (p.accepted x s)) := by
  obtain ⟨bt, bp, A, n, c, ts, ps, hP⟩ := h.pm
  refine (paccepted_any hP x s hs).mono ?_
  rintro e w' ⟨F', rfl, hp, hm⟩
  exact ⟨F', rfl, h.mv hp hm, hm⟩
theorem OwP.propose (h : OwP W w F g p) (s : Nat) (hs : s < 18446744073709551616) (oA : Option Addr) (on oc : Nat) (own : List UInt8) (hon : on ≤ 140737488355328) (hrd : Rd w w.heap.size oA on own) (hpl : p.props.length + 1 < 140737488355328) :
    Calls Try.prog 57 #[.pointer (some ⟨g, 0, none⟩), .int .u64 (s : Int), .slice oA on oc] w (ProposeO W w F g (p.propose s own)) := by
  obtain ⟨bt, bp, A, n, c, ts, ps, hP⟩ := h.pm
  refine (ppropose_any hP s hs oA on oc own hon hrd hpl).mono ?_
  rintro e w' ⟨F', v, rfl, ho, hp, hm, hd⟩
  obtain ⟨A', c', rfl, _⟩ := own_shape ho
  exact ⟨F', A', c', rfl, ⟨ho, hd⟩, h.mv hp hm, hm⟩
theorem OwP.must (h : OwP W w F g p) (s : Nat) (hs : s < 18446744073709551616) : Calls Try.prog 67 #[.pointer (some ⟨g, 0, none⟩), .int .u64 (s : Int)] w (GiveO (p.must s) w) := by
  obtain ⟨bt, bp, A, n, c, ts, ps, hP⟩ := h.pm
  exact (pmust_any hP s hs).mono fun _ _ h => h.o
theorem OwP.chosen (h : OwP W w F g p) (s : Nat) (hs : s < 18446744073709551616) : Calls Try.prog 59 #[.pointer (some ⟨g, 0, none⟩), .int .u64 (s : Int)] w (GiveO (p.chosen s) w) := by
  obtain ⟨bt, bp, A, n, c, ts, ps, hP⟩ := h.pm
  exact (pchosen_any hP s hs).mono fun _ _ h => h.o
theorem OwP.ready (h : OwP W w F g p) : Calls Try.prog 55 #[.pointer (some ⟨g, 0, none⟩)] w fun e w' => e = .returned (.bool p.ready) ∧ Below w.heap.size w w' := by
  obtain ⟨bt, bp, A, n, c, ts, ps, hP⟩ := h.pm
  exact pready_any hP
end
def kq3 : Qm := ⟨1, 3, 2, 2, []⟩
theorem kq3_right : kq3.right = 0 := by decide +kernel
theorem qi_kq3 (W : World) : Qi W kq3 none 0 0 := ⟨⟨by decide, by decide⟩, ⟨by decide, by decide⟩, ⟨by decide, by decide⟩, ⟨by decide, by decide⟩, by decide, RdI.nil _ _ _⟩
end Go.Proofs.Ytjapmolmgfaocaa

/- Layer 11 in memory: the program's room. Each block that it has bears a number: 1 the room, 2 the nodes, 3 the row of letters, 4 what is never changed, 5 + i the proposer of node i; 0 what is none of the room's. -/
namespace Go.Proofs.Ytjapmolmgfaocaa
open Go.RowKit Go.Maps

abbrev S3 := Option Addr × Nat × Nat
def s3V (x : S3) : Value := .slice x.1 x.2.1 x.2.2
def s3N : S3 := (none, 0, 0)
/-- Where a node's slices, and its proposer, lie. -/
structure Np where
  v : S3
  p : Option Nat
  o : S3
  l : S3
def Np.zero : Np := ⟨s3N, none, s3N, s3N⟩
/-- The cells of a node. -/
def ndC (x : Nd) (y : Np) : Nat → Value
  | 0 => .int .u64 (x.prom.n : Int)
  | 1 => .int .i64 x.prom.node
  | 2 => .int .u64 (x.vote.slot : Int)
  | 3 => .int .u64 (x.vote.bal.n : Int)
  | 4 => .int .i64 x.vote.bal.node
  | 5 => s3V y.v
  | 6 => .int .u64 (x.seen : Int)
  | 7 => prV y.p
  | 8 => .int .u64 (x.bal.n : Int)
  | 9 => .int .i64 x.bal.node
  | 10 => s3V y.o
  | 11 => s3V y.l
  | _ => .bool x.knows
/-- The block N is these nodes. -/
def NdsM (w : World) (N n : Nat) (c : Nat → Nat → Value) : Prop := ∃ cs, Bk w N 78 cs ∧ cs.size = n * 13 ∧ ∀ i k, i < n → k < 13 → cs[i * 13 + k]? = some (c i k)
section
variable {w w' : World} {N n : Nat} {c c' : Nat → Nat → Value}
theorem NdsM.cell (h : NdsM w N n c) {i k : Nat} (hi : i < n) (hk : k < 13) : w.cell? ⟨N, i * 13 + k, none⟩ = some (c i k) := by
  obtain ⟨cs, h1, h2, h3⟩ := h
  rw [h1.cell]
  exact h3 i k hi hk
theorem NdsM.frozen (h : NdsM w N n c) (j : Nat) : w.frozen? ⟨N, j, none⟩ = false := by obtain ⟨cs, h1, h2, h3⟩ := h; exact h1.frozen j
theorem NdsM.lt (h : NdsM w N n c) : N < w.heap.size := by obtain ⟨cs, h1, h2, h3⟩ := h; exact h1.lt
theorem NdsM.kp {G : Nat → Prop} (h : NdsM w N n c) (hk : Kp G w w') (hd : ¬ G N) : NdsM w' N n c := by obtain ⟨cs, h1, h2, h3⟩ := h; exact ⟨cs, h1.kp hk hd, h2, h3⟩
theorem NdsM.congr (h : NdsM w N n c) (he : ∀ i k, i < n → k < 13 → c i k = c' i k) : NdsM w N n c' := by obtain ⟨cs, h1, h2, h3⟩ := h; exact ⟨cs, h1, h2, fun i k hi hk => by rw [← he i k hi hk]; exact h3 i k hi hk⟩
theorem NdsM.set_ (h : NdsM w N n c) {i k : Nat} (hi : i < n) (hk : k < 13) (v : Value) : NdsM (w.setCell ⟨N, i * 13 + k, none⟩ v) N n (fun j => if j = i then fun m => if m = k then v else c i m else c j) := by
  obtain ⟨cs, h1, h2, h3⟩ := h
  have hlt : i * 13 + k < cs.size := by omega
  refine ⟨cs.setIfInBounds (i * 13 + k) v, h1.set_ _ _, by simp [h2], fun j m hj hm => ?_⟩
  rw [Array.getElem?_setIfInBounds]
  by_cases e1 : j = i
  · subst e1
    by_cases e2 : m = k
    · subst e2
      simp [hlt]
    · rw [if_neg (by omega)]
      dsimp only
      rw [if_pos rfl, if_neg e2]
      exact h3 j m hj hm
  · rw [if_neg (by omega)]
    dsimp only
    rw [if_neg e1]
    exact h3 j m hj hm
theorem NdsM.set0 (h : NdsM w N n c) {i : Nat} (hi : i < n) (v : Value) : NdsM (w.setCell ⟨N, i * 13, none⟩ v) N n (fun j => if j = i then fun m => if m = 0 then v else c i m else c j) := h.set_ (k := 0) hi (by omega) v
theorem NdsM.cell0 (h : NdsM w N n c) {i : Nat} (hi : i < n) : w.cell? ⟨N, i * 13, none⟩ = some (c i 0) := h.cell (k := 0) hi (by omega)
end

/-- A letter in memory: where its votes' row lies, and what they read. -/
abbrev Mle := Ml × S3 × List Vtr
def mlV (m : Ml) (s : S3) : Value := .agg #[.int .i64 (m.kind : Int), .int .i64 (m.frm : Int), .int .i64 (m.dst : Int), .int .u64 (m.bal.n : Int), .int .i64 m.bal.node, .slice s.1 s.2.1 s.2.2]
def mlE (e : Mle) : List Value := [.int .i64 (e.1.kind : Int), .int .i64 (e.1.frm : Int), .int .i64 (e.1.dst : Int), .int .u64 (e.1.bal.n : Int), .int .i64 e.1.bal.node, .slice e.2.1.1 e.2.1.2.1 e.2.1.2.2]
def mlC (es : List Mle) : List Value := es.flatMap mlE
theorem mlC_at (es : List Mle) (i j : Nat) (hi : i < es.length) (hj : j < 6) : (mlC es)[i * 6 + j]? = (mlE es[i])[j]? := flat_at (s := 6) es (fun _ _ => rfl) i j hi hj
theorem mlC_app (a b : List Mle) : mlC (a ++ b) = mlC a ++ mlC b := by unfold mlC; rw [List.flatMap_append]
theorem mlC_take (es : List Mle) (k : Nat) : (mlC es).take (k * 6) = mlC (es.take k) := flat_take (s := 6) es (fun _ _ => rfl) k
theorem mlC_drop (es : List Mle) (k : Nat) : (mlC es).drop (k * 6) = mlC (es.drop k) := flat_drop (s := 6) es (fun _ _ => rfl) k
theorem mlC_one {es : List Mle} : ∀ u ∈ mlC es, u.oneCell' = true := by
  intro u hu
  unfold mlC at hu
  obtain ⟨e, he, hu⟩ := List.mem_flatMap.1 hu
  simp only [mlE, List.mem_cons, List.not_mem_nil, or_false] at hu
  rcases hu with rfl | rfl | rfl | rfl | rfl | rfl <;> rfl
/-- Bytes in what is never changed. -/
structure RdS (w : World) (col : Nat → Nat) (s : S3) (l : List UInt8) : Prop where
  cap : s.2.1 ≤ s.2.2 ∧ s.2.2 ≤ 9223372036854775807
  rd : RdG w (fun k => col k = 4) s.1 s.2.1 l
/-- Votes in what is never changed. -/
def VsS (w : World) (col : Nat → Nat) (s : S3) (vs : List Vtr) : Prop := VsR w (fun k => col k = 4) s.1 s.2.1 s.2.2 vs
/-- What changed, and what was made. -/
structure Cl (col col' : Nat → Nat) (w w' : World) : Prop where
  kp : Kp (fun k => col k ≠ 0 ∧ col k ≠ 4) w w'
  old : ∀ k, k < w.heap.size → col' k = col k

structure RoC (w : World) (col : Nat → Nat) (g N n : Nat) (A : Option Addr) (sn sc : Nat) (R : Option Addr) (rc : Nat) (np : Nat → Np) (es : List Mle) (r : Ro) : Prop where
  bk : Bk w g 85 #[.int .i64 r.q.kind, .int .i64 r.q.nodes, .int .i64 r.q.one, .int .i64 r.q.two, .slice A sn sc, .slice (some ⟨N, 0, none⟩) n n, .slice R es.length rc]
  nn : n = r.q.n
  qi : i64In r.q.kind ∧ i64In r.q.nodes ∧ i64In r.q.one ∧ i64In r.q.two
  sit : Sit w (fun k => col k = 4) A sn sc r.q.sites
  sn6 : sn ≤ 1000000
  nds : NdsM w N n (fun i => ndC (r.node i) (np i))
  row : w.ownsRow 0 63 6 (.slice R es.length rc) es.length (mlC es)
  each : ∀ e ∈ es, VsS w col e.2.1 e.2.2 ∧ e.1.votes = e.2.2.map (·.1)
  eq : es.map (·.1) = r.row
  vv : ∀ i, i < n → RdS w col (np i).v (r.node i).vote.val
  oo : ∀ i, i < n → RdS w col (np i).o (r.node i).own
  ll : ∀ i, i < n → RdS w col (np i).l (r.node i).learned
  pp : ∀ i, i < n → ∀ p, (r.node i).pro = some p → ∃ gp, (np i).p = some gp ∧ PPM w (fun k => col k = 5 + i) gp p
  pn : ∀ i, i < n → (r.node i).pro = none → (np i).p = none
  cg : col g = 1
  cN : col N = 2
  cR : ∀ k, (Value.slice R es.length rc).ownBlock = some k → col k = 3
  lt : ∀ k, col k ≠ 0 → k < w.heap.size
  ok : r.Ok
def RoM (w : World) (col : Nat → Nat) (g N n : Nat) (r : Ro) : Prop := ∃ A sn sc R rc np es, RoC w col g N n A sn sc R rc np es r

theorem RdS.nil (w : World) (col : Nat → Nat) : RdS w col s3N [] := ⟨⟨Nat.le_refl _, by decide⟩, rfl, fun h => absurd h (by decide)⟩
theorem RdS.kp {w w' : World} {col : Nat → Nat} {s : S3} {l : List UInt8} {G : Nat → Prop} (h : RdS w col s l) (hk : Kp G w w') (hd : ∀ k, col k = 4 → ¬ G k) : RdS w' col s l := ⟨h.cap, h.rd.kp hk hd⟩
theorem RdS.mono {w : World} {col col' : Nat → Nat} {s : S3} {l : List UInt8} (h : RdS w col s l) (hc : ∀ k, k < w.heap.size → col' k = col k) : RdS w col' s l :=
  ⟨h.cap, h.rd.1, fun hn => by obtain ⟨b, o, e, hg, hb, hj⟩ := h.rd.2 hn; exact ⟨b, o, e, (hc b hb).trans hg, hb, hj⟩⟩
theorem RdS.rd' {w : World} {col : Nat → Nat} {s : S3} {l : List UInt8} (h : RdS w col s l) : Rd w w.heap.size s.1 s.2.1 l := h.rd.rd
theorem RdS.len {w : World} {col : Nat → Nat} {s : S3} {l : List UInt8} (h : RdS w col s l) : l.length = s.2.1 := h.rd.1
theorem VsR.mono' {w : World} {G G' : Nat → Prop} {A : Option Addr} {n c : Nat} {es : List Vtr} (h : VsR w G A n c es) (hg : ∀ k, k < w.heap.size → G k → G' k) : VsR w G' A n c es :=
  ⟨h.len, h.cap, fun hn => by obtain ⟨R, o, e, h1, h2, h3⟩ := h.row hn; exact ⟨R, o, e, hg R h2 h1, h2, h3⟩, fun e he => by
    obtain ⟨h1, h2, h3, h4⟩ := h.each e he
    exact ⟨h1, h2, ⟨h3.1, fun hn => by obtain ⟨b, o, e, q1, q2, q3⟩ := h3.2 hn; exact ⟨b, o, e, hg b q2 q1, q2, q3⟩⟩, h4⟩⟩
theorem VsS.kp {w w' : World} {col : Nat → Nat} {s : S3} {vs : List Vtr} {G : Nat → Prop} (h : VsS w col s vs) (hk : Kp G w w') (hd : ∀ k, col k = 4 → ¬ G k) : VsS w' col s vs := VsR.kp h hk hd
theorem VsS.mono {w : World} {col col' : Nat → Nat} {s : S3} {vs : List Vtr} (h : VsS w col s vs) (hc : ∀ k, k < w.heap.size → col' k = col k) : VsS w col' s vs := VsR.mono' h fun k hk e => (hc k hk).trans e
theorem VsS.nil (w : World) (col : Nat → Nat) : VsS w col s3N [] := VsR.nil w _ none 0 (by decide)
theorem Sit.mono {w : World} {F F' : Nat → Prop} {A : Option Addr} {n c : Nat} {l : List Int} (h : Sit w F A n c l) (hf : ∀ k, F k → F' k) : Sit w F' A n c l := h.keep (Kp.refl (fun _ => False) w) (fun _ _ _ h => h) hf
theorem PPM.mono {w : World} {F F' : Nat → Prop} {g : Nat} {p : Pp} (h : PPM w F g p) (hf : ∀ k, F k → F' k) (hl : ∀ k, F' k → k < w.heap.size) : PPM w F' g p := by
  obtain ⟨bt, bp, A, n, c, ts, ps, h⟩ := h
  exact ⟨bt, bp, A, n, c, ts, ps, h.bk, h.sit.mono hf, h.tmap, h.pmap, h.teach, h.peach, h.pval, h.pinj, h.teq, h.peq, h.ok, h.qi, hf _ h.fg, hf _ h.ft, hf _ h.fp, h.tne, fun e he k e2 => hf k (h.tf e he k e2), fun e he => hf _ (h.pf e he), fun e he k e2 => hf k (h.vf e he k e2), hl⟩

theorem Cl.refl (col : Nat → Nat) (w : World) : Cl col col w w := ⟨Kp.refl _ w, fun _ _ => rfl⟩
theorem Cl.of_below {col : Nat → Nat} {w w' : World} (h : Below w.heap.size w w') : Cl col col w w' := ⟨Kp.of_below h, fun _ _ => rfl⟩
theorem Cl.trans {c0 c1 c2 : Nat → Nat} {a b d : World} (h : Cl c0 c1 a b) (k : Cl c1 c2 b d) : Cl c0 c2 a d :=
  ⟨h.kp.trans' k.kp fun i hi => by
    by_cases hl : i < a.heap.size
    · exact .inl (by rw [← h.old i hl]; exact hi)
    · exact .inr (by omega), fun i hi => (k.old i (Nat.lt_of_lt_of_le hi h.kp.size)).trans (h.old i hi)⟩
theorem Cl.kp0 {col col' : Nat → Nat} {w w' : World} (h : Cl col col' w w') : Kp (fun k => col k ≠ 0) w w' := h.kp.mono fun _ e => e.1
theorem VsS.cl {w w' : World} {col col' : Nat → Nat} {s : S3} {vs : List Vtr} (h : VsS w col s vs) (hc : Cl col col' w w') : VsS w' col' s vs :=
  VsR.mono' (VsR.kp (VsR.mono' h (G' := fun k => col k = 4 ∧ k < w.heap.size) fun _ hk e => ⟨e, hk⟩) hc.kp fun _ e e2 => e2.2 e.1) fun _ _ e => (hc.old _ e.2).trans e.1
theorem RdS.cl {w w' : World} {col col' : Nat → Nat} {s : S3} {l : List UInt8} (h : RdS w col s l) (hc : Cl col col' w w') : RdS w' col' s l :=
  ⟨h.cap, (RdG.kp (G := fun k => col k = 4 ∧ k < w.heap.size) ⟨h.rd.1, fun hn => by obtain ⟨b, o, e, q1, q2, q3⟩ := h.rd.2 hn; exact ⟨b, o, e, ⟨q1, q2⟩, q2, q3⟩⟩ hc.kp fun _ e e2 => e2.2 e.1).mono fun _ e => (hc.old _ e.2).trans e.1⟩
/-- What is new is never changed. -/
def colN (col : Nat → Nat) (w w' : World) : Nat → Nat := fun k => if k < w.heap.size then col k else if k < w'.heap.size then 4 else 0
theorem colN_old (col : Nat → Nat) (w w' : World) : ∀ k, k < w.heap.size → colN col w w' k = col k := fun k hk => by unfold colN; rw [if_pos hk]
theorem colN_new {col : Nat → Nat} {w w' : World} {k : Nat} (h : w.heap.size ≤ k) (h' : k < w'.heap.size) : colN col w w' k = 4 := by unfold colN; rw [if_neg (by omega), if_pos h']
theorem colN_lt {col : Nat → Nat} {w w' : World} (hs : w.heap.size ≤ w'.heap.size) : ∀ k, colN col w w' k ≠ 0 → k < w'.heap.size := fun k hk => by
  unfold colN at hk
  split at hk
  · omega
  · split at hk
    · assumption
    · exact absurd rfl hk

section
variable {w w' : World} {col col' : Nat → Nat} {g N n sn sc rc : Nat} {A R : Option Addr} {np : Nat → Np} {es : List Mle} {r : Ro}
theorem RoC.m (h : RoC w col g N n A sn sc R rc np es r) : RoM w col g N n r := ⟨A, sn, sc, R, rc, np, es, h⟩
theorem RoC.kp {G : Nat → Prop} (h : RoC w col g N n A sn sc R rc np es r) (hk : Kp G w w') (hd : ∀ k, col k ≠ 0 → ¬ G k) : RoC w' col g N n A sn sc R rc np es r :=
  have h4 : ∀ k, col k = 4 → ¬ G k := fun k e => hd k (by omega)
  ⟨h.bk.kp hk (hd _ (by rw [h.cg]; decide)), h.nn, h.qi, h.sit.kp hk h4, h.sn6, h.nds.kp hk (hd _ (by rw [h.cN]; decide)), own_kp h.row hk fun k e => hd k (by rw [h.cR k e]; decide), fun e he => ⟨(h.each e he).1.kp hk h4, (h.each e he).2⟩, h.eq,
    fun i hi => (h.vv i hi).kp hk h4, fun i hi => (h.oo i hi).kp hk h4, fun i hi => (h.ll i hi).kp hk h4, fun i hi p hp => by obtain ⟨gp, h1, h2⟩ := h.pp i hi p hp; exact ⟨gp, h1, h2.kp hk fun k e => hd k (by omega)⟩, h.pn, h.cg, h.cN, h.cR, fun k hk2 => Nat.lt_of_lt_of_le (h.lt k hk2) hk.size, h.ok⟩
theorem RoC.below (h : RoC w col g N n A sn sc R rc np es r) (hb : Below w.heap.size w w') : RoC w' col g N n A sn sc R rc np es r := h.kp (G := fun _ => False) (Kp.of_below hb) fun _ _ h => h
theorem RoC.drewN (h : RoC w col g N n A sn sc R rc np es r) (q : Nat) : RoC (w.drewN q) col g N n A sn sc R rc np es r := h.kp (G := fun _ => False) (Kp.drewN _ w q) fun _ _ h => h
/-- The numbers of what is new. -/
theorem RoC.recol (h : RoC w col g N n A sn sc R rc np es r) (hc : ∀ k, col k ≠ 0 → col' k = col k) (hl : ∀ k, col' k ≠ 0 → k < w.heap.size) : RoC w col' g N n A sn sc R rc np es r :=
  have h4 : ∀ k, col k = 4 → col' k = 4 := fun k e => (hc k (by omega)).trans e
  ⟨h.bk, h.nn, h.qi, h.sit.mono h4, h.sn6, h.nds, h.row, fun e he => ⟨VsR.mono' (h.each e he).1 fun k _ e => h4 k e, (h.each e he).2⟩, h.eq, fun i hi => ⟨(h.vv i hi).cap, (h.vv i hi).rd.mono h4⟩, fun i hi => ⟨(h.oo i hi).cap, (h.oo i hi).rd.mono h4⟩, fun i hi => ⟨(h.ll i hi).cap, (h.ll i hi).rd.mono h4⟩,
    fun i hi p hp => by obtain ⟨gp, h1, h2⟩ := h.pp i hi p hp; exact ⟨gp, h1, h2.mono (fun k e => (hc k (by omega)).trans e) fun k e => hl k (by omega)⟩, h.pn, (hc g (by rw [h.cg]; decide)).trans h.cg, (hc N (by rw [h.cN]; decide)).trans h.cN,
    fun k e => (hc k (by rw [h.cR k e]; decide)).trans (h.cR k e), hl, h.ok⟩
/-- Only new blocks; they are never changed. -/
theorem RoC.newB (h : RoC w col g N n A sn sc R rc np es r) (hb : Below w.heap.size w w') : RoC w' (colN col w w') g N n A sn sc R rc np es r ∧ Cl col (colN col w w') w w' :=
  ⟨(h.below hb).recol (fun k hk => colN_old col w w' k (h.lt k hk)) (colN_lt hb.size), Kp.of_below hb, colN_old col w w'⟩
/-- A node turned. -/
theorem RoC.turn (h : RoC w col g N n A sn sc R rc np es r) {i : Nat} (hi : i < n) {x : Nd} {y : Np} (hc : ∀ k, k < w.heap.size → col' k = col k) (hl : ∀ k, col' k ≠ 0 → k < w'.heap.size)
    (hk : Kp (fun k => col k = 2 ∨ col k = 5 + i) w w') (hn : NdsM w' N n (fun j => if j = i then ndC x y else ndC (r.node j) (np j))) (hx : x.Ok r.q) (hv : RdS w' col' y.v x.vote.val) (ho : RdS w' col' y.o x.own) (hle : RdS w' col' y.l x.learned)
    (hp : ∀ p, x.pro = some p → ∃ gp, y.p = some gp ∧ PPM w' (fun k => col' k = 5 + i) gp p) (hp0 : x.pro = none → y.p = none) :
    RoC w' col' g N n A sn sc R rc (fun j => if j = i then y else np j) es (r.setN i x) ∧ Cl col col' w w' := by
  have hin : i < r.nodes.length := by rw [h.ok.len, ← h.nn]; exact hi
  have hno : ∀ j, (r.setN i x).node j = if j = i then x else r.node j := fun j => Ro.node_set r x hin j
  have h4 : ∀ k, col k = 4 → ¬ (col k = 2 ∨ col k = 5 + i) := fun k e => by omega
  have hcl : Cl col col' w w' := ⟨hk.mono fun k e => by omega, hc⟩
  have hlt := h.lt
  refine ⟨⟨h.bk.kp hk (by have := h.cg; omega), h.nn, h.qi, (h.sit.kp hk h4).mono (fun k e => (hc k (hlt k (by omega))).trans e), h.sn6, hn.congr (fun j k hj hk => ?_), own_kp h.row hk (fun k e => by have := h.cR k e; omega), fun e he => ⟨?_, (h.each e he).2⟩, h.eq, fun j hj => ?_, fun j hj => ?_, fun j hj => ?_, fun j hj p hpp => ?_, fun j hj hpp => ?_, (hc g h.bk.lt).trans h.cg, (hc N h.nds.lt).trans h.cN, fun k e => (hc k ((h.row.lt k e).2)).trans (h.cR k e), hl, h.ok.setN hx⟩, hcl⟩
  · rw [hno]
    by_cases e : j = i
    · rw [if_pos e, if_pos e, if_pos e]
    · rw [if_neg e, if_neg e, if_neg e]
  · have h1 := (h.each e he).1
    exact VsR.mono' (VsR.kp (VsR.mono' h1 (G' := fun k => col k = 4 ∧ k < w.heap.size) fun k hk e => ⟨e, hk⟩) hk fun k e => h4 k e.1) fun k _ e => (hc k e.2).trans e.1
  · rw [hno]
    by_cases e : j = i
    · rw [if_pos e, if_pos e]; exact hv
    · rw [if_neg e, if_neg e]
      have h1 := h.vv j hj
      exact ⟨h1.cap, (h1.rd.kp hk h4).mono fun k e => (hc k (hlt k (by omega))).trans e⟩
  · rw [hno]
    by_cases e : j = i
    · rw [if_pos e, if_pos e]; exact ho
    · rw [if_neg e, if_neg e]
      have h1 := h.oo j hj
      exact ⟨h1.cap, (h1.rd.kp hk h4).mono fun k e => (hc k (hlt k (by omega))).trans e⟩
  · rw [hno]
    by_cases e : j = i
    · rw [if_pos e, if_pos e]; exact hle
    · rw [if_neg e, if_neg e]
      have h1 := h.ll j hj
      exact ⟨h1.cap, (h1.rd.kp hk h4).mono fun k e => (hc k (hlt k (by omega))).trans e⟩
  · rw [hno] at hpp
    by_cases e : j = i
    · rw [if_pos e] at hpp ⊢
      rw [e]
      exact hp p hpp
    · rw [if_neg e] at hpp ⊢
      obtain ⟨gp, h1, h2⟩ := h.pp j hj p hpp
      exact ⟨gp, h1, (h2.kp hk fun k e2 => by omega).mono (fun k e => (hc k (hlt k (by omega))).trans e) fun k e => hl k (by omega)⟩
  · rw [hno] at hpp
    by_cases e : j = i
    · rw [if_pos e] at hpp ⊢; exact hp0 hpp
    · rw [if_neg e] at hpp ⊢; exact h.pn j hj hpp
theorem RoM.below (h : RoM w col g N n r) (hb : Below w.heap.size w w') : RoM w' col g N n r := by obtain ⟨A, sn, sc, R, rc, np, es, h⟩ := h; exact ⟨A, sn, sc, R, rc, np, es, h.below hb⟩
theorem RoM.kp {G : Nat → Prop} (h : RoM w col g N n r) (hk : Kp G w w') (hd : ∀ k, col k ≠ 0 → ¬ G k) : RoM w' col g N n r := by obtain ⟨A, sn, sc, R, rc, np, es, h⟩ := h; exact ⟨A, sn, sc, R, rc, np, es, h.kp hk hd⟩
theorem RoM.ok (h : RoM w col g N n r) : r.Ok := by obtain ⟨A, sn, sc, R, rc, np, es, h⟩ := h; exact h.ok
theorem RoM.lt (h : RoM w col g N n r) : ∀ k, col k ≠ 0 → k < w.heap.size := by obtain ⟨A, sn, sc, R, rc, np, es, h⟩ := h; exact h.lt
theorem RoM.nn (h : RoM w col g N n r) : n = r.nodes.length := by obtain ⟨A, sn, sc, R, rc, np, es, h⟩ := h; rw [h.ok.len]; exact h.nn
theorem RoC.elen (h : RoC w col g N n A sn sc R rc np es r) : es.length = r.row.length := by rw [← h.eq, List.length_map]
theorem RoC.nlen (h : RoC w col g N n A sn sc R rc np es r) : r.nodes.length = n := by rw [h.ok.len]; exact h.nn.symm
/-- The room's cells. -/
theorem RoC.cells (h : RoC w col g N n A sn sc R rc np es r) : w.cell? ⟨g, 0, none⟩ = some (.int .i64 r.q.kind) ∧ w.cell? ⟨g, 1, none⟩ = some (.int .i64 r.q.nodes) ∧ w.cell? ⟨g, 2, none⟩ = some (.int .i64 r.q.one) ∧ w.cell? ⟨g, 3, none⟩ = some (.int .i64 r.q.two) ∧ w.cell? ⟨g, 4, none⟩ = some (.slice A sn sc) ∧
    w.cell? ⟨g, 5, none⟩ = some (.slice (some ⟨N, 0, none⟩) n n) ∧ w.cell? ⟨g, 6, none⟩ = some (.slice R r.row.length rc) := by
  have e : r.row.length = es.length := h.elen.symm
  rw [e]
  exact ⟨h.bk.cell 0, h.bk.cell 1, h.bk.cell 2, h.bk.cell 3, h.bk.cell 4, h.bk.cell 5, h.bk.cell 6⟩
/-- A letter's cells. -/
theorem RoC.letter (h : RoC w col g N n A sn sc R rc np es r) (i : Nat) (hi : i < es.length) : ∃ b, R = some ⟨b, 0, none⟩ ∧ es.length ≤ rc ∧ rc ≤ maxLen ∧ w.cell? ⟨b, i * 6, none⟩ = some (.int .i64 (es[i].1.kind : Int)) ∧ w.cell? ⟨b, i * 6 + 1, none⟩ = some (.int .i64 (es[i].1.frm : Int)) ∧ w.cell? ⟨b, i * 6 + 2, none⟩ = some (.int .i64 (es[i].1.dst : Int)) ∧
    w.cell? ⟨b, i * 6 + 3, none⟩ = some (.int .u64 (es[i].1.bal.n : Int)) ∧ w.cell? ⟨b, i * 6 + 4, none⟩ = some (.int .i64 es[i].1.bal.node) ∧ w.cell? ⟨b, i * 6 + 5, none⟩ = some (.slice es[i].2.1.1 es[i].2.1.2.1 es[i].2.1.2.2) := by
  rcases h.row.2 with ⟨_, h0⟩ | ⟨b, cap, cur, hv, _, hh, h1, h2, _⟩
  · omega
  · injection hv with e1 e2 e3
    subst e3
    have q := fun j (hj : j < 6) u (hu : (mlE es[i])[j]? = some u) => h.row.cells (g := b) (by rw [e1]; rfl) (i * 6 + j) u (by rw [mlC_at es i j hi hj]; exact hu)
    have q0 := q 0 (by omega) _ rfl
    have q1 := q 1 (by omega) _ rfl
    have q2 := q 2 (by omega) _ rfl
    have q3 := q 3 (by omega) _ rfl
    have q4 := q 4 (by omega) _ rfl
    have q5 := q 5 (by omega) _ rfl
    rw [Addr.add_lit, Nat.zero_add] at q0 q1 q2 q3 q4 q5
    exact ⟨b, e1, h1, h2, q0, q1, q2, q3, q4, q5⟩
end
end Go.Proofs.Ytjapmolmgfaocaa

/- The program's room: what only looks: find, Len, isThere; a node's promise. -/
namespace Go.Proofs.Ytjapmolmgfaocaa
open Go.RowKit Go.Maps

def nodeP (N : Nat) (r : Ro) (a : Int) : Value := if r.has a then .pointer (some ⟨N, a.toNat * 13, none⟩) else .pointer none
theorem idx_if (k : Nat) : (if k = 0 then 0 else k * 13) = k * 13 := by split <;> omega
section
variable {w : World} {col : Nat → Nat} {g N n sn sc rc : Nat} {A R : Option Addr} {np : Nat → Np} {es : List Mle} {r : Ro}
set_option maxRecDepth 100000 in
set_option maxHeartbeats 1000000 in
theorem find_any (h : RoC w col g N n A sn sc R rc np es r) (a : Int) : Calls Try.prog 30 #[.pointer (some ⟨g, 0, none⟩), .int .i64 a] w fun e w' => e = .returned (nodeP N r a) ∧ w = w' := by
  have c5 := h.cells.2.2.2.2.2.1
  have hn := h.nlen
  by_cases h1 : 0 ≤ a
  · by_cases h2 : a < (n : Int)
    · have hp : nodeP N r a = .pointer (some ⟨N, a.toNat * 13, none⟩) := by unfold nodeP; rw [if_pos (Ro.has_iff.2 ⟨h1, by omega⟩)]
      obtain ⟨k, rfl⟩ := Int.eq_ofNat_of_zero_le h1
      rw [hp, Int.toNat_natCast]
      have h1' : ¬ (k : Int) < 0 := by omega
      have h2' : ¬ (n : Int) ≤ (k : Int) := by omega
      have h3' : k < n := by omega
      clear h hp h1 hn
      go_enter Try.func30, Try.ntmps30
      go_wp2
      go_ret
      exact ⟨by first | rfl | simp, rfl⟩
    · have hp : nodeP N r a = .pointer none := by unfold nodeP; rw [if_neg (by rw [Ro.has_iff]; omega)]
      rw [hp]
      have h1' : ¬ a < 0 := by omega
      have h2' : (n : Int) ≤ a := by omega
      clear h hp hn
      go_enter Try.func30, Try.ntmps30
      go_wp2
      go_ret
      exact ⟨rfl, rfl⟩
  · have hp : nodeP N r a = .pointer none := by unfold nodeP; rw [if_neg (by rw [Ro.has_iff]; omega)]
    rw [hp]
    have h1' : a < 0 := by omega
    clear h hp hn
    go_enter Try.func30, Try.ntmps30
    go_wp2
    go_ret
    exact ⟨rfl, rfl⟩
set_option maxRecDepth 100000 in
set_option maxHeartbeats 1000000 in
theorem find_nil (w : World) (a : Int) : Calls Try.prog 30 #[.pointer none, .int .i64 a] w fun e w' => e = .returned (.pointer none) ∧ w = w' := by
  go_enter Try.func30, Try.ntmps30
  go_wp2
  go_ret
  exact ⟨rfl, rfl⟩
set_option maxRecDepth 100000 in
set_option maxHeartbeats 1000000 in
theorem rlen_any (h : RoC w col g N n A sn sc R rc np es r) : Calls Try.prog 19 #[.pointer (some ⟨g, 0, none⟩)] w fun e w' => e = .returned (.int .i64 (r.row.length : Int)) ∧ w = w' := by
  have c6 := h.cells.2.2.2.2.2.2
  clear h
  go_enter Try.func19, Try.ntmps19
  go_wp2
  go_ret
  exact ⟨rfl, rfl⟩
set_option maxRecDepth 100000 in
set_option maxHeartbeats 1000000 in
theorem rlen_nil (w : World) : Calls Try.prog 19 #[.pointer none] w fun e w' => e = .returned (.int .i64 0) ∧ w = w' := by
  go_enter Try.func19, Try.ntmps19
  go_wp2
  go_ret
  exact ⟨rfl, rfl⟩
set_option maxRecDepth 100000 in
set_option maxHeartbeats 1000000 in
theorem there_any (h : RoC w col g N n A sn sc R rc np es r) (a : Int) : Calls Try.prog 33 #[.pointer (some ⟨g, 0, none⟩), .int .i64 a] w fun e w' => e = .returned (.bool (r.is a)) ∧ w = w' := by
  have HL := Lib.hid (rlen_any h)
  unfold Ro.is
  clear h
  by_cases h1 : 0 ≤ a
  · go_enter Try.func33, Try.ntmps33
    go_wp2_with fail
    refine HL.out.mono ?_
    rintro e w' ⟨rfl, rfl⟩
    go_wp2
    go_ret
    exact ⟨by simp [h1], rfl⟩
  · go_enter Try.func33, Try.ntmps33
    go_wp2
    go_ret
    exact ⟨by rw [decide_eq_false (show ¬ 0 ≤ a by omega)]; rfl, rfl⟩
set_option maxRecDepth 100000 in
set_option maxHeartbeats 1000000 in
theorem there_nil (w : World) (a : Int) : Calls Try.prog 33 #[.pointer none, .int .i64 a] w fun e w' => e = .returned (.bool false) ∧ w = w' := by
  have HL := Lib.hid (rlen_nil w)
  by_cases h1 : 0 ≤ a
  · have h2 : ¬ a < 0 := by omega
    go_enter Try.func33, Try.ntmps33
    go_wp2_with fail
    refine HL.out.mono ?_
    rintro e w' ⟨rfl, rfl⟩
    go_wp2
    go_ret
    exact ⟨by first | rfl | (simp; omega), rfl⟩
  · go_enter Try.func33, Try.ntmps33
    go_wp2
    go_ret
    exact ⟨by simp, rfl⟩
/-- What a call that turned a node leaves. -/
def NodeR (w : World) (col : Nat → Nat) (g N n : Nat) (r : Ro) (ans : Value) (e : Ending) (w' : World) : Prop := e = .returned ans ∧ ∃ col', RoM w' col' g N n r ∧ Cl col col' w w'
theorem Nd.promise_t {x : Nd} {b : Bl} (h : Bl.less b x.prom = false) : x.promise b = (true, { x with seen := max x.seen b.n, prom := b }) := by unfold Nd.promise; rw [if_neg (by rw [h]; decide)]
theorem Nd.promise_f {x : Nd} {b : Bl} (h : Bl.less b x.prom = true) : x.promise b = (false, { x with seen := max x.seen b.n }) := by unfold Nd.promise; rw [if_pos h]
theorem thirteen {k : Nat} (h : k < 13) : k = 0 ∨ k = 1 ∨ k = 2 ∨ k = 3 ∨ k = 4 ∨ k = 5 ∨ k = 6 ∨ k = 7 ∨ k = 8 ∨ k = 9 ∨ k = 10 ∨ k = 11 ∨ k = 12 := by omega
/-- A node of which only numbers and what it knows turned. -/
theorem RoC.turnN {w' : World} (h : RoC w col g N n A sn sc R rc np es r) {i : Nat} (hi : i < n) {x : Nd} (hb : Below w.heap.size w w') {w2 : World} (hk : Kp (fun k => k = N) w' w2) (hn : NdsM w2 N n (fun j => if j = i then ndC x (np i) else ndC (r.node j) (np j))) (hx : x.Ok r.q)
    (e1 : x.vote = (r.node i).vote) (e2 : x.own = (r.node i).own) (e3 : x.learned = (r.node i).learned) (e4 : x.pro = (r.node i).pro) : RoM w2 col g N n (r.setN i x) ∧ Cl col col w w2 := by
  have hk2 : Kp (fun k => col k = 2 ∨ col k = 5 + i) w w2 := (Kp.of_below hb).trans' (hk.mono fun k e => e) fun k e => .inl (.inl (by rw [e]; exact h.cN))
  have h4 : ∀ k, col k = 4 → ¬ (col k = 2 ∨ col k = 5 + i) := fun k e => by omega
  have hs := hk2.size
  obtain ⟨q1, q2⟩ := h.turn (y := np i) (x := x) hi (fun k _ => rfl) (fun k hk => Nat.lt_of_lt_of_le (h.lt k hk) hs) hk2 hn hx (by rw [e1]; exact (h.vv i hi).kp hk2 h4) (by rw [e2]; exact (h.oo i hi).kp hk2 h4) (by rw [e3]; exact (h.ll i hi).kp hk2 h4)
    (fun p hp => by
      rw [e4] at hp
      obtain ⟨gp, g1, g2⟩ := h.pp i hi p hp
      refine ⟨gp, g1, (g2.below hb).kp hk fun k e e2 => ?_⟩
      have := h.cN
      rw [e2] at e
      omega) (fun hp => h.pn i hi (by rw [← e4]; exact hp))
  exact ⟨q1.m, q2⟩
set_option maxRecDepth 100000 in
set_option maxHeartbeats 2000000 in
theorem promise_any (h : RoC w col g N n A sn sc R rc np es r) (i : Nat) (hi : i < n) (b : Bl) (hb : b.Fine r.q.n) : Calls Try.prog 45 #[.pointer (some ⟨N, i * 13, none⟩), blV b] w (NodeR w col g N n (r.setN i ((r.node i).promise b).2) (.bool ((r.node i).promise b).1)) := by
  obtain ⟨W1, hW1⟩ : ∃ W1, W1 = w.alloc (.cells #[.int .u64 (b.n : Int), .int .i64 b.node] 44) := ⟨_, rfl⟩
  have hb0 : Below w.heap.size w W1 := by rw [hW1]; exact bel1P _
  have hkb : Bk W1 w.heap.size 44 #[.int .u64 (b.n : Int), .int .i64 b.node] := by rw [hW1]; exact Bk.new w _ _
  have k0 : W1.cell? ⟨w.heap.size, 0, none⟩ = some (.int .u64 (b.n : Int)) := hkb.cell 0
  have h1 := h.below hb0
  have hx := (h.ok.nodes _ (Ro.node_mem (r := r) (i := i) (by rw [h.nlen]; exact hi))).promise hb
  have c6 : W1.cell? ⟨N, i * 13 + 6, none⟩ = some (.int .u64 ((r.node i).seen : Int)) := h1.nds.cell (k := 6) hi (by omega)
  have f6 := h1.nds.frozen (i * 13 + 6)
  have HL : Hid (∀ W, Calls Try.prog 54 #[blV b, blV (r.node i).prom] W fun e w' => e = .returned (.bool (Bl.less b (r.node i).prom)) ∧ Below W.heap.size W w') := Lib.hid fun W => aless_any _ _ W
  have hmx : (max ((r.node i).seen : Int) (b.n : Int)) = ((max (r.node i).seen b.n : Nat) : Int) := by omega
  have hbw : IntKind.u64.wrap ((max (r.node i).seen b.n : Nat) : Int) = ((max (r.node i).seen b.n : Nat) : Int) := by
    have := hb.n1
    have := (h.ok.nodes _ (Ro.node_mem (r := r) (i := i) (by rw [h.nlen]; exact hi))).seen
    rw [IntKind.wrap_u64]; omega
  have Hx := Lib.hid hx
  have HC := Lib.hid h
  have HW := Lib.hid hW1
  have HB0 := Lib.hid hb0
  have Hg : Hid (N ≠ w.heap.size) := Lib.hid (fun e => by have := h.nds.lt; omega)
  have HN := Lib.hid (h1.nds.set_ (k := 6) hi (by omega) (.int .u64 ((max (r.node i).seen b.n : Nat) : Int)))
  have HK : Hid (Bk W1 w.heap.size 44 #[.int .u64 (b.n : Int), .int .i64 b.node]) := Lib.hid hkb
  obtain ⟨X, hX⟩ : ∃ X, r.node i = X := ⟨_, rfl⟩
  rw [hX] at c6 HL hmx hbw Hx HN ⊢
  have HX := Lib.hid hX
  obtain ⟨mx, hm⟩ : ∃ mx, max X.seen b.n = mx := ⟨_, rfl⟩
  rw [hm] at hmx hbw HN
  have Hm := Lib.hid hm
  clear h h1 hx hW1 hb0 hkb hX hm
  obtain ⟨bn, bd⟩ := b
  obtain ⟨pr, hpr⟩ : ∃ pr, X.prom = pr := ⟨_, rfl⟩
  rw [hpr] at HL
  obtain ⟨pn, pd⟩ := pr
  have Hpr := Lib.hid hpr
  clear hpr
  obtain ⟨sn1, hsn⟩ : ∃ sn1, X.seen = sn1 := ⟨_, rfl⟩
  rw [hsn] at c6 hmx
  clear hsn
  unfold blV at HL ⊢
  dsimp only at *
  go_enter Try.func45, Try.ntmps45
  go_upto_region 1 with (fail)
  rw [← HW.out]
  go_wp2_with fail
  go_region
  obtain ⟨w2, hw2⟩ : ∃ w2, w2 = (W1.setCell ⟨N, i * 13 + 6, none⟩ (.int .u64 (mx : Int))).drew := ⟨_, rfl⟩
  rw [← hw2]
  have hk12 : Kp (fun k => k = N) W1 w2 := by rw [hw2]; exact (Kp.set_ (F := fun k => k = N) (p := ⟨N, i * 13 + 6, none⟩) rfl _).trans (Kp.drew _ _)
  have hn2 : NdsM w2 N n (fun j => if j = i then fun m => if m = 6 then .int .u64 (mx : Int) else ndC X (np i) m else ndC (r.node j) (np j)) := by rw [hw2]; exact HN.out.kp (Kp.drew (fun _ => False) _) (fun h => h)
  have hb2 := HK.out.kp hk12 (fun e => Hg.out e.symm)
  have b0 : w2.cell? ⟨w.heap.size, 0, none⟩ = some (.int .u64 (bn : Int)) := hb2.cell 0
  have b1 : w2.cell? ⟨w.heap.size, 1, none⟩ = some (.int .i64 bd) := hb2.cell 1
  have c0 : w2.cell? ⟨N, i * 13, none⟩ = some (.int .u64 (pn : Int)) := by rw [hn2.cell0 hi, if_pos rfl, if_neg (by decide)]; show some (Value.int .u64 (X.prom.n : Int)) = _; rw [Hpr.out]
  have c1 : w2.cell? ⟨N, i * 13 + 1, none⟩ = some (.int .i64 pd) := by rw [hn2.cell (k := 1) hi (by omega), if_pos rfl, if_neg (by decide)]; show some (Value.int .i64 X.prom.node) = _; rw [Hpr.out]
  have HN2 := Lib.hid hn2
  have HB2 := Lib.hid hb2
  have HK12 := Lib.hid hk12
  have hzz := hk12.size
  clear hk12 hn2 hb2 hw2 HN HK c6 f6 k0 hmx hbw
  go_wp2_with fail
  go_still_tail 5, (by kernel_rfl)
  change wpList _ _ _ _ _ w2.drew
  go_wp2_with fail
  refine (HL.out _).mono ?_
  rintro e w3 ⟨rfl, hb3⟩
  have hb3 : Below w2.heap.size w2 w3 := bel_of_drewN (q := 1) hb3
  cases hl : Bl.less ⟨bn, bd⟩ ⟨pn, pd⟩ with
  | true =>
    have hp : X.promise ⟨bn, bd⟩ = (false, { X with seen := mx }) := by rw [Nd.promise_f (by rw [Hpr.out]; exact hl), Hm.out]
    have Hx := Hx.out
    rw [hp] at Hx
    have Hp := Lib.hid hp
    clear hp
    have HT : Hid (RoM w3 col g N n (r.setN i { X with seen := mx }) ∧ Cl col col w w3) := Lib.hid (by
      refine HC.out.turnN hi (x := { X with seen := mx }) HB0.out (HK12.out.trans ((Kp.of_below hb3).mono fun _ h => h)) ((HN2.out.kp (Kp.of_below (F := fun _ => False) hb3) (fun h => h)).congr fun j k hj hk => ?_) Hx ?_ ?_ ?_ ?_
      · by_cases e : j = i
        · rw [if_pos e, if_pos e]
          rcases thirteen hk with rfl | rfl | rfl | rfl | rfl | rfl | rfl | rfl | rfl | rfl | rfl | rfl | rfl <;> rfl
        · rw [if_neg e, if_neg e]
      all_goals rw [HX.out])
    clear hb3 Hx HC HN2 HK12 HB2 HX Hpr HB0 Hg hb
    go_wp2
    go_ret
    rw [Hp.out]
    exact ⟨rfl, col, HT.out⟩
  | false =>
    have hp : X.promise ⟨bn, bd⟩ = (true, { X with seen := mx, prom := ⟨bn, bd⟩ }) := by rw [Nd.promise_t (by rw [Hpr.out]; exact hl), Hm.out]
    have Hx := Hx.out
    rw [hp] at Hx
    have Hp := Lib.hid hp
    clear hp
    have hn3 := HN2.out.kp (Kp.of_below (F := fun _ => False) hb3) (fun h => h)
    have hb33 := HB2.out.below hb3 HB2.out.lt
    have d0 : w3.cell? ⟨w.heap.size, 0, none⟩ = some (.int .u64 (bn : Int)) := hb33.cell 0
    have d1 : w3.cell? ⟨w.heap.size, 1, none⟩ = some (.int .i64 bd) := hb33.cell 1
    have e0 : w3.cell? ⟨N, i * 13, none⟩ = some (.int .u64 (pn : Int)) := by rw [hn3.cell0 hi, if_pos rfl, if_neg (by decide)]; show some (Value.int .u64 (X.prom.n : Int)) = _; rw [Hpr.out]
    have e1 : w3.cell? ⟨N, i * 13 + 1, none⟩ = some (.int .i64 pd) := by rw [hn3.cell (k := 1) hi (by omega), if_pos rfl, if_neg (by decide)]; show some (Value.int .i64 X.prom.node) = _; rw [Hpr.out]
    have g0 := hn3.frozen (i * 13)
    have g1 := hn3.frozen (i * 13 + 1)
    have HT : Hid (RoM ((w3.setCell ⟨N, i * 13, none⟩ (.int .u64 (bn : Int))).setCell ⟨N, i * 13 + 1, none⟩ (.int .i64 bd)) col g N n (r.setN i { X with seen := mx, prom := ⟨bn, bd⟩ }) ∧ Cl col col w ((w3.setCell ⟨N, i * 13, none⟩ (.int .u64 (bn : Int))).setCell ⟨N, i * 13 + 1, none⟩ (.int .i64 bd))) := Lib.hid (by
      refine HC.out.turnN hi (x := { X with seen := mx, prom := ⟨bn, bd⟩ }) HB0.out ((HK12.out.trans ((Kp.of_below hb3).mono fun _ h => h)).trans ((Kp.set_ (F := fun k => k = N) (p := ⟨N, i * 13, none⟩) rfl _).trans (Kp.set_ (F := fun k => k = N) (p := ⟨N, i * 13 + 1, none⟩) rfl _))) (((hn3.set0 hi _).set_ (k := 1) hi (by omega) _).congr fun j k hj hk => ?_) Hx ?_ ?_ ?_ ?_
      · by_cases e : j = i
        · simp only [if_pos e]
          rcases thirteen hk with rfl | rfl | rfl | rfl | rfl | rfl | rfl | rfl | rfl | rfl | rfl | rfl | rfl <;> rfl
        · simp only [if_neg e]
      all_goals rw [HX.out])
    clear hb3 Hx HC HN2 HK12 HB2 HX Hpr HB0 Hg hb hn3 hb33
    go_wp2
    go_ret
    rw [Hp.out]
    exact ⟨rfl, col, HT.out⟩
end
end Go.Proofs.Ytjapmolmgfaocaa
