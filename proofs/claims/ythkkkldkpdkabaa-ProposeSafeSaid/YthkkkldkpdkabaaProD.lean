/- The program's proposer: mayBe. -/
import Derived.Test.YthkkkldkpdkabaaProA
import Derived.Deep.LoopGhost
import Derived.WalkMore
import Derived.Deep.CutRange
import Derived.Deep.DeepCutAuto
import Derived.Deep.RegionLaw
import Derived.StillTailTactics
namespace Go.Proofs.Ythkkkldkpdkabaa
open Go.RowKit Go.Maps

/-- The least slot that the vote at k may have. -/
def loAt (s : Nat) (l : List Vt) : Nat → Nat
  | 0 => s
  | k + 1 => (l[k]?.map (·.slot)).getD 0 + 1
theorem mayL_at (b : Bl) (s : Nat) (l : List Vt) (k : Nat) (hk : k < l.length) : mayL b (loAt s l k) (l.drop k) = (okV b (loAt s l k) l[k] && mayL b (loAt s l (k + 1)) (l.drop (k + 1))) := by
  rw [List.drop_eq_getElem_cons hk, mayL_cons]
  congr 2
  unfold loAt
  simp [hk]
def MayI (b : Bl) (s : Nat) (l : List Vt) (k : Nat) : Prop := mayL b s l = mayL b (loAt s l k) (l.drop k)
section
variable {w : World} {F G : Nat → Prop} {g bt bp n c N C : Nat} {A B : Option Addr} {p : Pp} {ts : List Tle} {ps : List Pze} {es : List Vtr}
set_option maxRecDepth 100000 in
set_option maxHeartbeats 8000000 in
theorem mayBe_any (h : PPm w F g bt bp A n c p ts ps) (hv : VsR w G B N C es) (hN : N < 4611686018427387904) :
    Calls Try.prog 49 #[.pointer (some ⟨g, 0, none⟩), .slice B N C] w fun e w' => e = .returned (.bool (mayL p.bal p.base (es.map (·.1)))) ∧ Below w.heap.size w w' := by
  have HC : Hid (∀ W, Below w.heap.size w W → W.cell? ⟨g, 5, none⟩ = some (.int .u64 (p.bal.n : Int)) ∧ W.cell? ⟨g, 6, none⟩ = some (.int .i64 p.bal.node) ∧ W.cell? ⟨g, 7, none⟩ = some (.int .u64 (p.base : Int))) := Lib.hid fun W hb => by
    obtain ⟨_, _, _, _, _, a, b, d, _⟩ := (h.below hb).cells
    exact ⟨a, b, d⟩
  obtain ⟨l, hl⟩ : ∃ l, l = es.map (·.1) := ⟨_, rfl⟩
  have hlen : l.length = N := by rw [hl, List.length_map]; exact hv.len
  rw [← hl]
  have HI0 : Hid (MayI p.bal p.base l 0) := Lib.hid rfl
  have HRes : Hid (mayL p.bal p.base l = mayL p.bal p.base l) := Lib.hid rfl
  have HBal : Hid (∀ W (b : Bl), Calls Try.prog 62 #[blV b, blV p.bal] W fun e w' => e = .returned (.bool (Bl.less b p.bal)) ∧ Below W.heap.size W w') := Lib.hid fun W b => aless_any b p.bal W
  have HRg : Hid (∀ W (b : Bl), Calls Try.prog 32 #[blV b] W fun e w' => e = .returned (.bool b.right) ∧ Below W.heap.size W w') := Lib.hid fun W b => aright_any b W
  generalize hbal : p.bal = bal at *
  generalize p.base = base at *
  obtain ⟨pn, pd⟩ := bal
  dsimp only at HC
  have HL := Lib.hid hlen
  rcases Nat.eq_zero_or_pos N with h0 | h0
  · subst h0
    obtain rfl : l = [] := List.eq_nil_of_length_eq_zero hlen
    clear h hv hlen hl hN hbal HC HI0 HRes HBal HRg HL
    go_enter Try.func49, Try.ntmps49
    go_wp2_with fail
    go_step3
    go_wp2_with fail
    go_step3
    go_wp2_with fail
    go_loopg [5, 10] 0 (fun gk s i wr => s = .int .i64 0 ∧ i = .int .i64 0 ∧ gk = 0 ∧ wr = w)
    case atStart => exact ⟨rfl, rfl, rfl, rfl⟩
    case round =>
      obtain ⟨rfl, rfl, rfl, rfl⟩ := hrel
      go_wp2
      rw [Exit.noGoto_ret]
      go_ret
      exact ⟨rfl, Below.refl _ _⟩
  obtain ⟨R, o, rfl, -, -, -⟩ := hv.row h0
  have HV : Hid (∀ W, Below w.heap.size w W → ∀ k (hk : k < l.length), ∃ x : Option Addr × Nat × Nat, l[k].val.length = x.2.1 ∧ x.2.1 ≤ x.2.2 ∧ x.2.2 ≤ 9223372036854775807 ∧ W.cell? ⟨R, o + k * 4, none⟩ = some (.int .u64 (l[k].slot : Int)) ∧ W.cell? ⟨R, o + k * 4 + 1, none⟩ = some (.int .u64 (l[k].bal.n : Int)) ∧
      W.cell? ⟨R, o + k * 4 + 2, none⟩ = some (.int .i64 l[k].bal.node) ∧ W.cell? ⟨R, o + k * 4 + 3, none⟩ = some (.slice x.1 x.2.1 x.2.2)) := Lib.hid fun W hb k hk => by
    subst hl
    obtain ⟨R', o', e, _, _, hc⟩ := (hv.below hb).row h0
    injection e with e
    injection e with e1 e2
    subst e1 e2
    have hk' : k < es.length := by simpa using hk
    obtain ⟨c0, c1, c2, c3⟩ := hc k hk'
    obtain ⟨a1, a2, a3, _⟩ := hv.each _ (List.getElem_mem hk')
    rw [List.getElem_map]
    exact ⟨es[k].2, a3.1, a1, a2, c0, c1, c2, c3⟩
  clear h hv hl hlen
  have HB0 := Lib.hid hbal
  clear hbal
  go_enter Try.func49, Try.ntmps49
  go_wp2_with fail
  go_step3
  go_wp2_with fail
  go_step3
  go_wp2_with fail
  go_loopg [5, 10] N (fun gk s i wr => ∃ k : Nat, s = .int .i64 (k : Int) ∧ i = .int .i64 (k : Int) ∧ k + gk = N ∧ Hid (MayI ⟨pn, pd⟩ base l k ∧ base ≤ loAt base l k) ∧ Hid (Below w.heap.size w wr))
  case atStart => exact ⟨0, rfl, rfl, by omega, Lib.hid ⟨HI0.out, Nat.le_refl _⟩, Lib.hid (Below.refl _ _)⟩
  case round =>
    obtain ⟨k, rfl, rfl, hkg, HI, HB⟩ := hrel
    by_cases hk : k < N
    · have hkl : k < l.length := by rw [HL.out]; exact hk
      have hmay := mayL_at ⟨pn, pd⟩ base l k hkl
      obtain ⟨x, hx1, hx2, hx3, c0, c1, c2, c3⟩ := HV.out wr HB.out k hkl
      have HNx : Hid (∀ e, okV ⟨pn, pd⟩ (loAt base l k) l[k] = e → mayL ⟨pn, pd⟩ base l = (e && mayL ⟨pn, pd⟩ (loAt base l (k + 1)) (l.drop (k + 1)))) := Lib.hid fun e he => by
        have := HI.out.1
        unfold MayI at this
        rw [this, hmay, he]
      have hnext : loAt base l (k + 1) = l[k].slot + 1 := by unfold loAt; simp [hkl]
      have HNext := Lib.hid hnext
      clear hmay hnext
      have HLo : Hid ((k = 0 ∧ loAt base l k = base) ∨ ∃ j prev, k = j + 1 ∧ loAt base l k = prev + 1 ∧ ∀ W, Below w.heap.size w W → W.cell? ⟨R, o + j * 4, none⟩ = some (.int .u64 (prev : Int))) := Lib.hid (by
        cases k with
        | zero => exact .inl ⟨rfl, rfl⟩
        | succ j =>
          have hj : j < l.length := by omega
          refine .inr ⟨j, l[j].slot, rfl, by unfold loAt; simp [hj], fun W hb => ?_⟩
          obtain ⟨_, _, _, _, d0, _⟩ := HV.out W hb j hj
          exact d0)
      have hlb := HI.out.2
      generalize loAt base l k = lo at *
      generalize hrest : mayL ⟨pn, pd⟩ (loAt base l (k + 1)) (l.drop (k + 1)) = rest at *
      have HRst := Lib.hid hrest
      clear hrest
      generalize l[k] = vk at *
      obtain ⟨sl, ⟨bn, bd⟩, vv⟩ := vk
      obtain ⟨xA, xn, xc⟩ := x
      dsimp only at *
      obtain ⟨w3, hw3⟩ : ∃ w3, w3 = wr.alloc (.cells #[.int .u64 (sl : Int), .int .u64 (bn : Int), .int .i64 bd, .slice xA xn xc] 48) := ⟨_, rfl⟩
      have hb3 : Below w.heap.size w w3 := by rw [hw3]; exact HB.out.alloc HB.out.size _
      have hk3 : Bk w3 wr.heap.size 48 #[.int .u64 (sl : Int), .int .u64 (bn : Int), .int .i64 bd, .slice xA xn xc] := by rw [hw3]; exact Bk.new wr _ _
      have HY : Hid (∀ W, Below w3.heap.size w3 W → W.cell? ⟨wr.heap.size, 0, none⟩ = some (.int .u64 (sl : Int)) ∧ W.cell? ⟨wr.heap.size, 1, none⟩ = some (.int .u64 (bn : Int)) ∧ W.cell? ⟨wr.heap.size, 2, none⟩ = some (.int .i64 bd) ∧ W.cell? ⟨wr.heap.size, 3, none⟩ = some (.slice xA xn xc)) := Lib.hid fun W hb => by
        have hk := hk3.below hb hk3.lt
        exact ⟨hk.cell 0, hk.cell 1, hk.cell 2, hk.cell 3⟩
      have HW3 := Lib.hid hw3
      have HB3 := Lib.hid hb3
      clear hw3 hb3 hk3
      go_upto_region 5 with (fail)
      rw [← HW3.out]
      obtain ⟨y0, y1, y2, y3⟩ := HY.out w3 (Below.refl _ _)
      obtain ⟨g5, g6, g7⟩ := HC.out w3 HB3.out
      clear c0 c1 c2 c3
      go_quiet (fail)
      go_upto_if 15 with (fail)
      go_cut [10, 15] from 10 to 56 (fun i b wx => i = .int .i64 (k : Int) ∧ b = .bool (decide (sl < lo)) ∧ Below w3.heap.size w3 wx)
      case first =>
        by_cases h1 : sl < base
        · have h1' : (sl : Int) < (base : Int) := by omega
          have hd : Hid (decide (sl < lo) = true) := Lib.hid (decide_eq_true (by omega))
          go_wp2
          go_meet
          exact ⟨rfl, by rw [hd.out, decide_eq_true h1], by (repeat' (first | exact Below.refl _ _ | apply bel_drewN))⟩
        · have h1' : ¬ (sl : Int) < (base : Int) := by omega
          rcases HLo.out with ⟨rfl, rfl⟩ | ⟨j, prev, rfl, rfl, hpc⟩
          · have hd : Hid (decide (sl < lo) = false) := Lib.hid (decide_eq_false h1)
            go_wp2_with fail
            go_quiet (fail)
            go_wp2
            go_meet
            exact ⟨rfl, by rw [hd.out], by (repeat' (first | exact Below.refl _ _ | apply bel_drewN))⟩
          · have p0 := hpc w3 HB3.out
            have e0 : (0 : Int) < ((j + 1 : Nat) : Int) := by omega
            have e1 : IntKind.i64.wrap (((j + 1 : Nat) : Int) - 1) = (j : Int) := by rw [IntKind.wrap_i64]; omega
            have e2 : (0 : Int) ≤ ((j + 1 : Nat) : Int) - 1 := by omega
            have e3 : (((j + 1 : Nat) : Int) - 1).toNat = j := by omega
            have e4 : ((j + 1 : Nat) : Int) - 1 < (N : Int) := by omega
            have e5 : j < N := by omega
            by_cases h2 : sl ≤ prev
            · have h2' : (sl : Int) ≤ (prev : Int) := by omega
              have hd : Hid (decide (sl < prev + 1) = true) := Lib.hid (decide_eq_true (by omega))
              clear hpc
              go_wp2_with fail
              go_quiet (fail)
              go_wp2
              go_meet
              exact ⟨rfl, by rw [hd.out], by (repeat' (first | exact Below.refl _ _ | apply bel_drewN))⟩
            · have h2' : ¬ (sl : Int) ≤ (prev : Int) := by omega
              have hd : Hid (decide (sl < prev + 1) = false) := Lib.hid (decide_eq_false (by omega))
              clear hpc
              go_wp2_with fail
              go_quiet (fail)
              go_wp2
              go_meet
              exact ⟨rfl, by rw [hd.out], by (repeat' (first | exact Below.refl _ _ | apply bel_drewN))⟩
      case rest =>
        obtain ⟨rfl, rfl, hb4⟩ := hcut
        have HB4 := Lib.hid (below_then HB3.out hb4)
        have HY4 := Lib.hid (fun W (hb : Below wc.heap.size wc W) => HY.out W (below_then hb4 hb))
        obtain ⟨_, z0, z1, _⟩ := HY.out wc hb4
        clear HY HLo hb4 y0 y1 y2 y3 g5 g6 g7
        unfold okV at HNx
        dsimp only at HNx
        obtain ⟨w4, hw4⟩ : ∃ w4, w4 = wc := ⟨_, rfl⟩
        subst hw4
        by_cases h1 : sl < lo
        · have hd : mayL ⟨pn, pd⟩ base l = false := by
            have := HNx.out false (by rw [decide_eq_false (by omega)]; rfl)
            rw [this]; rfl
          have HD := Lib.hid hd
          rw [decide_eq_true h1]
          clear hd HNx HNext HBal HRg z0 z1 HY4
          go_wp2
          rw [Exit.noGoto_ret]
          go_ret
          have hne : ¬ (k : Int) = (N : Int) := by omega
          exact ⟨by rw [HD.out]; simp; omega, HB4.out⟩
        · have HN1 : Hid (∀ e, (Bl.right ⟨bn, bd⟩ && (Bl.less ⟨bn, bd⟩ ⟨pn, pd⟩ && decide (vv.length ≤ 100))) = e → mayL ⟨pn, pd⟩ base l = (e && rest)) := Lib.hid fun e he => HNx.out e (by rw [decide_eq_true (by omega), Bool.true_and]; exact he)
          rw [decide_eq_false h1]
          clear HNx
          have HR1 := Lib.hid (HRg.out w4 ⟨bn, bd⟩)
          have HL1 := Lib.hid (fun W => HBal.out W ⟨bn, bd⟩)
          clear HRg HBal
          unfold blV at HR1 HL1
          dsimp only at HR1 HL1
          generalize Bl.right ⟨bn, bd⟩ = rb at *
          generalize Bl.less ⟨bn, bd⟩ ⟨pn, pd⟩ = lb at *
          go_upto_region 7 with (fail)
          go_wp2_with fail
          refine HR1.out.mono ?_
          rintro e w5 ⟨rfl, hb5⟩
          have HB5 := Lib.hid (below_then HB4.out hb5)
          obtain ⟨y0, y1, y2, y3⟩ := HY4.out w5 hb5
          have HY5 := Lib.hid (fun W (hb : Below w5.heap.size w5 W) => HY4.out W (below_then hb5 hb))
          obtain ⟨g5, g6, g7⟩ := HC.out w5 HB5.out
          clear hb5 z0 z1 HY4 HR1
          go_upto_if 36 with (fail)
          go_cut [10, 36] from 10 to 56 (fun i b wx => i = .int .i64 (k : Int) ∧ b = .bool (!(rb && lb)) ∧ Below w5.heap.size w5 wx)
          case first =>
            cases rb with
            | false =>
              go_wp2
              go_meet
              exact ⟨rfl, rfl, Below.refl _ _⟩
            | true =>
              have HL2 := Lib.hid (HL1.out (w5.drewN 1))
              go_wp2_with fail
              go_still_tail 6, (by kernel_rfl)
              change wpList _ _ _ _ _ w5.drew
              go_wp2_with fail
              refine HL2.out.mono ?_
              rintro e w6 ⟨rfl, hb6⟩
              have HB6 := Lib.hid (bel_of_drewN hb6)
              clear hb6
              go_wp2
              go_meet
              exact ⟨rfl, by simp, HB6.out⟩
          case rest =>
            obtain ⟨rfl, rfl, hb6⟩ := hcut
            have HB6 := Lib.hid (below_then HB5.out hb6)
            obtain ⟨z0, z1, z2, z3⟩ := HY5.out _ hb6
            clear hb6 y0 y1 y2 y3 g5 g6 g7 HY5 HL1
            cases hrl : (rb && lb) with
            | false =>
              have hd : mayL ⟨pn, pd⟩ base l = false := by
                have := HN1.out false (by rw [← Bool.and_assoc, hrl]; rfl)
                rw [this]; rfl
              have HD := Lib.hid hd
              clear hd HN1 HNext hrl z0 z1 z2 z3
              go_wp2
              rw [Exit.noGoto_ret]
              go_ret
              exact ⟨by rw [HD.out]; simp; omega, HB6.out⟩
            | true =>
              by_cases h4 : vv.length ≤ 100
              · have n4 : ¬ ((xn : Int) > 100) := by omega
                have n5 : ¬ 100 < xn := by omega
                have hd : mayL ⟨pn, pd⟩ base l = rest := by
                  have := HN1.out true (by rw [← Bool.and_assoc, hrl, decide_eq_true h4]; rfl)
                  rw [this]; rfl
                have HD := Lib.hid hd
                clear hd HN1 hrl z0 z1 z2
                go_wp2
                go_roundg (gk - 1)
                case measure => omega
                case rel => exact ⟨k + 1, by go_num, by go_num, by omega, Lib.hid ⟨by unfold MayI; rw [HRst.out]; exact HD.out, by rw [HNext.out]; omega⟩, HB6⟩
              · have n4 : ((xn : Int) > 100) := by omega
                have n5 : 100 < xn := by omega
                have hd : mayL ⟨pn, pd⟩ base l = false := by
                  have := HN1.out false (by rw [← Bool.and_assoc, hrl, decide_eq_false h4]; rfl)
                  rw [this]; rfl
                have HD := Lib.hid hd
                clear hd HN1 HNext hrl z0 z1 z2
                go_wp2
                rw [Exit.noGoto_ret]
                go_ret
                exact ⟨by rw [HD.out]; simp; omega, HB6.out⟩
    · obtain rfl : k = N := by omega
      have hres : mayL ⟨pn, pd⟩ base l = true := by
        have := HI.out.1
        unfold MayI at this
        rw [this, List.drop_eq_nil_of_le (by rw [HL.out]; exact Nat.le_refl _)]
        rfl
      have HRe := Lib.hid hres
      clear hres hk
      go_wp2
      rw [Exit.noGoto_ret]
      go_ret
      exact ⟨by rw [HRe.out]; simp, HB.out⟩
end
end Go.Proofs.Ythkkkldkpdkabaa
