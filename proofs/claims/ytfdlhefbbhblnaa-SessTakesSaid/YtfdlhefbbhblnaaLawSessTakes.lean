/- SessTakes is true at every window, and every row of segments. -/
import Derived.Test.YtfdlhefbbhblnaaSesTs2
import Derived.Test.YtfdlhefbbhblnaaSesG
import Derived.Test.YtfdlhefbbhblnaaSesL
import Derived.Test.YtfdlhefbbhblnaaLaw
import Derived.Test.YtfdlhefbbhblnaaRows
namespace Go.Proofs.Ytfdlhefbbhblnaa
open Go.ChangeShapes Go.WideShapes Go.ChangeAt Go.RowKit Go.Deep Go.Maps

theorem Rc.ans_small {r : Rc} (h : r.Ok) {m : Sg} (hm : m.Ok) (hc : r.came + r.early.length + 1 < 4611686018427387904) : (r.ans m).1.length ≤ 64 ∧ ∀ b ∈ (r.ans m).1, b.length ≤ 1000 := by
  unfold Rc.ans
  split
  · rename_i hrf
    have hright : m.right = true := by
      unfold Rc.refuse at hrf
      cases hr : m.right with
      | false => rw [if_pos hr] at hrf; cases hrf
      | true => rfl
    have hack : m.ack = false := by
      unfold Rc.refuse at hrf
      rw [if_neg (by rw [hright]; decide)] at hrf
      cases ha : m.ack with
      | true => rw [if_pos ha] at hrf; cases hrf
      | false => rfl
    have hok : ((r.turn m).keep m).Ok := (h.turn hm).keep hright hack (by have := Rc.turn_sum r m; omega)
    obtain ⟨_, _, h3, h4⟩ := takeK_facts ((r.turn m).keep m).early ((r.turn m).keep m).came
    have hl := hok.len
    show (takeK ((r.turn m).keep m).came ((r.turn m).keep m).early).1.length ≤ 64 ∧ ∀ b ∈ (takeK ((r.turn m).keep m).came ((r.turn m).keep m).early).1, b.length ≤ 1000
    refine ⟨by omega, fun b hb => ?_⟩
    rw [h3] at hb
    obtain ⟨p, hp, rfl⟩ := List.mem_map.1 hb
    exact hok.bods p (List.mem_of_mem_take hp)
  · exact ⟨by simp, fun b hb => (List.not_mem_nil hb).elim⟩

/-- Ahead of a round. -/
def TrI (W w : World) (gx gy k : Nat) (r : Rc) : Prop := ∃ Fx Fy, Tr W w Fx Fy gx gy r r k ∧ r.came + r.early.length ≤ k
theorem TrI.bel {W w : World} {gx gy k : Nat} {r : Rc} (h : TrI W w gx gy k r) : Below W.heap.size W w := by
  obtain ⟨Fx, Fy, h1, h2⟩ := h
  exact h1.below
theorem TrI.below {W w w' : World} {gx gy k : Nat} {r : Rc} (h : TrI W w gx gy k r) (hb : Below w.heap.size w w') : TrI W w' gx gy k r := by
  obtain ⟨Fx, Fy, h1, h2⟩ := h
  exact ⟨Fx, Fy, h1.mvb hb, h2⟩
theorem tri_new {W w1 : World} {window gx : Nat} {Fx : Nat → Prop} (h1 : 1 ≤ window ∧ window ≤ 64) (hx : PR w1 Fx gx (Rc.new window)) (hx2 : ∀ k, Fx k → W.heap.size ≤ k) (hb1 : Below W.heap.size W w1) :
    TrI W (w1.alloc (.cells (drA (Rc.new window) (.slice none 0 0)) 59)) gx w1.heap.size 0 (Rc.new window) := by
  have hb : Below w1.heap.size w1 (w1.alloc (.cells (drA (Rc.new window) (.slice none 0 0)) 59)) := (Below.refl _ _).alloc (Nat.le_refl _) _
  have hz := hb1.size
  refine ⟨Fx, _, ⟨hx.below hb, DR.new window w1 h1, fun k e e2 => ?_, fun k e => ?_, hb1.trans (hb.mono hz)⟩, Nat.le_refl _⟩
  · have := hx.lt k e; omega
  · rcases e with e | e
    · exact hx2 k e
    · omega

set_option maxHeartbeats 8000000 in
set_option maxRecDepth 100000 in
theorem takes_bad (window : Int) (A : Option Addr) (n c : Nat) (W : World) (h : ¬ (1 ≤ window ∧ window ≤ 64)) :
    Calls Try.prog 4 #[.int .i64 window, .slice A n c] W fun e w' => e = .returned (.bool true) ∧ Below W.heap.size W w' := by
  have HKn := Lib.hid sknown_any
  have HN := Lib.hid (rNew_bad window W h)
  have hor : window < 1 ∨ (¬ window < 1 ∧ 64 < window) := by omega
  clear h
  rcases hor with h1 | ⟨h1, h2⟩
  all_goals
    go_enter Try.func4, Try.ntmps4
    go_wp2_with fail
    refine HN.out.mono ?_
    rintro e w1 ⟨rfl, rfl⟩
    go_wp2_with fail
    refine (HKn.out _).mono ?_
    rintro e w2 ⟨rfl, hb⟩
    have HB := Lib.hid hb
    clear hb
    go_wp2
    go_ret
    exact ⟨rfl, HB.out⟩

set_option maxHeartbeats 16000000 in
set_option maxRecDepth 100000 in
theorem takes_good (window : Nat) (A : Option Addr) (n c : Nat) (f : Nat → Gs) (W : World) (h1 : 1 ≤ window ∧ window ≤ 64) (hc : n ≤ c) (hm : c ≤ 9223372036854775807) (hs : SgsIn W W.heap.size A n f) :
    Calls Try.prog 4 #[.int .i64 (window : Int), .slice A n c] W fun e w' => e = .returned (.bool true) ∧ Below W.heap.size W w' := by
  have HKn := Lib.hid sknown_any
  have HN := Lib.hid (rNew_any window W h1)
  have HS := Lib.hid hs
  have m1 : ¬ (window : Int) < 1 := by omega
  have m2 : ¬ 64 < (window : Int) := by omega
  have H1 := Lib.hid h1
  clear hs h1
  go_enter Try.func4, Try.ntmps4
  go_wp2_with fail
  refine HN.out.mono ?_
  rintro e w1 ⟨gx, Fx, rfl, p1, p2, p3⟩
  obtain ⟨w2, hw2⟩ : ∃ w2, w2 = w1.alloc (.cells #[.int .i64 (window : Int), .int .u64 0, .int .u64 0, .slice none 0 0] 59) := ⟨_, rfl⟩
  have X0 : Hid (TrI W w2 gx w1.heap.size 0 (Rc.new window)) := by
    rw [hw2]
    exact tri_new H1.out p1 p2 p3
  generalize Rc.new window = r0 at X0
  have HW2 := Lib.hid hw2
  clear p1 p2 p3 hw2 HN
  go_wp2_with fail
  rw [← HW2.out]
  clear HW2
  generalize w1.heap.size = gy at *
  clear m1 m2
  obtain ⟨N0, hN0⟩ : ∃ N0, N0 = min n 200 := ⟨_, rfl⟩
  go_loopg [8] N0 (fun gk j wr => ∃ (k : Nat) (r : Rc), j = .int .i64 (k : Int) ∧ k + gk = N0 ∧ Hid (TrI W wr gx gy k r))
  case atStart => exact ⟨0, r0, rfl, by omega, X0⟩
  case round =>
    clear X0 r0
    obtain ⟨k, r, rfl, hkg, HX⟩ := hrel
    by_cases hk : k < N0
    · have k1 : (k : Int) < (n : Int) := by omega
      have k2 : (k : Int) < 200 := by omega
      obtain ⟨b, o, rfl, hlt, hcs⟩ := HS.out (by omega)
      have HC : Hid (∀ X, Below W.heap.size W X → X.cell? ⟨b, o + k * 4, none⟩ = some (.int .u64 ((f k).s.life : Int)) ∧ X.cell? ⟨b, o + k * 4 + 1, none⟩ = some (.int .u64 ((f k).s.seq : Int)) ∧ X.cell? ⟨b, o + k * 4 + 2, none⟩ = some (.bool (f k).s.ack) ∧ X.cell? ⟨b, o + k * 4 + 3, none⟩ = some (.slice (f k).A (f k).n (f k).c) ∧ Rd X W.heap.size (f k).A (f k).n (f k).s.body ∧ Rd X X.heap.size (f k).A (f k).n (f k).s.body) := Lib.hid fun X hX => by
        obtain ⟨hok, z1, z2, z3, z4⟩ := hcs k (by omega)
        exact ⟨(hX.cell (p := ⟨b, o + k * 4, none⟩) hlt).trans z1, (hX.cell (p := ⟨b, o + k * 4 + 1, none⟩) hlt).trans z2, (hX.cell (p := ⟨b, o + k * 4 + 2, none⟩) hlt).trans z3, (hX.cell (p := ⟨b, o + k * 4 + 3, none⟩) hlt).trans z4, hok.body.below hX, hok.body.up hX⟩
      have HO : Hid ((f k).s.Ok ∧ (f k).s.body.length = (f k).n ∧ (0 < (f k).n → ∀ ad, (f k).A = some ad → ad.block < W.heap.size)) := Lib.hid ⟨(hcs k (by omega)).1.ok, (hcs k (by omega)).1.body.1, fun h0 ad e => by
        obtain ⟨b', o', e', hb', _⟩ := (hcs k (by omega)).1.body.2 h0
        rw [e] at e'
        injection e' with e'
        rw [e']
        exact hb'⟩
      clear hcs
      generalize f k = fk at *
      obtain ⟨⟨sl, ss, sa, sb⟩, SA, sn, sc⟩ := fk
      dsimp only at HC HO
      have hbw : Below W.heap.size W wr := HX.out.bel
      obtain ⟨z1, z2, z3, z4, _, _⟩ := HC.out wr hbw
      have HLo := Lib.hid (slong_any ⟨sl, ss, sa, sb⟩ SA sn sc wr)
      unfold sgV at HLo
      dsimp only at HLo
      by_cases hbig : 3000 < sn
      · rw [decide_eq_true hbig] at HLo
        have Hbw := Lib.hid hbw
        clear hbw HX
        go_wp2_with fail
        refine HLo.out.mono ?_
        rintro e w5 ⟨rfl, hb5⟩
        go_wp2_with fail
        refine (HKn.out _).mono ?_
        rintro e w6 ⟨rfl, hb6⟩
        have HB := Lib.hid (below_then (below_then Hbw.out hb5) hb6)
        clear hb5 hb6
        go_wp2
        go_ret
        exact ⟨rfl, HB.out⟩
      rw [decide_eq_false hbig] at HLo
      have hsn : sn ≤ 3000 := by omega
      clear hbw hbig
      go_wp2_with fail
      refine HLo.out.mono ?_
      clear HLo
      rintro e w3 ⟨rfl, hb3⟩
      have X3 := Lib.hid (HX.out.below hb3)
      clear hb3 HX z1 z2 z3 z4
      try clear wr
      obtain ⟨z1, z2, z3, z4, _, _⟩ := HC.out w3 X3.out.bel
      obtain ⟨w4, hw4⟩ : ∃ w4, w4 = w3.alloc (.cells #[.int .u64 (sl : Int), .int .u64 (ss : Int), .bool sa, .slice SA sn sc] 36) := ⟨_, rfl⟩
      have hb4 : Below w3.heap.size w3 w4 := by rw [hw4]; exact (Below.refl _ _).alloc (Nat.le_refl _) _
      obtain ⟨Fx, Fy, ht, hsum⟩ := X3.out
      have hansS := r.ans_sum ⟨sl, ss, sa, sb⟩
      have hansB := r.ans_body ⟨sl, ss, sa, sb⟩
      have hansM := Rc.ans_small ht.pr.ok HO.out.1 (by omega)
      have HLe : Hid (Calls Try.prog 10 #[.slice SA sn sc] w4 fun e w' => ∃ g2 cap, e = .returned (.slice (some ⟨g2, 0, none⟩) sn cap) ∧ TrS W (w'.setCell ⟨w3.heap.size, 3, none⟩ (.slice (some ⟨g2, 0, none⟩) sn cap)) Fx Fy gx gy r r k w3.heap.size g2 cap sn #[.int .u64 (sl : Int), .int .u64 (ss : Int), .bool sa, .slice (some ⟨g2, 0, none⟩) sn cap] sb ∧ w'.frozen? ⟨w3.heap.size, 3, none⟩ = false ∧ w'.cell? ⟨w3.heap.size, 3, none⟩ = some (.slice SA sn sc)) := by
        refine Lib.hid ((lent_any SA sn sc w4.heap.size sb w4 (by omega) (HC.out w4 (below_then ht.below hb4)).2.2.2.2.2).mono ?_)
        rintro e w' ⟨g2, cap, rfl, ho, hb⟩
        have := TrS.start ht hw4 hb ho HO.out.2.1
        exact ⟨g2, cap, rfl, this.1, this.2.1, this.2.2⟩
      have hbw4 : Below W.heap.size W w4 := below_then ht.below hb4
      have HW4 := Lib.hid hw4
      have Hsum := Lib.hid hsum
      have HansS := Lib.hid hansS
      have HansB := Lib.hid hansB
      have HansM := Lib.hid hansM
      clear ht hw4 hb4 hansS hansB hansM hsum X3
      go_upto_region 13 with (fail)
      rw [← HW4.out]
      clear HW4
      replace z4 := (HC.out w4 hbw4).2.2.2.1
      clear z1 z2 z3 hbw4
      generalize w3.heap.size = q at *
      go_wp2_with fail
      refine HLe.out.mono ?_
      clear HLe z4
      rintro e w5 ⟨g2, cap, rfl, s6, f5, c5⟩
      have S6 := Lib.hid s6
      clear s6
      go_upto_region 14 with (fail)
      obtain ⟨w6, hw6⟩ : ∃ w6, w6 = w5.setCell ⟨q, 3, none⟩ (.slice (some ⟨g2, 0, none⟩) sn cap) := ⟨_, rfl⟩
      rw [← hw6] at S6 ⊢
      clear hw6 f5 c5
      try clear w5 w4 w3
      have y0 : w6.cell? ⟨q, 0, none⟩ = some (.int .u64 (sl : Int)) := S6.out.qk.cell 0
      have y1 : w6.cell? ⟨q, 1, none⟩ = some (.int .u64 (ss : Int)) := S6.out.qk.cell 1
      have y2 : w6.cell? ⟨q, 2, none⟩ = some (.bool sa) := S6.out.qk.cell 2
      have y3 : w6.cell? ⟨q, 3, none⟩ = some (.slice (some ⟨g2, 0, none⟩) sn cap) := S6.out.qk.cell 3
      have HP := Lib.hid (S6.out.xhear ⟨sl, ss, sa, sb⟩ HO.out.1 rfl cap (by have := Hsum.out; omega))
      generalize hans : r.ans ⟨sl, ss, sa, sb⟩ = an at *
      have Hans := Lib.hid hans
      clear hans
      obtain ⟨outs, ⟨a1, a2, a3, a4⟩, code, r2⟩ := an
      have ha4 : a4 = [] := HansB.out
      subst ha4
      dsimp only at HP HansS HansM
      unfold sgV at HP
      dsimp only at HP
      obtain ⟨no, hno⟩ : ∃ no, no = outs.length := ⟨_, rfl⟩
      have Hno := Lib.hid hno
      rw [← hno] at HP
      clear hno S6 HansB
      go_wp2_with fail
      refine HP.out.mono ?_
      clear HP y0 y1 y2 y3
      try clear w6
      rintro e w7 ⟨A7, c7, outA, Fx7, rfl, e7, b7⟩
      have B7 := Lib.hid b7
      have E7 := Lib.hid e7
      clear b7 e7
      obtain ⟨w8, hw8⟩ : ∃ w8, w8 = w7.alloc (.cells #[.int .u64 (a1 : Int), .int .u64 (a2 : Int), .bool a3, .slice none 0 0] 36) := ⟨_, rfl⟩
      have hb8 : Below w7.heap.size w7 w8 := by rw [hw8]; exact (Below.refl _ _).alloc (Nat.le_refl _) _
      have K8 : Hid (Bk w8 w7.heap.size 36 #[.int .u64 (a1 : Int), .int .u64 (a2 : Int), .bool a3, .slice none 0 0]) := by rw [hw8]; exact Bk.new w7 _ _
      have L8 : Hid (∀ j, Un Fx7 Fy j → j < w7.heap.size) := B7.out.s.tr.lt
      have G8 : Hid (g2 < w7.heap.size) := (B7.out.s.lo.lt g2 rfl).2
      have B8 := Lib.hid (B7.out.below hb8)
      have HW8 := Lib.hid hw8
      clear hb8 hw8 B7
      go_upto_region 15 with (fail)
      rw [← HW8.out]
      clear HW8
      generalize w7.heap.size = qb at *
      try clear w7
      obtain ⟨z1, z2, z3, z4, r4, _⟩ := HC.out w8 B8.out.s.tr.below
      have HP := B8.out.yhear ⟨sl, ss, sa, sb⟩ HO.out.1 SA sn sc r4 HO.out.2.2 (by have := Hsum.out; omega) (by omega)
      rw [Hans.out] at HP
      dsimp only at HP
      unfold sgV at HP
      dsimp only at HP
      rw [← Hno.out] at HP
      replace HP := Lib.hid HP
      have K8' := Lib.hid K8.out.lt
      clear r4 B8
      go_wp2_with fail
      refine HP.out.mono ?_
      clear HP z1 z2 z3 z4
      rintro e w9 ⟨A9, c9, outC, Fy9, rfl, e9, rc9, b9, mv9⟩
      have K9 := Lib.hid (K8.out.kp mv9.kp (fun hf => by have := L8.out _ hf; omega))
      have B9 := Lib.hid b9
      have E9 := Lib.hid e9
      have C9 := Lib.hid rc9
      clear b9 e9 rc9 mv9 K8 K8' L8
      try clear w8
      obtain ⟨w10, hw10⟩ : ∃ w10, w10 = w9.alloc (.cells #[.int .u64 (a1 : Int), .int .u64 (a2 : Int), .bool a3, .slice none 0 0] 36) := ⟨_, rfl⟩
      have hb10 : Below w9.heap.size w9 w10 := by rw [hw10]; exact (Below.refl _ _).alloc (Nat.le_refl _) _
      have KD : Hid (Bk w10 w9.heap.size 36 #[.int .u64 (a1 : Int), .int .u64 (a2 : Int), .bool a3, .slice none 0 0]) := by rw [hw10]; exact Bk.new w9 _ _
      have KB := Lib.hid (K9.out.below hb10 K9.out.lt)
      have GD : Hid (g2 < w9.heap.size) := (B9.out.s.lo.lt g2 rfl).2
      have B10 := Lib.hid (B9.out.below hb10)
      have C10 := Lib.hid (C9.out.mv (Mv.below7 hb10))
      have HW10 := Lib.hid hw10
      clear hb10 hw10 K9 B9 C9
      go_upto_region 16 with (fail)
      rw [← HW10.out]
      clear HW10
      generalize w9.heap.size = qd at *
      try clear w9
      have y3 : w10.cell? ⟨q, 3, none⟩ = some (.slice (some ⟨g2, 0, none⟩) sn cap) := B10.out.s.qk.cell 3
      obtain ⟨_, _, _, z4, _, r4⟩ := HC.out w10 B10.out.s.tr.below
      have HWh : Hid (∀ q', Calls Try.prog 13 #[.slice (some ⟨g2, 0, none⟩) sn cap, .slice SA sn sc] (w10.drewN q') fun e w' => e = .returned (.bool true) ∧ w' = w10.drewN q') := Lib.hid fun q' =>
        ((B10.out.below (bel_drewN (Below.refl _ _) q')).whole hsn SA sc (r4.up (bel_drewN (Below.refl _ _) q'))).mono fun _ _ h => ⟨h.1, h.2.symm⟩
      clear r4
      go_quiet ((go_at_call 13; exact Calls.quiet_of_same (HWh.out _)))
      obtain ⟨w11, hw11⟩ : ∃ w11, w11 = w10.drewN nq := ⟨_, rfl⟩
      rw [← hw11]
      have hb11 : Below w10.heap.size w10 w11 := by rw [hw11]; exact bel_drewN (Below.refl _ _) nq
      have B11 := Lib.hid (B10.out.below hb11)
      have C11 := Lib.hid (C10.out.mv (Mv.below7 hb11))
      have KB11 := Lib.hid (KB.out.below hb11 KB.out.lt)
      have KD11 := Lib.hid (KD.out.below hb11 KD.out.lt)
      clear hw11 hb11 B10 C10 KB KD y3 z4 HWh
      try clear w10
      have y3 : w11.cell? ⟨q, 3, none⟩ = some (.slice (some ⟨g2, 0, none⟩) sn cap) := B11.out.s.qk.cell 3
      have HP := Lib.hid (B11.out.spoil hsn)
      go_wp2_with fail
      refine HP.out.mono ?_
      clear HP y3
      rintro e w12 ⟨rfl, t12, ra12, k12⟩
      have C12 := Lib.hid (C11.out.mv (Mv.of k12))
      have KB12 := Lib.hid (KB11.out.kp k12 (fun e => by have := G8.out; omega))
      have KD12 := Lib.hid (KD11.out.kp k12 (fun e => by have := GD.out; omega))
      have AP := Lib.hid (And.intro B11.out.ap B11.out.ge)
      have T12 := Lib.hid t12
      have A12 := Lib.hid ra12
      have HG := Lib.hid (rGot_any t12.pr)
      clear t12 ra12 k12 C11 KB11 KD11 B11 GD G8
      try clear w11
      go_wp2_with fail
      refine HG.out.mono ?_
      clear HG
      rintro e w13 ⟨rfl, m13, rfl⟩
      obtain ⟨w14, hw14⟩ : ∃ w14, w14 = w12.drewN m13 := ⟨_, rfl⟩
      rw [← hw14]
      have hb14 : Below w12.heap.size w12 w14 := by rw [hw14]; exact bel_drewN (Below.refl _ _) m13
      have C14 := Lib.hid (C12.out.mv (Mv.below7 hb14))
      have A14 := Lib.hid (A12.out.mv (Mv.below7 hb14))
      have T14 := Lib.hid (T12.out.mvb hb14)
      have KB14 := Lib.hid (KB12.out.below hb14 KB12.out.lt)
      have KD14 := Lib.hid (KD12.out.below hb14 KD12.out.lt)
      clear hw14 hb14 C12 A12 T12 KB12 KD12
      try clear w12
      have hno64 : no ≤ 64 := by rw [Hno.out]; exact HansM.out.1
      have hlA : no = outA.length := by rw [Hno.out, ← E7.out]; simp
      have hlC : no = outC.length := by rw [Hno.out, ← E9.out]; simp
      have HSL : Hid (Calls Try.prog 26 #[.slice A7 no c7, .slice A9 no c9] w14 fun e w' => e = .returned (.bool true) ∧ ∃ q', w14.drewN q' = w') := by
        have h1 := A14.out.prt hlA
        have h2 := C14.out.prt hlC
        rw [E7.out] at h1
        rw [E9.out] at h2
        have := sameL_any A7 A9 no c7 no c9 _ _ outs outs w14 (by omega) (by omega) h1 h2
        rwa [show (outs == outs) = true by simp] at this
      have HlA := Lib.hid hlA
      clear hlA hlC
      go_wp2_with fail
      refine HSL.out.mono ?_
      clear HSL C14 E9
      rintro e w15 ⟨rfl, q15, rfl⟩
      obtain ⟨w16, hw16⟩ : ∃ w16, w16 = w14.drewN q15 := ⟨_, rfl⟩
      rw [← hw16]
      have hb16 : Below w14.heap.size w14 w16 := by rw [hw16]; exact bel_drewN (Below.refl _ _) q15
      have A16 := Lib.hid (A14.out.mv (Mv.below7 hb16))
      have T16 := Lib.hid (T14.out.mvb hb16)
      have KB16 := Lib.hid (KB14.out.below hb16 KB14.out.lt)
      have KD16 := Lib.hid (KD14.out.below hb16 KD14.out.lt)
      clear hw16 hb16 A14 T14 KB14 KD14
      try clear w14
      have u0 : w16.cell? ⟨qb, 0, none⟩ = some (.int .u64 (a1 : Int)) := KB16.out.cell 0
      have u1' : w16.cell? ⟨qb, 1, none⟩ = some (.int .u64 (a2 : Int)) := KB16.out.cell 1
      have u2' : w16.cell? ⟨qb, 2, none⟩ = some (.bool a3) := KB16.out.cell 2
      have u3' : w16.cell? ⟨qb, 3, none⟩ = some (.slice none 0 0) := KB16.out.cell 3
      have v0 : w16.cell? ⟨qd, 0, none⟩ = some (.int .u64 (a1 : Int)) := KD16.out.cell 0
      have v1 : w16.cell? ⟨qd, 1, none⟩ = some (.int .u64 (a2 : Int)) := KD16.out.cell 1
      have v2 : w16.cell? ⟨qd, 2, none⟩ = some (.bool a3) := KD16.out.cell 2
      have v3 : w16.cell? ⟨qd, 3, none⟩ = some (.slice none 0 0) := KD16.out.cell 3
      have HSa : Hid (Calls Try.prog 27 #[.agg #[.int .u64 (a1 : Int), .int .u64 (a2 : Int), .bool a3, .slice none 0 0], .agg #[.int .u64 (a1 : Int), .int .u64 (a2 : Int), .bool a3, .slice none 0 0]] w16 fun e w' => e = .returned (.bool true) ∧ Below w16.heap.size w16 w') := by
        have := sSame_any ⟨a1, a2, a3, []⟩ ⟨a1, a2, a3, []⟩ none none 0 0 0 0 w16 (Rd.nil _ _ _) (Rd.nil _ _ _)
        rw [sameSg_self] at this
        exact Lib.hid this
      clear KB16 KD16
      go_wp2_with fail
      refine HSa.out.mono ?_
      clear HSa u0 u1' u2' u3' v0 v1 v2 v3
      rintro e w17 ⟨rfl, hb17⟩
      have A17 := Lib.hid (A16.out.mv (Mv.below7 hb17))
      have T17 := Lib.hid (T16.out.mvb hb17)
      clear hb17 A16 T16
      try clear w16
      have d1 : w17.cell? ⟨gy, 1, none⟩ = some (.int .u64 (r2.life : Int)) := T17.out.dr.cells.1
      have d2 : w17.cell? ⟨gy, 2, none⟩ = some (.int .u64 (r2.came : Int)) := T17.out.dr.cells.2
      have HOw : Hid (Calls Try.prog 21 #[.slice A7 no c7] w17 fun e w' => e = .returned (.bool true) ∧ TrI W w' gx gy (k + 1) r2) := by
        refine Lib.hid ((A17.out.ownK AP.out.1 HlA.out AP.out.2 (by omega) (fun x hx => HansM.out.2 _ (by rw [← E7.out]; exact List.mem_map_of_mem hx)) T17.out).mono ?_)
        rintro e w' ⟨rfl, t⟩
        exact ⟨rfl, _, _, t, by have := HansS.out; have := Hsum.out; omega⟩
      clear A17 T17 AP
      generalize r2.life = L2 at *
      generalize r2.came = C2 at *
      go_wp2_with fail
      refine HOw.out.mono ?_
      clear HOw d1 d2
      rintro e w18 ⟨rfl, x18⟩
      have X18 := Lib.hid x18
      clear x18
      go_wp2
      go_roundg (gk - 1)
      case measure => omega
      case rel => exact ⟨k + 1, r2, by go_num, by omega, X18⟩
    · obtain rfl : k = N0 := by omega
      have hor : ((k : Int) < (n : Int) ∧ ¬ (k : Int) < 200) ∨ ¬ (k : Int) < (n : Int) := by omega
      have Hbw := Lib.hid HX.out.bel
      clear HX hN0
      rcases hor with ⟨k1, k2⟩ | k1
      all_goals
        go_wp2_with fail
        refine (HKn.out _).mono ?_
        rintro e w5 ⟨rfl, hb5⟩
        have HB := Lib.hid (below_then Hbw.out hb5)
        clear hb5
        go_wp2
        go_ret
        exact ⟨rfl, HB.out⟩

set_option maxRecDepth 100000 in
theorem sessTakes_walk (window : Int) (A : Option Addr) (n c : Nat) (f : Nat → Gs) (W : World) (_ : -9223372036854775808 ≤ window) (_ : window ≤ 9223372036854775807) (hc : n ≤ c) (hm : c ≤ 9223372036854775807) (hs : SgsIn W W.heap.size A n f) :
    Calls Try.prog 4 #[.int .i64 window, .slice A n c] W fun e w' => e = .returned (.bool true) ∧ Below W.heap.size W w' := by
  by_cases h : 1 ≤ window ∧ window ≤ 64
  · obtain ⟨m, rfl⟩ := Int.eq_ofNat_of_zero_le (show 0 ≤ window by omega)
    exact takes_good m A n c f W (by omega) hc hm hs
  · exact takes_bad window A n c W h

namespace sessTakes
set_option maxRecDepth 100000 in
theorem lifted (os : Os) (started : os.Started) (H : Type) (enc : TypeId × Value → H) :
    ReturnsInHanded {} Try.checked os 4 .any (Rows.sessTakesSpec.pre6 enc Try.prog Try.f4 Rows.sessTakesRow.domain false) (Rows.sessTakesSpec.post enc Try.prog Try.f4 false true false false) := by
  refine law_lift started (by kernel_rfl) Try.func4
    (ChangeSpec.witness6 (enc := enc) (C := Try.checked) false ⟨#[], #[.int .i64 0, .slice none 0 0], []⟩ 8 (by kernel_rfl) (by kernel_rfl) (by kernel_rfl) (by kernel_rfl))
    rfl ?_ (by kernel_rfl) (by kernel_rfl) ?_
  · intro ds h
    match ds, h with
    | [_, _], _ => rfl
  intro W base args ds p g
  have hA := g.trod
  have hval := g.val
  rw [Try.params4] at hA hval
  obtain ⟨v0, vs0, d0, ds0, p0, q0, hargs, rfl, rfl, h0, r0⟩ := trodAll_cons hA
  obtain ⟨v1, vs1, d1, ds1, p1, q1, rfl, rfl, rfl, h1, r1⟩ := trodAll_cons r0
  obtain ⟨rfl, rfl, rfl⟩ := trodAll_nil r1
  obtain rfl : args = #[v0, v1] := by cases args; simp_all
  obtain ⟨a0, rfl, _, _, w0⟩ := open_int Try.underlying3 (hval 0 3 v0 rfl rfl) h0
  have b0 := bounds_i64 w0
  obtain ⟨A1, n1, c1, f1, rfl, hc1, hm1, hr1⟩ := given_sgs (hval 1 45 v1 rfl rfl) h1
  exact sessTakes_walk a0 A1 n1 c1 f1 W b0.1 b0.2 hc1 hm1 hr1

theorem over : Rows.sessTakesRow.holds Try.pinned (OpenSpec.ofChange Rows.sessTakesSpec) :=
  OpenClaim.holds_of_wide 4 Try.f4 rfl rfl rfl rfl rfl rfl rfl ⟨rfl, rfl, rfl, rfl, rfl⟩ rfl rfl rfl rfl rfl (by kernel_rfl) Try.func4 (by kernel_rfl)
    (of_decide_eq_true (by kernel_rfl)) (by unfold Func.isWrapper; first | (rw [if_pos (by decide +kernel)]; kernel_rfl) | (rw [if_neg (by decide +kernel)]; exact ⟨rfl, rfl⟩))
    (fun os started H enc _ => lifted os started H enc)
end sessTakes

theorem SessTakes_proved : Rows.SessTakesSaid := sessTakes.over
#print axioms SessTakes_proved
end Go.Proofs.Ytfdlhefbbhblnaa
