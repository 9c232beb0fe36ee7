/- The program's receiver: Hear, walked. -/
import Derived.Test.YtfdlhefbbhblnaaSesH
import Derived.StillTailTactics
namespace Go.Proofs.Ytfdlhefbbhblnaa
open Go.RowKit Go.Maps

theorem set4 (w : World) (B : Nat) (a b c d : Value) : Kp (fun j => j = B) w ((((w.setCell ⟨B, 0, none⟩ a).setCell ⟨B, 1, none⟩ b).setCell ⟨B, 2, none⟩ c).setCell ⟨B, 3, none⟩ d) :=
  ((((Kp.set_ (F := fun j => j = B) (p := ⟨B, 0, none⟩) rfl _).trans (Kp.set_ (F := fun j => j = B) (p := ⟨B, 1, none⟩) rfl _)).trans (Kp.set_ (F := fun j => j = B) (p := ⟨B, 2, none⟩) rfl _))).trans (Kp.set_ (F := fun j => j = B) (p := ⟨B, 3, none⟩) rfl _)
theorem Bk.set4 {w : World} {B : Nat} {x0 x1 x2 x3 : Value} (h : Bk w B 36 #[x0, x1, x2, x3]) (a b c d : Value) : Bk ((((w.setCell ⟨B, 0, none⟩ a).setCell ⟨B, 1, none⟩ b).setCell ⟨B, 2, none⟩ c).setCell ⟨B, 3, none⟩ d) B 36 #[a, b, c, d] :=
  (((h.set_ 0 a).set_ 1 b).set_ 2 c).set_ 3 d

set_option maxRecDepth 100000 in
set_option maxHeartbeats 4000000 in
theorem rHear_err (p : Option Addr) (m : Sg) (A : Option Addr) (n c : Nat) (w : World) (E : Int) (hE : E ≠ 0)
    (HRf : ∀ W, Below w.heap.size w W → Calls Try.prog 40 #[.pointer p, sgV m (.slice A n c)] W fun e w' => e = .returned (.int .i64 E) ∧ Below W.heap.size W w') :
    Calls Try.prog 23 #[.pointer p, sgV m (.slice A n c)] w fun e w' => e = .returned (.tuple #[.slice none 0 0, sgV Sg.zero (.slice none 0 0), .int .i64 E]) ∧ Below w.heap.size w w' := by
  obtain ⟨W1, hW1⟩ : ∃ W1, W1 = w.alloc (.cells (sgA m (.slice A n c)) 36) := ⟨_, rfl⟩
  obtain ⟨W2, hW2⟩ : ∃ W2, W2 = W1.alloc (.cells #[.int .u64 0, .int .u64 0, .bool false, .slice none 0 0] 36) := ⟨_, rfl⟩
  have hb1 : Below w.heap.size w W1 := by rw [hW1]; exact (Below.refl _ _).alloc (Nat.le_refl _) _
  have hs1 : W1.heap.size = w.heap.size + 1 := by rw [hW1]; simp
  have hb2 : Below W1.heap.size W1 W2 := by rw [hW2]; exact (Below.refl _ _).alloc (Nat.le_refl _) _
  have hk1 : Bk W1 w.heap.size 36 (sgA m (.slice A n c)) := by rw [hW1]; exact Bk.new w 36 _
  have hk2 : Bk W2 (w.heap.size + 1) 36 #[.int .u64 0, .int .u64 0, .bool false, .slice none 0 0] := by
    rw [hW2, ← hs1]; exact Bk.new W1 36 _
  have hk12 := hk1.below hb2 hk1.lt
  have hb12 := below_then hb1 hb2
  have HR := HRf W2 hb12
  unfold sgV at HR ⊢
  unfold sgA at hk12 hW1
  have k0 : W2.cell? ⟨w.heap.size, 0, none⟩ = some (.int .u64 (m.life : Int)) := hk12.cell 0
  have k1 : W2.cell? ⟨w.heap.size, 1, none⟩ = some (.int .u64 (m.seq : Int)) := hk12.cell 1
  have k2 : W2.cell? ⟨w.heap.size, 2, none⟩ = some (.bool m.ack) := hk12.cell 2
  have k3 : W2.cell? ⟨w.heap.size, 3, none⟩ = some (.slice A n c) := hk12.cell 3
  subst hW1
  have HW2 := Lib.hid hW2
  have HR := Lib.hid HR
  have Hb12 := Lib.hid hb12
  have Hk2 := Lib.hid hk2
  clear hb1 hb2 hk1 hk2 hk12 hb12 hW2 hs1 HRf
  go_enter Try.func23, Try.ntmps23
  go_wp2_with fail
  rw [← HW2.out]
  refine HR.out.mono ?_
  rintro e w3 ⟨rfl, hb3⟩
  have hk3 := Hk2.out.below hb3 Hk2.out.lt
  have x0 : w3.cell? ⟨w.heap.size + 1, 0, none⟩ = some (.int .u64 0) := hk3.cell 0
  have x1 : w3.cell? ⟨w.heap.size + 1, 1, none⟩ = some (.int .u64 0) := hk3.cell 1
  have x2 : w3.cell? ⟨w.heap.size + 1, 2, none⟩ = some (.bool false) := hk3.cell 2
  have x3 : w3.cell? ⟨w.heap.size + 1, 3, none⟩ = some (.slice none 0 0) := hk3.cell 3
  have f0 := hk3.frozen 0
  have f1 := hk3.frozen 1
  have f2 := hk3.frozen 2
  have f3 := hk3.frozen 3
  have Hk3 := Lib.hid hk3
  have Hbw := Lib.hid (below_then Hb12.out hb3)
  clear hk3 hb3 HR
  go_wp2
  have hkp := set4 w3 (w.heap.size + 1) (.int .u64 0) (.int .u64 0) (.bool false) (.slice none 0 0)
  have hk4 := Hk3.out.set4 (.int .u64 0) (.int .u64 0) (.bool false) (.slice none 0 0)
  generalize (((w3.setCell ⟨w.heap.size + 1, 0, none⟩ (.int .u64 0)).setCell ⟨w.heap.size + 1, 1, none⟩ (.int .u64 0)).setCell ⟨w.heap.size + 1, 2, none⟩ (.bool false)).setCell ⟨w.heap.size + 1, 3, none⟩ (.slice none 0 0) = w4 at *
  have j0 : w4.cell? ⟨w.heap.size + 1, 0, none⟩ = some (.int .u64 0) := hk4.cell 0
  have j1 : w4.cell? ⟨w.heap.size + 1, 1, none⟩ = some (.int .u64 0) := hk4.cell 1
  have j2 : w4.cell? ⟨w.heap.size + 1, 2, none⟩ = some (.bool false) := hk4.cell 2
  have j3 : w4.cell? ⟨w.heap.size + 1, 3, none⟩ = some (.slice none 0 0) := hk4.cell 3
  refine bodyPost_ret (by simp [results, Try.results23, go_sem, j0, j1, j2, j3]; try rfl) rfl ?_
  exact ⟨rfl, Hbw.out.trans (hkp.below (fun k e => by omega) Hbw.out.size)⟩

/-- Bytes that lie apart from a footprint. -/
structure SRd (w : World) (F : Nat → Prop) (A : Option Addr) (n : Nat) (l : List UInt8) : Prop where
  rd : Rd w w.heap.size A n l
  off : ∀ ad, A = some ad → ¬ F ad.block
theorem Rd.kp7 {w w' : World} {F : Nat → Prop} {B n : Nat} {A : Option Addr} {l : List UInt8} (h : Rd w B A n l) (hk : Kp F w w') (hF : ∀ ad, A = some ad → ¬ F ad.block) : Rd w' B A n l :=
  ⟨h.1, fun hn => by
    obtain ⟨b, o, e, hb, hc⟩ := h.2 hn
    exact ⟨b, o, e, hb, fun j hj => cell_kp (hc j hj) hk (hF ⟨b, o, none⟩ e)⟩⟩

/-- Ahead of wants. -/
structure HearJ (w W : World) (F : Nat → Prop) (g b : Nat) (r : Rc) (m : Sg) (A : Option Addr) (n c : Nat) (es : List Ern) : Prop where
  p : PRb W F g b (r.turn m) es
  kp : Kp F w W
  sg : Bk W w.heap.size 36 (sgA m (.slice A n c))
  rs : Bk W (w.heap.size + 1) 36 #[.int .u64 0, .int .u64 0, .bool false, .slice none 0 0]
  rd : Rd W W.heap.size A n m.body
theorem HearJ.below {w W W' : World} {F : Nat → Prop} {g b : Nat} {r : Rc} {m : Sg} {A : Option Addr} {n c : Nat} {es : List Ern} (h : HearJ w W F g b r m A n c es) (hb : Below W.heap.size W W') : HearJ w W' F g b r m A n c es :=
  ⟨h.p.below hb, h.kp.trans (Kp.of_below hb), h.sg.below hb h.sg.lt, h.rs.below hb h.rs.lt, h.rd.up hb⟩
/-- Ahead of take. -/
structure HearK (w W : World) (F F7 : Nat → Prop) (g b : Nat) (r : Rc) (m : Sg) (es : List Ern) : Prop where
  p : PRb W F7 g b ((r.turn m).keep m) es
  mv : Mv F F7 w W
  rs : Bk W (w.heap.size + 1) 36 #[.int .u64 0, .int .u64 0, .bool false, .slice none 0 0]
  off : ¬ F7 (w.heap.size + 1)
theorem HearK.out {w W w8 : World} {F F7 : Nat → Prop} {g b : Nat} {r : Rc} {m : Sg} {es : List Ern} (h : HearK w W F F7 g b r m es) {e : Ending} (ht : TakeS ((r.turn m).keep m) W F7 g e w8) :
    ∃ A n c, e = .returned (.slice A n c) ∧ w8.cell? ⟨g, 1, none⟩ = some (.int .u64 ((r.hear m).2.life : Int)) ∧ w8.cell? ⟨g, 2, none⟩ = some (.int .u64 ((r.hear m).2.came : Int)) ∧ Bk w8 (w.heap.size + 1) 36 #[.int .u64 0, .int .u64 0, .bool false, .slice none 0 0] ∧
      Hid (∀ w9, Kp (fun j => j = w.heap.size + 1) w8 w9 → HearS r m w F g (.returned (.tuple #[.slice A n c, .agg #[.int .u64 ((r.hear m).2.life : Int), .int .u64 ((r.hear m).2.came : Int), .bool true, .slice none 0 0], .int .i64 0])) w9) := by
  have hpr : ∃ F', PR w8 F' g (r.hear m).2 ∧ Kp F7 W w8 := by
    obtain ⟨v, out, F', rfl, h1, h2, h3, h4, h5, h6, h7, h8⟩ := ht
    exact ⟨F', h6, h7⟩
  obtain ⟨F', hpr, hkp⟩ := hpr
  obtain ⟨c0, c1, c2⟩ := hpr.cells
  obtain ⟨A, n, c, rfl, _⟩ := HearS.mk h.mv ht h.off h.rs.lt (Kp.refl (fun j => j = w.heap.size + 1) w8) h.p.lt (by omega)
  refine ⟨A, n, c, rfl, c1, c2, h.rs.kp hkp h.off, Lib.hid fun w9 hk => ?_⟩
  obtain ⟨A', n', c', e, hs⟩ := HearS.mk h.mv ht h.off h.rs.lt hk h.p.lt (by omega)
  injection e with e
  rw [e]
  exact hs
set_option maxRecDepth 100000 in
set_option maxHeartbeats 8000000 in
theorem rHear_any {w : World} {F : Nat → Prop} {g : Nat} {r : Rc} (h : PR w F g r) (m : Sg) (hm : m.Ok) (A : Option Addr) (n c : Nat) (hsr : SRd w F A n m.body) (hrf : r.refuse m = 0) (hc : r.came + r.early.length + 1 < 4611686018427387904) :
    Calls Try.prog 23 #[.pointer (some ⟨g, 0, none⟩), sgV m (.slice A n c)] w (HearS r m w F g) := by
  have hrd := hsr.rd
  have hl := hrd.1
  have hright : m.right = true := by
    unfold Rc.refuse at hrf
    cases hr : m.right with
    | false => rw [if_pos hr] at hrf; cases hrf
    | true => rfl
  have hack : m.ack = false := by
    unfold Rc.refuse at hrf
    rw [if_neg (by rw [hright]; decide)] at hrf
    cases ha : m.ack with
    | true => rw [if_pos ha] at hrf; cases hrf
    | false => rfl
  have hn1 : n ≤ 1000 := by
    unfold Sg.right at hright
    rw [hack] at hright
    simp at hright
    omega
  obtain ⟨W1, hW1⟩ : ∃ W1, W1 = w.alloc (.cells (sgA m (.slice A n c)) 36) := ⟨_, rfl⟩
  obtain ⟨W2, hW2⟩ : ∃ W2, W2 = W1.alloc (.cells #[.int .u64 0, .int .u64 0, .bool false, .slice none 0 0] 36) := ⟨_, rfl⟩
  have hb1 : Below w.heap.size w W1 := by rw [hW1]; exact (Below.refl _ _).alloc (Nat.le_refl _) _
  have hs1 : W1.heap.size = w.heap.size + 1 := by rw [hW1]; simp
  have hb2 : Below W1.heap.size W1 W2 := by rw [hW2]; exact (Below.refl _ _).alloc (Nat.le_refl _) _
  have hk1 : Bk W1 w.heap.size 36 (sgA m (.slice A n c)) := by rw [hW1]; exact Bk.new w 36 _
  have hk2 : Bk W2 (w.heap.size + 1) 36 #[.int .u64 0, .int .u64 0, .bool false, .slice none 0 0] := by
    rw [hW2, ← hs1]; exact Bk.new W1 36 _
  have hk12 := hk1.below hb2 hk1.lt
  have hb12 := below_then hb1 hb2
  have HR := rRefuse_any (h.below hb12) m A n c hl
  rw [hrf] at HR
  have hFl := h.lt
  obtain ⟨b, es, hp⟩ := h
  have k0 : W2.cell? ⟨w.heap.size, 0, none⟩ = some (.int .u64 (m.life : Int)) := hk12.cell 0
  have k1 : W2.cell? ⟨w.heap.size, 1, none⟩ = some (.int .u64 (m.seq : Int)) := hk12.cell 1
  have k2 : W2.cell? ⟨w.heap.size, 2, none⟩ = some (.bool m.ack) := hk12.cell 2
  have k3 : W2.cell? ⟨w.heap.size, 3, none⟩ = some (.slice A n c) := hk12.cell 3
  have HG : Hid (∀ W, Below W2.heap.size W2 W → W.cell? ⟨w.heap.size, 0, none⟩ = some (.int .u64 (m.life : Int)) ∧ W.cell? ⟨g, 1, none⟩ = some (.int .u64 (r.life : Int)) ∧ W.cell? ⟨g, 2, none⟩ = some (.int .u64 (r.came : Int)) ∧ W.cell? ⟨g, 3, none⟩ = some (.map (some b)) ∧ W.frozen? ⟨g, 1, none⟩ = false ∧ W.frozen? ⟨g, 2, none⟩ = false) := by
    refine Lib.hid fun W hb => ?_
    have hbw := below_then hb12 hb
    have hk := hk12.below hb hk12.lt
    have hpw := hp.below hbw
    exact ⟨hk.cell 0, hpw.bk.cell 1, hpw.bk.cell 2, hpw.bk.cell 3, hpw.bk.frozen 1, hpw.bk.frozen 2⟩
  have HJ0 : Hid (∀ W, Below W2.heap.size W2 W → r.turn m = r → HearJ w W F g b r m A n c es) := by
    refine Lib.hid fun W hb ht => ?_
    have hbw := below_then hb12 hb
    exact ⟨by rw [ht]; exact hp.below hbw, Kp.of_below hbw, hk12.below hb hk12.lt, hk2.below hb hk2.lt, hrd.up hbw⟩
  have HJ1 : Hid (∀ W, Below W2.heap.size W2 W → r.life < m.life → ∃ W6, (Builtin.clear_ #[90] 0 #[.map (some b)]).run Try.prog ((W.setCell ⟨g, 1, none⟩ (.int .u64 (m.life : Int))).setCell ⟨g, 2, none⟩ (.int .u64 0)) = .ok (.tuple #[]) W6 ∧ Hid (HearJ w W6 F g b r m A n c [])) := by
    refine Lib.hid fun W hb hlf => ?_
    have hbw := below_then hb12 hb
    have hpw := hp.below hbw
    have hgb := hpw.map.off_bk hpw.bk
    have hks : Kp (fun j => j = g) W ((W.setCell ⟨g, 1, none⟩ (.int .u64 (m.life : Int))).setCell ⟨g, 2, none⟩ (.int .u64 0)) := (Kp.set_ (F := fun j => j = g) (p := ⟨g, 1, none⟩) rfl _).trans (Kp.set_ (F := fun j => j = g) (p := ⟨g, 2, none⟩) rfl _)
    obtain ⟨W6, hrun, hc6, hk6⟩ := ownE_clear (hpw.map.kp hks (fun e => hgb e.symm))
    have ht := hpw.turned hm hlf rfl hc6 hk6
    have hkp : Kp F w W6 := (Kp.of_below hbw).trans ht.2
    have hgl := hp.bk.lt
    have hbl := hp.map.lt
    have hof : ∀ k, F k → k < w.heap.size := hFl
    refine ⟨W6, hrun, Lib.hid ⟨ht.1, hkp, (hk12.below hb hk12.lt).kp ht.2 (fun hf => by have := hof _ hf; omega), (hk2.below hb hk2.lt).kp ht.2 (fun hf => by have := hof _ hf; omega), ?_⟩⟩
    exact (hrd.kp7 hkp hsr.off).more hkp.size
  have Hm := Lib.hid hm
  have Hright := Lib.hid hright
  have Hack := Lib.hid hack
  have Hl := Lib.hid hl
  have Hlt := Lib.hid hFl
  have Hgl := Lib.hid hp.bk.lt
  subst hW1
  have HW2 := Lib.hid hW2
  have HR := Lib.hid HR
  unfold sgV at HR ⊢
  unfold sgA at HW2
  clear hb1 hb2 hk1 hk2 hk12 hb12 hW2 hs1 hp hrd hsr hrf hm hright hack hl hFl
  go_enter Try.func23, Try.ntmps23
  go_wp2_with fail
  rw [← HW2.out]
  refine HR.out.mono ?_
  rintro e w3 ⟨rfl, hb3⟩
  obtain ⟨k0, k4, k5, k6, f4, f5⟩ := HG.out w3 hb3
  have HJ2 := Lib.hid (fun q => HJ1.out (w3.drewN q) (bel_drewN hb3 q))
  have HJ3 := Lib.hid (fun q => HJ0.out (w3.drewN q) (bel_drewN hb3 q))
  clear hb3 HR HG HJ0 HJ1
  go_upto_region 4 with (fail)
  go_quiet (fail)
  obtain ⟨W4, hW4⟩ : ∃ W4, W4 = w3.drewN nq := ⟨_, rfl⟩
  have HJ4 := HJ2.out nq
  have HJ5 := HJ3.out nq
  rw [← hW4] at HJ4 HJ5 ⊢
  have k0 : W4.cell? ⟨w.heap.size, 0, none⟩ = some (.int .u64 (m.life : Int)) := by rw [hW4]; exact k0
  have k4 : W4.cell? ⟨g, 1, none⟩ = some (.int .u64 (r.life : Int)) := by rw [hW4]; exact k4
  have k5 : W4.cell? ⟨g, 2, none⟩ = some (.int .u64 (r.came : Int)) := by rw [hW4]; exact k5
  have k6 : W4.cell? ⟨g, 3, none⟩ = some (.map (some b)) := by rw [hW4]; exact k6
  have f4 : W4.frozen? ⟨g, 1, none⟩ = false := by rw [hW4]; exact f4
  have f5 : W4.frozen? ⟨g, 2, none⟩ = false := by rw [hW4]; exact f5
  have HJ4 := Lib.hid HJ4
  have HJ5 := Lib.hid HJ5
  clear hW4 HJ2 HJ3
  go_upto_if 22 with (fail)
  go_cut [23] (fun _s w' => Hid (∃ es, HearJ w w' F g b r m A n c es))
  case first =>
    by_cases hlf : r.life < m.life
    · have mlf : (r.life : Int) < (m.life : Int) := by omega
      obtain ⟨W6, hrun, hJ⟩ := HJ4.out hlf
      clear HJ4 HJ5
      go_wp2_with fail
      go_meet
      exact Lib.hid ⟨_, hJ.out⟩
    · have mlf : ¬ (r.life : Int) < (m.life : Int) := by omega
      have hte : r.turn m = r := by unfold Rc.turn; rw [if_neg hlf]
      have hJ := Lib.hid (HJ5.out hte)
      clear HJ4 HJ5 hte
      go_wp2_with fail
      go_meet
      exact Lib.hid ⟨_, hJ.out⟩
  case rest =>
    obtain ⟨es1, hJ⟩ := hcut.out
    clear hcut HJ4 HJ5 k0 k4 k5 k6 f4 f5
    have t1 : wc.cell? ⟨w.heap.size, 1, none⟩ = some (.int .u64 (m.seq : Int)) := hJ.sg.cell 1
    have HWt := Lib.hid (rWants_any ⟨b, _, hJ.p⟩ m.seq Hm.out.seq)
    have HJ1 := Lib.hid hJ
    clear hJ
    go_wp2_with fail
    refine HWt.out.mono ?_
    rintro e W7 ⟨rfl, hb7⟩
    have hJ7 := HJ1.out.below hb7
    have HJ7 := Lib.hid hJ7
    clear t1 HWt HJ1 hb7 hJ7
    go_upto_if 38 with (fail)
    go_cut [39] (fun _s w' => Hid (∃ F7 es, HearK w w' F F7 g b r m es))
    case first =>
      have hJ7 := HJ7.out
      cases hwt : (r.turn m).wants m.seq with
      | false =>
        have hke : (r.turn m).keep m = r.turn m := by unfold Rc.keep; rw [hwt]; rfl
        have hK : HearK w W7 F F g b r m _ := ⟨by rw [hke]; exact hJ7.p, Mv.of hJ7.kp, hJ7.rs, fun hf => by have := Hlt.out _ hf; omega⟩
        have HK := Lib.hid hK
        clear hJ7 hK hke
        go_wp2_with fail
        go_meet
        exact Lib.hid ⟨_, _, HK.out⟩
      | true =>
        have x1 : W7.cell? ⟨w.heap.size, 1, none⟩ = some (.int .u64 (m.seq : Int)) := hJ7.sg.cell 1
        have x3 : W7.cell? ⟨w.heap.size, 3, none⟩ = some (.slice A n c) := hJ7.sg.cell 3
        have xm : W7.cell? ⟨g, 3, none⟩ = some (.map (some b)) := hJ7.p.bk.cell 3
        have HC : Hid (∀ W, Below W7.heap.size W7 W → Calls Try.prog 35 #[.slice A n c] W fun e w' => ∃ Av cv, e = .returned (.slice Av n cv) ∧ w'.ownsRow W.heap.size 5 1 (.slice Av n cv) n (u8s m.body) ∧ Below W.heap.size W w') := by
          refine Lib.hid fun W hb => (cloneB_any A n c W.heap.size m.body W (by omega) (Nat.le_refl _) (hJ7.rd.up hb)).mono ?_
          rintro e w' ⟨v, rfl, ho, hb2⟩
          obtain ⟨Av, cv, rfl, _⟩ := own_shape ho
          exact ⟨Av, cv, rfl, ho, hb2⟩
        have HX : Hid (∀ w1 Av cv, Below W7.heap.size W7 w1 → w1.ownsRow W7.heap.size 5 1 (.slice Av n cv) n (u8s m.body) → ∃ w2 es2 F2, (Instr.mapUpdate 90 (.map (some b)) (.int .u64 (m.seq : Int)) (.slice Av n cv)).run Try.prog w1 = .ok () w2 ∧ w1.cell? ⟨w.heap.size, 1, none⟩ = some (.int .u64 (m.seq : Int)) ∧ w1.cell? ⟨w.heap.size, 3, none⟩ = some (.slice A n c) ∧ w1.cell? ⟨g, 3, none⟩ = some (.map (some b)) ∧
            w2.cell? ⟨w.heap.size, 1, none⟩ = some (.int .u64 (m.seq : Int)) ∧ w2.cell? ⟨w.heap.size, 3, none⟩ = some (.slice A n c) ∧ w2.cell? ⟨g, 3, none⟩ = some (.map (some b)) ∧ Hid (HearK w w2 F F2 g b r m es2)) := by
          refine Lib.hid fun w1 Av cv hb ho => ?_
          obtain ⟨w2, es2, F2, hrun, hp2, hmv⟩ := hJ7.p.kept Hm.out Hright.out Hack.out hwt (by have := Rc.turn_sum r m; omega) Hl.out hb ho
          have hz := hJ7.rs.lt
          have hsf : ¬ F w.heap.size := fun hf => by have := Hlt.out _ hf; omega
          have hof : ¬ F2 (w.heap.size + 1) := fun hf => by
            rcases hmv.new _ hf with hf | hf
            · have := Hlt.out _ hf; omega
            · omega
          exact ⟨w2, es2, F2, hrun, (hJ7.sg.below hb hJ7.sg.lt).cell 1, (hJ7.sg.below hb hJ7.sg.lt).cell 3, (hJ7.p.below hb).bk.cell 3, (hJ7.sg.kp hmv.kp hsf).cell 1, (hJ7.sg.kp hmv.kp hsf).cell 3, hp2.bk.cell 3, Lib.hid ⟨hp2, (Mv.of hJ7.kp).trans hmv, hJ7.rs.kp hmv.kp (fun hf => by have := Hlt.out _ hf; omega), hof⟩⟩
        clear hJ7
        go_wp2_with fail
        go_region_held3 (fun w' => w'.cell? ⟨w.heap.size, 1, none⟩ = some (.int .u64 (m.seq : Int)) ∧ w'.cell? ⟨w.heap.size, 3, none⟩ = some (.slice A n c) ∧ w'.cell? ⟨g, 3, none⟩ = some (.map (some b))) (first | exact ⟨x1, x3, xm⟩ | exact ⟨z1, z3, zm⟩ | exact ⟨v1, v3, vm⟩ | go_keep)
          (first | (go_at_call 35; (refine (HC.out _ (by (repeat' (first | assumption | exact Below.refl _ _ | apply Below.drew)))).mono ?_); rintro e w1 ⟨Av, cv, rfl, ho1, hb1⟩; (obtain ⟨w2, es2, F2, hrun, z1, z3, zm, v1, v3, vm, HK⟩ := HX.out w1 Av cv (below_then ((Below.refl _ _).drew) hb1) (own_mono ho1 (by simp only [World.drew]; exact Nat.le_refl _))); clear ho1 hb1))
        all_goals
          clear hrun z1 z3 zm v1 v3 vm x1 x3 xm HC HX
          go_wp2_with fail
          go_meet
          exact Lib.hid ⟨_, _, HK.out⟩
    case rest =>
      obtain ⟨F7, es7, hK⟩ := hcut.out
      have HTk := Lib.hid (rTake_any hK.p)
      have HK := Lib.hid hK
      clear hcut hK HJ7
      go_wp2_with fail
      refine HTk.out.mono ?_
      intro e w8 hT
      obtain ⟨A1, n1, c1, rfl, y1, y2, hB, HF⟩ := HK.out.out hT
      clear hT HTk HK
      have q0 : w8.cell? ⟨w.heap.size + 1, 0, none⟩ = some (.int .u64 0) := hB.cell 0
      have q1 : w8.cell? ⟨w.heap.size + 1, 1, none⟩ = some (.int .u64 0) := hB.cell 1
      have q2 : w8.cell? ⟨w.heap.size + 1, 2, none⟩ = some (.bool false) := hB.cell 2
      have q3 : w8.cell? ⟨w.heap.size + 1, 3, none⟩ = some (.slice none 0 0) := hB.cell 3
      have p0 := hB.frozen 0
      have p1 := hB.frozen 1
      have p2 := hB.frozen 2
      have p3 := hB.frozen 3
      have HB9 := Lib.hid hB
      have g1 : g ≠ w.heap.size + 1 := by have := Hgl.out; omega
      clear hB
      generalize (r.hear m).2.life = L at *
      generalize (r.hear m).2.came = C at *
      have V1 := Lib.hid (cell_kp y1 (set4 w8 (w.heap.size + 1) (.int .u64 (L : Int)) (.int .u64 (C : Int)) (.bool true) (.slice none 0 0)) g1)
      have V2 := Lib.hid (cell_kp y2 (set4 w8 (w.heap.size + 1) (.int .u64 (L : Int)) (.int .u64 (C : Int)) (.bool true) (.slice none 0 0)) g1)
      go_wp2_with fail
      go_region_held3 (fun w' => w'.cell? ⟨g, 1, none⟩ = some (.int .u64 (L : Int)) ∧ w'.cell? ⟨g, 2, none⟩ = some (.int .u64 (C : Int))) (first | exact ⟨y1, y2⟩ | exact ⟨V1.out, V2.out⟩ | go_keep) (first | fail)
      all_goals
        have hkp := (set4 w8 (w.heap.size + 1) (.int .u64 (L : Int)) (.int .u64 (C : Int)) (.bool true) (.slice none 0 0)).trans (Kp.of_below ((Below.refl _ _).drew))
        have hk4 := HB9.out.set4 (.int .u64 (L : Int)) (.int .u64 (C : Int)) (.bool true) (.slice none 0 0)
        replace hk4 : Bk ((((w8.setCell ⟨w.heap.size + 1, 0, none⟩ (.int .u64 (L : Int))).setCell ⟨w.heap.size + 1, 1, none⟩ (.int .u64 (C : Int))).setCell ⟨w.heap.size + 1, 2, none⟩ (.bool true)).setCell ⟨w.heap.size + 1, 3, none⟩ (.slice none 0 0)).drew (w.heap.size + 1) 36 _ := hk4
        clear q0 q1 q2 q3 p0 p1 p2 p3 y1 y2 g1 V1 V2
        generalize ((((w8.setCell ⟨w.heap.size + 1, 0, none⟩ (.int .u64 (L : Int))).setCell ⟨w.heap.size + 1, 1, none⟩ (.int .u64 (C : Int))).setCell ⟨w.heap.size + 1, 2, none⟩ (.bool true)).setCell ⟨w.heap.size + 1, 3, none⟩ (.slice none 0 0)).drew = w10 at *
        have j0 : w10.cell? ⟨w.heap.size + 1, 0, none⟩ = some (.int .u64 (L : Int)) := hk4.cell 0
        have j1 : w10.cell? ⟨w.heap.size + 1, 1, none⟩ = some (.int .u64 (C : Int)) := hk4.cell 1
        have j2 : w10.cell? ⟨w.heap.size + 1, 2, none⟩ = some (.bool true) := hk4.cell 2
        have j3 : w10.cell? ⟨w.heap.size + 1, 3, none⟩ = some (.slice none 0 0) := hk4.cell 3
        go_wp2
        refine bodyPost_ret (by simp [results, Try.results23, go_sem, j0, j1, j2, j3]; try rfl) rfl ?_
        exact HF.out _ hkp
end Go.Proofs.Ytfdlhefbbhblnaa
