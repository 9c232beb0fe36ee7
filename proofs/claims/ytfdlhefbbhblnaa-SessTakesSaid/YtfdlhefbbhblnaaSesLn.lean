/- Layer 7's laws: the line in memory. -/
import Derived.Test.YtfdlhefbbhblnaaSesLm
namespace Go.Proofs.Ytfdlhefbbhblnaa
open Go.RowKit Go.Maps

theorem own_bk7 {w : World} {gw : Nat} {t2 : TypeId} {ys : Array Value} {b e s n : Nat} {v : Value} {xs : List Value} (h : w.ownsRow b e s v n xs) (hb : Bk w gw t2 ys) (hne : e ≠ t2) : v.ownBlock ≠ some gw := fun hk => by
  rcases h.2 with ⟨rfl, _⟩ | ⟨q, cap, cur, rfl, _, hh, _⟩
  · simp [Value.ownBlock] at hk
  · have e1 : q = gw := by simpa [Value.ownBlock] using hk
    subst e1
    unfold Bk at hb
    rw [hb] at hh
    injection hh with hh
    injection hh with _ hh _
    exact hne hh.symm
theorem own_ne7 {w : World} {b1 b2 e1 e2 s1 s2 n1 n2 : Nat} {v1 v2 : Value} {x1 x2 : List Value} (h1 : w.ownsRow b1 e1 s1 v1 n1 x1) (h2 : w.ownsRow b2 e2 s2 v2 n2 x2) (hne : e1 ≠ e2) : ∀ k, v1.ownBlock = some k → v2.ownBlock ≠ some k := fun k e1 e2 => by
  rcases own_types_ne h1 h2 hne with h' | h'
  · rw [h'] at e1; cases e1
  · exact h' (e1.trans e2.symm)
section
variable {w w' : World} {base : Nat} {G : Nat → Prop}
/-- What the bodies of a row are. -/
def BodR (w : World) (G : Nat → Prop) (e : Sge) : Prop := w.ownsRow 0 5 1 e.2 e.1.body.length (u8s e.1.body) ∧ ∀ k, e.2.ownBlock = some k → Apt7 w G k
theorem BodR.keep {e : Sge} (h : BodR w G e) {u : Value} {bu eu su nu : Nat} {xu : List Value} (hu : w.ownsRow bu eu su u nu xu) (hne : 5 ≠ eu) (hk : Kp (fun k => u.ownBlock = some k) w w') : BodR w' G e :=
  ⟨own_kp h.1 hk (own_ne7 h.1 hu hne), fun k e => ⟨Nat.lt_of_lt_of_le (h.2 k e).1 hk.size, (h.2 k e).2⟩⟩
theorem BodR.nil (w : World) (G : Nat → Prop) (s : Sg) (hs : s.body = []) : BodR w G (s, .slice none 0 0) := ⟨by rw [hs]; exact World.ownsRow_nil _ _ _ _, fun k e => by cases e⟩
theorem SgR.keepU {v : Value} {es : List Sge} (h : SgR w base G v es) {u : Value} {bu eu su nu : Nat} {xu : List Value} (hu : w.ownsRow bu eu su u nu xu) (hne : 5 ≠ eu) (hk : Kp (fun k => u.ownBlock = some k) w w') (hv : ∀ k, v.ownBlock = some k → u.ownBlock ≠ some k) : SgR w' base G v es :=
  ⟨own_kp h.own hk hv, fun k e => ⟨Nat.lt_of_lt_of_le (h.off k e).1 hk.size, (h.off k e).2⟩, fun e he => BodR.keep (h.each e he) hu hne hk⟩
theorem ByR.keepU {v : Value} {out : List (List UInt8 × Value)} (h : ByR w base G v out) {u : Value} {bu eu su nu : Nat} {xu : List Value} (hu : w.ownsRow bu eu su u nu xu) (hne : 5 ≠ eu) (hne2 : 34 ≠ eu) (hk : Kp (fun k => u.ownBlock = some k) w w') : ByR w' base G v out :=
  ⟨own_kp h.own hk (own_ne7 h.own hu hne2), fun k e => ⟨Nat.lt_of_lt_of_le (h.off k e).1 hk.size, (h.off k e).2⟩, fun x hx => ⟨own_kp (h.each x hx).1 hk (own_ne7 (h.each x hx).1 hu hne), fun k e => ⟨Nat.lt_of_lt_of_le ((h.each x hx).2 k e).1 hk.size, ((h.each x hx).2 k e).2⟩⟩⟩
/-- Segments more. -/
theorem SgR.app {lv lv' : Value} {es es2 : List Sge} (h : SgR w base G lv es) (h2 : ∀ e ∈ es2, BodR w G e) (hG : ∀ k, G k → k < w.heap.size) (happ : App w w' base 36 4 lv lv' es.length es2.length (sgC es) (sgC es2)) :
    SgR w' base G lv' (es ++ es2) ∧ Kp (fun k => lv.ownBlock = some k) w w' := by
  have hk : Kp (fun k => lv.ownBlock = some k) w w' := Kp.of_row happ.grow (fun g e => e)
  refine ⟨⟨by rw [List.length_append, sgC_app]; exact happ.own, fun k e => ⟨(happ.own.lt k e).2, fun hg => ?_⟩, fun x hx => ?_⟩, hk⟩
  · rcases happ.block with h' | h'
    · rw [h'] at e; exact (h.off k e).2 hg
    · rw [h'] at e
      injection e with e
      have := hG k hg
      omega
  · rcases List.mem_append.1 hx with hx | hx
    · exact BodR.keep (h.each x hx) h.own (by decide) hk
    · exact BodR.keep (h2 x hx) h.own (by decide) hk
end

/-- A line, and what its cells hold. -/
structure LnR (W w : World) (Fx Fy : Nat → Prop) (gx gy g : Nat) (sx : Sd) (ry : Rc) (ys : Array Value) (vt vb vo : Value) (ts bk : List Sge) (out : List (List UInt8 × Value)) : Prop where
  tw : Tw W w Fx Fy gx gy sx ry
  box : Bk w g 76 ys
  ge : W.heap.size ≤ g
  off : ¬ Un Fx Fy g
  toR : SgR w W.heap.size (Un Fx Fy) vt ts
  bkR : SgR w W.heap.size (Un Fx Fy) vb bk
  outR : ByR w W.heap.size (Un Fx Fy) vo out
  tb : Apart vt vb
abbrev lnA (gx gy : Nat) (vt vb vo : Value) : Array Value := #[.pointer (some ⟨gx, 0, none⟩), .pointer (some ⟨gy, 0, none⟩), vt, vb, vo]
section
variable {W w w' : World} {Fx Fy Fx' Fy' : Nat → Prop} {gx gy g : Nat} {sx sx' : Sd} {ry ry' : Rc} {ys : Array Value} {vt vb vo v' : Value} {ts bk es2 : List Sge} {out out2 : List (List UInt8 × Value)}
theorem LnR.mv (h : LnR W w Fx Fy gx gy g sx ry ys vt vb vo ts bk out) (ht : Tw W w' Fx' Fy' gx gy sx' ry') (hm : Mv (Un Fx Fy) (Un Fx' Fy') w w') : LnR W w' Fx' Fy' gx gy g sx' ry' ys vt vb vo ts bk out :=
  ⟨ht, h.box.kp hm.kp h.off, h.ge, fun e => by
    rcases hm.new g e with h1 | h1
    · exact h.off h1
    · have := h.box.lt; omega, h.toR.mv hm, h.bkR.mv hm, h.outR.mv hm, h.tb⟩
theorem LnR.below (h : LnR W w Fx Fy gx gy g sx ry ys vt vb vo ts bk out) (hb : Below w.heap.size w w') : LnR W w' Fx Fy gx gy g sx ry ys vt vb vo ts bk out := h.mv (h.tw.mvb hb) (Mv.below7 hb)
theorem LnR.set (h : LnR W w Fx Fy gx gy g sx ry ys vt vb vo ts bk out) (i : Nat) (u : Value) : LnR W (w.setCell ⟨g, i, none⟩ u) Fx Fy gx gy g sx ry (ys.setIfInBounds i u) vt vb vo ts bk out := by
  have hk : Kp (· = g) w (w.setCell ⟨g, i, none⟩ u) := Kp.set_ (F := (· = g)) (p := ⟨g, i, none⟩) rfl u
  have hz := hk.size
  have hbod : ∀ e : Sge, BodR w (Un Fx Fy) e → BodR (w.setCell ⟨g, i, none⟩ u) (Un Fx Fy) e := fun e he => ⟨own_kp he.1 hk fun k e1 e2 => by subst e2; exact own_bk7 he.1 h.box (by decide) e1, fun k e => ⟨Nat.lt_of_lt_of_le (he.2 k e).1 hz, (he.2 k e).2⟩⟩
  refine ⟨h.tw.kp hk (fun k e1 e2 => by subst e2; exact h.off e1) (fun k e => by subst e; exact h.ge), h.box.set_ i u, h.ge, h.off, ?_, ?_, ?_, h.tb⟩
  · exact ⟨own_kp h.toR.own hk fun k e1 e2 => by subst e2; exact own_bk7 h.toR.own h.box (by decide) e1, fun k e => ⟨Nat.lt_of_lt_of_le (h.toR.off k e).1 hz, (h.toR.off k e).2⟩, fun e he => hbod e (h.toR.each e he)⟩
  · exact ⟨own_kp h.bkR.own hk fun k e1 e2 => by subst e2; exact own_bk7 h.bkR.own h.box (by decide) e1, fun k e => ⟨Nat.lt_of_lt_of_le (h.bkR.off k e).1 hz, (h.bkR.off k e).2⟩, fun e he => hbod e (h.bkR.each e he)⟩
  · exact ⟨own_kp h.outR.own hk fun k e1 e2 => by subst e2; exact own_bk7 h.outR.own h.box (by decide) e1, fun k e => ⟨Nat.lt_of_lt_of_le (h.outR.off k e).1 hz, (h.outR.off k e).2⟩, fun x hx => ⟨own_kp (h.outR.each x hx).1 hk fun k e1 e2 => by subst e2; exact own_bk7 (h.outR.each x hx).1 h.box (by decide) e1, fun k e => ⟨Nat.lt_of_lt_of_le ((h.outR.each x hx).2 k e).1 hz, ((h.outR.each x hx).2 k e).2⟩⟩⟩
theorem LnR.appTo (h : LnR W w Fx Fy gx gy g sx ry ys vt vb vo ts bk out) (h2 : ∀ e ∈ es2, BodR w (Un Fx Fy) e) (happ : App w w' W.heap.size 36 4 vt v' ts.length es2.length (sgC ts) (sgC es2)) : LnR W w' Fx Fy gx gy g sx ry ys v' vb vo (ts ++ es2) bk out := by
  obtain ⟨hs, hk⟩ := h.toR.app h2 h.tw.lt happ
  exact ⟨h.tw.kp hk (fun k e1 e2 => (h.toR.off k e2).2 e1) (fun k e => (h.toR.own.lt k e).1), h.box.kp hk (own_bk7 h.toR.own h.box (by decide)), h.ge, h.off, hs, h.bkR.keepU h.toR.own (by decide) hk (fun k e => h.tb.symm k e), h.outR.keepU h.toR.own (by decide) (by decide) hk, Apart.app happ h.tb fun k e => (h.bkR.own.lt k e).2⟩
theorem LnR.appBk (h : LnR W w Fx Fy gx gy g sx ry ys vt vb vo ts bk out) (h2 : ∀ e ∈ es2, BodR w (Un Fx Fy) e) (happ : App w w' W.heap.size 36 4 vb v' bk.length es2.length (sgC bk) (sgC es2)) : LnR W w' Fx Fy gx gy g sx ry ys vt v' vo ts (bk ++ es2) out := by
  obtain ⟨hs, hk⟩ := h.bkR.app h2 h.tw.lt happ
  exact ⟨h.tw.kp hk (fun k e1 e2 => (h.bkR.off k e2).2 e1) (fun k e => (h.bkR.own.lt k e).1), h.box.kp hk (own_bk7 h.bkR.own h.box (by decide)), h.ge, h.off, h.toR.keepU h.bkR.own (by decide) hk (fun k e => h.tb k e), hs, h.outR.keepU h.bkR.own (by decide) (by decide) hk, (Apart.app happ h.tb.symm fun k e => (h.toR.own.lt k e).2).symm⟩
theorem LnR.appOut (h : LnR W w Fx Fy gx gy g sx ry ys vt vb vo ts bk out) {b2 : Nat} {bv : Value} (h2 : ByR w b2 (Un Fx Fy) bv out2) (happ : App w w' W.heap.size 34 1 vo v' out.length out2.length (out.map (·.2)) (out2.map (·.2))) : LnR W w' Fx Fy gx gy g sx ry ys vt vb v' ts bk (out ++ out2) := by
  obtain ⟨hs, hk⟩ := h.outR.app h2 h.tw.lt happ
  exact ⟨h.tw.kp hk (fun k e1 e2 => (h.outR.off k e2).2 e1) (fun k e => (h.outR.own.lt k e).1), h.box.kp hk (own_bk7 h.outR.own h.box (by decide)), h.ge, h.off, h.toR.keepU h.outR.own (by decide) hk (own_ne7 h.toR.own h.outR.own (by decide)), h.bkR.keepU h.outR.own (by decide) hk (own_ne7 h.bkR.own h.outR.own (by decide)), hs, h.tb⟩
/-- Another row in the place of one. -/
theorem LnR.newTo (h : LnR W w Fx Fy gx gy g sx ry ys vt vb vo ts bk out) {ts' : List Sge} (ho : w.ownsRow W.heap.size 36 4 v' ts'.length (sgC ts')) (hoff : ∀ k, v'.ownBlock = some k → ¬ Un Fx Fy k) (hsub : ∀ e ∈ ts', BodR w (Un Fx Fy) e) (ha : Apart v' vb) : LnR W w Fx Fy gx gy g sx ry ys v' vb vo ts' bk out :=
  ⟨h.tw, h.box, h.ge, h.off, ⟨ho, fun k e => ⟨(ho.lt k e).2, hoff k e⟩, hsub⟩, h.bkR, h.outR, ha⟩
theorem LnR.newBk (h : LnR W w Fx Fy gx gy g sx ry ys vt vb vo ts bk out) {bk' : List Sge} (ho : w.ownsRow W.heap.size 36 4 v' bk'.length (sgC bk')) (hoff : ∀ k, v'.ownBlock = some k → ¬ Un Fx Fy k) (hsub : ∀ e ∈ bk', BodR w (Un Fx Fy) e) (ha : Apart vt v') : LnR W w Fx Fy gx gy g sx ry ys vt v' vo ts bk' out :=
  ⟨h.tw, h.box, h.ge, h.off, h.toR, ⟨ho, fun k e => ⟨(ho.lt k e).2, hoff k e⟩, hsub⟩, h.outR, ha⟩
end

theorem LnR.kp1 {W w w' : World} {Fx Fy : Nat → Prop} {gx gy g p : Nat} {sx : Sd} {ry : Rc} {ys cs : Array Value} {vt vb vo : Value} {ts bk : List Sge} {out : List (List UInt8 × Value)} (h : LnR W w Fx Fy gx gy g sx ry ys vt vb vo ts bk out) (hb : Bk w p 36 cs) (hk : Kp (· = p) w w') (hp : ¬ Un Fx Fy p) (hg : g ≠ p) (ht : ∀ k, vt.ownBlock = some k → k ≠ p) (hv : ∀ k, vb.ownBlock = some k → k ≠ p) (hge : W.heap.size ≤ p) : LnR W w' Fx Fy gx gy g sx ry ys vt vb vo ts bk out := by
  have hz := hk.size
  have hbod : ∀ e : Sge, BodR w (Un Fx Fy) e → BodR w' (Un Fx Fy) e := fun e he => ⟨own_kp he.1 hk fun k e1 e2 => by subst e2; exact own_bk7 he.1 hb (by decide) e1, fun k e => ⟨Nat.lt_of_lt_of_le (he.2 k e).1 hz, (he.2 k e).2⟩⟩
  refine ⟨h.tw.kp hk (fun k e1 e2 => by subst e2; exact hp e1) (fun k e => by subst e; exact hge), h.box.kp hk hg, h.ge, h.off, ?_, ?_, ?_, h.tb⟩
  · exact ⟨own_kp h.toR.own hk fun k e1 e2 => ht k e1 e2, fun k e => ⟨Nat.lt_of_lt_of_le (h.toR.off k e).1 hz, (h.toR.off k e).2⟩, fun e he => hbod e (h.toR.each e he)⟩
  · exact ⟨own_kp h.bkR.own hk fun k e1 e2 => hv k e1 e2, fun k e => ⟨Nat.lt_of_lt_of_le (h.bkR.off k e).1 hz, (h.bkR.off k e).2⟩, fun e he => hbod e (h.bkR.each e he)⟩
  · exact ⟨own_kp h.outR.own hk fun k e1 e2 => by subst e2; exact own_bk7 h.outR.own hb (by decide) e1, fun k e => ⟨Nat.lt_of_lt_of_le (h.outR.off k e).1 hz, (h.outR.off k e).2⟩, fun x hx => ⟨own_kp (h.outR.each x hx).1 hk fun k e1 e2 => by subst e2; exact own_bk7 (h.outR.each x hx).1 hb (by decide) e1, fun k e => ⟨Nat.lt_of_lt_of_le ((h.outR.each x hx).2 k e).1 hz, ((h.outR.each x hx).2 k e).2⟩⟩⟩
theorem ByR.kp1 {w w' : World} {base p : Nat} {G : Nat → Prop} {cs : Array Value} {v : Value} {out : List (List UInt8 × Value)} (h : ByR w base G v out) (hb : Bk w p 36 cs) (hk : Kp (· = p) w w') : ByR w' base G v out :=
  ⟨own_kp h.own hk fun k e1 e2 => by subst e2; exact own_bk7 h.own hb (by decide) e1, fun k e => ⟨Nat.lt_of_lt_of_le (h.off k e).1 hk.size, (h.off k e).2⟩, fun x hx => ⟨own_kp (h.each x hx).1 hk fun k e1 e2 => by subst e2; exact own_bk7 (h.each x hx).1 hb (by decide) e1, fun k e => ⟨Nat.lt_of_lt_of_le ((h.each x hx).2 k e).1 hk.size, ((h.each x hx).2 k e).2⟩⟩⟩
theorem drew_alloc_lt (w : World) (o : Obj) : w.heap.size < (w.drew.alloc o).heap.size := by
  have h : (w.drew.alloc o).heap.size = w.drew.heap.size + 1 := by simp
  rw [h]
  exact Nat.lt_succ_self _
theorem ByR.src {w : World} {base n c : Nat} {G : Nat → Prop} {A : Option Addr} {out : List (List UInt8 × Value)} (h : ByR w base G (.slice A n c) out) : n = out.length ∧ (A = none → n = 0) ∧ (∀ a, A = some a → ∀ j u, (out.map (·.2))[j]? = some u → w.cell? (a.add j) = some u) ∧ ∀ u ∈ out.map (·.2), u.oneCell' = true := by
  have hone : ∀ u ∈ out.map (·.2), u.oneCell' = true := fun u hu => by
    obtain ⟨x, hx, rfl⟩ := List.mem_map.1 hu
    obtain ⟨A2, c2, e, _⟩ := h.body x hx
    rw [e]; rfl
  rcases h.own.2 with ⟨e, h0⟩ | ⟨g, cap, cur, e, _⟩
  · obtain ⟨rfl, rfl, rfl⟩ : A = none ∧ n = 0 ∧ c = 0 := by simpa using e
    exact ⟨h0.symm, fun _ => rfl, (fun a e => by cases e), hone⟩
  · obtain ⟨rfl, rfl, rfl⟩ : A = some ⟨g, 0, none⟩ ∧ n = out.length ∧ c = cap := by simpa using e
    refine ⟨rfl, (fun e => by cases e), fun a ha j u hu => ?_, hone⟩
    injection ha with ha
    subst ha
    exact h.own.cells (g := g) rfl j u hu
section
variable {W w : World} {Fx Fy : Nat → Prop} {gx gy g : Nat} {sx : Sd} {ry : Rc} {vt vb vo : Value} {ts bk : List Sge} {out : List (List UInt8 × Value)}
theorem LnR.cells (h : LnR W w Fx Fy gx gy g sx ry (lnA gx gy vt vb vo) vt vb vo ts bk out) : w.cell? ⟨g, 0, none⟩ = some (.pointer (some ⟨gx, 0, none⟩)) ∧ w.cell? ⟨g, 1, none⟩ = some (.pointer (some ⟨gy, 0, none⟩)) ∧ w.cell? ⟨g, 2, none⟩ = some vt ∧ w.cell? ⟨g, 3, none⟩ = some vb ∧ w.cell? ⟨g, 4, none⟩ = some vo :=
  ⟨h.box.cell 0, h.box.cell 1, h.box.cell 2, h.box.cell 3, h.box.cell 4⟩
set_option maxRecDepth 100000 in
set_option maxHeartbeats 4000000 in
theorem comes_ack (h : LnR W w Fx Fy gx gy g sx ry (lnA gx gy vt vb vo) vt vb vo ts bk out) (m : Sg) (hm : m.Ok) (A : Option Addr) (n c : Nat) (hl : m.body.length = n) :
    Calls Try.prog 32 #[.pointer (some ⟨g, 0, none⟩), sgV m (.slice A n c), .bool true] w fun e w' => e = .returned (.bool ((sx.hear m).1 == 0)) ∧ ∃ Fx', LnR W w' Fx' Fy gx gy g (sx.hear m).2 ry (lnA gx gy vt vb vo) vt vb vo ts bk out := by
  obtain ⟨w1, hw1⟩ : ∃ w1, w1 = w.alloc (.cells #[.int .u64 (m.life : Int), .int .u64 (m.seq : Int), .bool m.ack, .slice A n c] 36) := ⟨_, rfl⟩
  have hb1 : Below w.heap.size w w1 := by rw [hw1]; exact (Below.refl _ _).alloc (Nat.le_refl _) _
  have h1 := h.below hb1
  have hk : Bk w1 w.heap.size 36 #[.int .u64 (m.life : Int), .int .u64 (m.seq : Int), .bool m.ack, .slice A n c] := by rw [hw1]; exact Bk.new w _ _
  have HS : Hid (∀ q, Calls Try.prog 18 #[.pointer (some ⟨gx, 0, none⟩), sgV m (.slice A n c)] (w1.drewN q) fun e w' => e = .returned (.int .i64 (sx.hear m).1) ∧ ∃ Fx', LnR W w' Fx' Fy gx gy g (sx.hear m).2 ry (lnA gx gy vt vb vo) vt vb vo ts bk out) := Lib.hid fun q => by
    have h2 := h1.below (bel_drewN (Below.refl _ _) q)
    refine (h2.tw.shear m hm A n c hl).mono ?_
    rintro e w' ⟨rfl, Fx', t1, t2⟩
    exact ⟨rfl, Fx', h2.mv t1 t2⟩
  obtain ⟨j0, j1, j2, j3, j4⟩ := h1.cells
  have i0 := hk.cell 0
  have i1 := hk.cell 1
  have i2 := hk.cell 2
  have i3 := hk.cell 3
  have HW := Lib.hid hw1
  rw [hw1] at j0 i0 i1 i2 i3
  obtain ⟨ml, ms, ma, mb⟩ := m
  unfold sgV at *
  dsimp only at *
  generalize (sx.hear ⟨ml, ms, ma, mb⟩).1 = r at *
  generalize (sx.hear ⟨ml, ms, ma, mb⟩).2 = sx2 at *
  clear h h1 hk hb1 j1 j2 j3 j4 hw1 hl hm
  go_enter Try.func32, Try.ntmps32
  go_wp2_with fail
  first
  | (go_region_law (go_simp; go_at_call 18; rw [← HW.out]; refine (HS.out 1).mono ?_; rintro e w2 ⟨rfl, hl2⟩))
  | fail
  all_goals
    have HL := Lib.hid hl2
    clear hl2 j0 i0 i1 i2 i3 HS
    go_wp2
    go_ret
    exact ⟨rfl, HL.out⟩
theorem infoBy7 : (Try.prog.info? 34).map (fun i => (i.zero, i.size, i.bytes)) = some (some (.slice none 0 0), 1, 24) := by kernel_rfl
set_option maxRecDepth 100000 in
set_option maxHeartbeats 4000000 in
theorem comes_piece (h : LnR W w Fx Fy gx gy g sx ry (lnA gx gy vt vb vo) vt vb vo ts bk out) (m : Sg) (hm : m.Ok) (A : Option Addr) (n c : Nat) (hrd : Rd7 w (Un Fx Fy) A n m.body) (hrf : ry.refuse m = 0) (hc : ry.came + ry.early.length + 1 < 4611686018427387904) (ho : out.length + (ry.hear m).1.length ≤ 1000000) (hbl : bk.length ≤ 1000000) :
    Calls Try.prog 32 #[.pointer (some ⟨g, 0, none⟩), sgV m (.slice A n c), .bool false] w fun e w' => e = .returned (.bool true) ∧ ∃ Fy' vb' vo' out2, out2.map (·.1) = (ry.hear m).1 ∧ LnR W w' Fx Fy' gx gy g sx (ry.hear m).2 (lnA gx gy vt vb' vo') vt vb' vo' ts (bk ++ [((ry.hear m).2.ack, .slice none 0 0)]) (out ++ out2) := by
  obtain ⟨w1, hw1⟩ : ∃ w1, w1 = w.alloc (.cells #[.int .u64 (m.life : Int), .int .u64 (m.seq : Int), .bool m.ack, .slice A n c] 36) := ⟨_, rfl⟩
  have hb1 : Below w.heap.size w w1 := by rw [hw1]; exact (Below.refl _ _).alloc (Nat.le_refl _) _
  have h1 := h.below hb1
  have hk : Bk w1 w.heap.size 36 #[.int .u64 (m.life : Int), .int .u64 (m.seq : Int), .bool m.ack, .slice A n c] := by rw [hw1]; exact Bk.new w _ _
  have HS : Hid (∀ W0, Below w1.heap.size w1 W0 → Calls Try.prog 23 #[.pointer (some ⟨gy, 0, none⟩), sgV m (.slice A n c)] W0 fun e w' => ∃ A' c' out2 Fy', e = .returned (.tuple #[.slice A' (ry.hear m).1.length c', sgV (ry.hear m).2.ack (.slice none 0 0), .int .i64 0]) ∧ Hid (out2.map (·.1) = (ry.hear m).1 ∧ ByR w' W0.heap.size (Un Fx Fy') (.slice A' (ry.hear m).1.length c') out2 ∧ LnR W w' Fx Fy' gx gy g sx (ry.hear m).2 (lnA gx gy vt vb vo) vt vb vo ts bk out ∧ Mv (Un Fx Fy) (Un Fx Fy') W0 w')) := Lib.hid fun W0 hb2 => by
    have h2 := h1.below hb2
    refine (h2.tw.rhear m hm A n c ((hrd.mv (Mv.below7 hb1)).mv (Mv.below7 hb2)) hrf hc).mono ?_
    rintro e w' ⟨A', c', out2, Fy', rfl, t1, t2, t3, t4⟩
    exact ⟨A', c', out2, Fy', rfl, Lib.hid ⟨t1, t2, h2.mv t3 t4, t4⟩⟩
  have HK : Hid (∀ W', Below w1.heap.size w1 W' → W'.cell? ⟨g, 1, none⟩ = some (.pointer (some ⟨gy, 0, none⟩)) ∧ W'.cell? ⟨w.heap.size, 0, none⟩ = some (.int .u64 (m.life : Int)) ∧ W'.cell? ⟨w.heap.size, 1, none⟩ = some (.int .u64 (m.seq : Int)) ∧ W'.cell? ⟨w.heap.size, 2, none⟩ = some (.bool m.ack) ∧ W'.cell? ⟨w.heap.size, 3, none⟩ = some (.slice A n c)) := Lib.hid fun W' hb => by
    have a := h1.below hb
    have b := hk.below hb hk.lt
    exact ⟨a.cells.2.1, b.cell 0, b.cell 1, b.cell 2, b.cell 3⟩
  have hoff : ¬ Un Fx Fy w.heap.size := fun e => by have := h.tw.lt _ e; omega
  have hgw : g < w.heap.size := h.box.lt
  have hs1 : w1.heap.size = w.heap.size + 1 := by rw [hw1]; simp
  have n1 : ¬ w1.heap.size = g := by omega
  have n2 : ¬ w1.heap.size = w.heap.size := by omega
  have HK2 : Hid (∀ W0 w2 A' c' out2 Fy', Below w1.heap.size w1 W0 → Hid (out2.map (·.1) = (ry.hear m).1 ∧ ByR w2 W0.heap.size (Un Fx Fy') (.slice A' (ry.hear m).1.length c') out2 ∧ LnR W w2 Fx Fy' gx gy g sx (ry.hear m).2 (lnA gx gy vt vb vo) vt vb vo ts bk out ∧ Mv (Un Fx Fy) (Un Fx Fy') W0 w2) → w2.cell? ⟨g, 1, none⟩ = some (.pointer (some ⟨gy, 0, none⟩)) ∧ w2.cell? ⟨w.heap.size, 0, none⟩ = some (.int .u64 (m.life : Int)) ∧ w2.cell? ⟨w.heap.size, 1, none⟩ = some (.int .u64 (m.seq : Int)) ∧ w2.cell? ⟨w.heap.size, 2, none⟩ = some (.bool m.ack) ∧ w2.cell? ⟨w.heap.size, 3, none⟩ = some (.slice A n c)) := Lib.hid fun W0 w2 A' c' out2 Fy' hb t1 => by
    have b := (hk.below hb hk.lt).kp t1.out.2.2.2.kp hoff
    exact ⟨t1.out.2.2.1.cells.2.1, b.cell 0, b.cell 1, b.cell 2, b.cell 3⟩
  have HN2 : Hid (∀ W0 w2 A' c' out2 Fy', Below w1.heap.size w1 W0 → Hid (out2.map (·.1) = (ry.hear m).1 ∧ ByR w2 W0.heap.size (Un Fx Fy') (.slice A' (ry.hear m).1.length c') out2 ∧ LnR W w2 Fx Fy' gx gy g sx (ry.hear m).2 (lnA gx gy vt vb vo) vt vb vo ts bk out ∧ Mv (Un Fx Fy) (Un Fx Fy') W0 w2) → ¬ w2.heap.size = g ∧ ¬ w2.heap.size = w.heap.size ∧ w1.heap.size ≤ w2.heap.size) := Lib.hid fun W0 w2 A' c' out2 Fy' hb t1 => by
    have z1 := hb.size
    have z2 := t1.out.2.2.2.kp.size
    exact ⟨by omega, by omega, by omega⟩
  have HZ : Hid (∀ w2 A' c' out2 Fy', Hid (out2.map (·.1) = (ry.hear m).1 ∧ ByR w2 (w1.drew.alloc (.cells #[.int .u64 0, .int .u64 0, .bool false, .slice none 0 0] 36)).heap.size (Un Fx Fy') (.slice A' (ry.hear m).1.length c') out2 ∧ LnR W w2 Fx Fy' gx gy g sx (ry.hear m).2 (lnA gx gy vt vb vo) vt vb vo ts bk out ∧ Mv (Un Fx Fy) (Un Fx Fy') (w1.drew.alloc (.cells #[.int .u64 0, .int .u64 0, .bool false, .slice none 0 0] 36)) w2) → Bk w2 w1.heap.size 36 #[.int .u64 0, .int .u64 0, .bool false, .slice none 0 0] ∧ w2.frozen? ⟨w1.heap.size, 0, none⟩ = false ∧ w2.frozen? ⟨w1.heap.size, 1, none⟩ = false ∧ w2.frozen? ⟨w1.heap.size, 2, none⟩ = false ∧ w2.frozen? ⟨w1.heap.size, 3, none⟩ = false ∧ w2.cell? ⟨w1.heap.size, 0, none⟩ = some (.int .u64 0) ∧ w2.cell? ⟨w1.heap.size, 1, none⟩ = some (.int .u64 0) ∧ w2.cell? ⟨w1.heap.size, 2, none⟩ = some (.bool false) ∧ w2.cell? ⟨w1.heap.size, 3, none⟩ = some (.slice none 0 0)) := Lib.hid fun w2 A' c' out2 Fy' t1 => by
    have b0 : Bk (w1.drew.alloc (.cells #[.int .u64 0, .int .u64 0, .bool false, .slice none 0 0] 36)) w1.heap.size 36 #[.int .u64 0, .int .u64 0, .bool false, .slice none 0 0] := Bk.new w1.drew 36 _
    have b := b0.kp t1.out.2.2.2.kp (fun e => by have := h1.tw.lt _ e; omega)
    exact ⟨b, b.frozen 0, b.frozen 1, b.frozen 2, b.frozen 3, b.cell 0, b.cell 1, b.cell 2, b.cell 3⟩
  have FIN : Hid (∀ W0 w2 A' c' out2 Fy', Below w1.heap.size w1 W0 → Hid (out2.map (·.1) = (ry.hear m).1 ∧ ByR w2 W0.heap.size (Un Fx Fy') (.slice A' (ry.hear m).1.length c') out2 ∧ LnR W w2 Fx Fy' gx gy g sx (ry.hear m).2 (lnA gx gy vt vb vo) vt vb vo ts bk out ∧ Mv (Un Fx Fy) (Un Fx Fy') W0 w2) → ∀ p w2' w3 cs cs', Below w2.heap.size w2 w2' → Bk w2' p 36 cs → w1.heap.size ≤ p → (p < W0.heap.size ∨ w2.heap.size ≤ p) → Kp (· = p) w2' w3 → Bk w3 p 36 cs' → ByR w3 W0.heap.size (Un Fx Fy') (.slice A' (ry.hear m).1.length c') out2 ∧ LnR W w3 Fx Fy' gx gy g sx (ry.hear m).2 (lnA gx gy vt vb vo) vt vb vo ts bk out ∧ Bk w3 p 36 cs' ∧ ∀ k, vb.ownBlock = some k → k ≠ p) := Lib.hid fun W0 w2 A' c' out2 Fy' hb t1 p w2' w3 cs cs' hb2 hkz h1p hp hkp hk3 => by
    have l2 := t1.out.2.2.1.below hb2
    have b2 := t1.out.2.1.mv (Mv.below7 hb2 : Mv (Un Fx Fy') (Un Fx Fy') w2 w2')
    have hbt := h1.box.lt
    refine ⟨b2.kp1 hkz hkp, l2.kp1 hkz hkp (fun e => ?_) (by omega) (fun k e => by have := (h1.toR.own.lt k e).2; omega) (fun k e => by have := (h1.bkR.own.lt k e).2; omega) (by have := h1.tw.below.size; omega), hk3, fun k e => by have := (h1.bkR.own.lt k e).2; omega⟩
    rcases hp with hp | hp
    · rcases t1.out.2.2.2.new p e with h5 | h5
      · have := h1.tw.lt p h5; omega
      · omega
    · have := t1.out.2.2.1.tw.lt p e; omega
  obtain ⟨j0, j1, j2, j3, j4⟩ := h1.cells
  have i0 := hk.cell 0
  have i1 := hk.cell 1
  have i2 := hk.cell 2
  have i3 := hk.cell 3
  have HW := Lib.hid hw1
  rw [hw1] at j1 i0 i1 i2 i3
  obtain ⟨ml, ms, ma, mb⟩ := m
  unfold sgV at *
  dsimp only at *
  generalize ry.hear ⟨ml, ms, ma, mb⟩ = R at *
  obtain ⟨rl, ry2⟩ := R
  dsimp only at *
  clear h h1 hk hb1 j0 j2 j3 j4 hw1 hm hrd hrf hc hoff hgw hs1
  go_enter Try.func32, Try.ntmps32
  go_wp2_with fail
  rw [← HW.out]
  go_cut [7, 8, 9] (fun l a e w' => ∃ (A' : Option Addr) (c' : Nat) (out2 : List (List UInt8 × Value)) (Fy' : Nat → Prop) (gq b2 : Nat), l = .slice A' rl.length c' ∧ a = .pointer (some ⟨gq, 0, none⟩) ∧ e = .int .i64 0 ∧ Hid (out2.map (·.1) = rl ∧ ByR w' b2 (Un Fx Fy') (.slice A' rl.length c') out2 ∧ LnR W w' Fx Fy' gx gy g sx ry2 (lnA gx gy vt vb vo) vt vb vo ts bk out ∧ Bk w' gq 36 #[.int .u64 (ry2.ack.life : Int), .int .u64 (ry2.ack.seq : Int), .bool ry2.ack.ack, .slice none 0 0] ∧ ∀ k, vb.ownBlock = some k → k ≠ gq))
  case first =>
    (go_region_held3 (fun W' => W'.cell? ⟨g, 1, none⟩ = some (.pointer (some ⟨gy, 0, none⟩)) ∧ W'.cell? ⟨w.heap.size, 0, none⟩ = some (.int .u64 (ml : Int)) ∧ W'.cell? ⟨w.heap.size, 1, none⟩ = some (.int .u64 (ms : Int)) ∧ W'.cell? ⟨w.heap.size, 2, none⟩ = some (.bool ma) ∧ W'.cell? ⟨w.heap.size, 3, none⟩ = some (.slice A n c)) (first | exact hk2 | (refine HK.out _ ?_; (repeat' (first | assumption | exact Below.refl _ _ | exact Nat.le_refl _ | apply Below.drew | (refine Below.alloc ?_ ?_ _) | (simp; done) | (simp; omega))); done) | go_keep)
        (first
          | (go_at_call 23; (with_reducible refine (HS.out w1.drew (Below.refl _ _).drew).mono ?_); rintro e w2 ⟨A', c', out2, Fy', rfl, t1⟩; have hk2 := HK2.out _ _ _ _ _ _ (Below.refl _ _).drew t1; have n3 := HN2.out _ _ _ _ _ _ (Below.refl _ _).drew t1)
          | (go_at_call 23; (refine (HS.out (w1.drew.alloc (.cells #[.int .u64 0, .int .u64 0, .bool false, .slice none 0 0] 36)) ((Below.refl _ _).drew.alloc (Nat.le_refl _) _)).mono ?_); rintro e w2 ⟨A', c', out2, Fy', rfl, t1⟩; have hk2 := HK2.out _ _ _ _ _ _ ((Below.refl _ _).drew.alloc (Nat.le_refl _) _) t1; have n3 := HN2.out _ _ _ _ _ _ ((Below.refl _ _).drew.alloc (Nat.le_refl _) _) t1; obtain ⟨zb, y0, y1, y2, y3, z0, z1, z2, z3⟩ := HZ.out _ _ _ _ _ t1; have HZB := Lib.hid zb; clear zb)))
    · have hF := FIN.out _ _ _ _ _ _ (Below.refl _ _).drew t1 w2.heap.size (w2.alloc (.cells #[.int .u64 (ry2.ack.life : Int), .int .u64 (ry2.ack.seq : Int), .bool ry2.ack.ack, .slice none 0 0] 36)) (w2.alloc (.cells #[.int .u64 (ry2.ack.life : Int), .int .u64 (ry2.ack.seq : Int), .bool ry2.ack.ack, .slice none 0 0] 36)) _ _ ((Below.refl _ _).alloc (Nat.le_refl _) _) (Bk.new w2 _ _) n3.2.2 (.inr (Nat.le_refl _)) (Kp.refl _ _) (Bk.new w2 36 #[.int .u64 (ry2.ack.life : Int), .int .u64 (ry2.ack.seq : Int), .bool ry2.ack.ack, .slice none 0 0])
      have HX := Lib.hid (And.intro t1.out.1 hF)
      clear hF t1 hk2 n3 HK HK2 HN2 HZ FIN HS
      go_wp2_with fail
      go_meet
      exact ⟨_, _, _, _, _, _, rfl, rfl, rfl, HX⟩
    · have hkp : Kp (· = w1.heap.size) w2 ((((w2.setCell ⟨w1.heap.size, 0, none⟩ (.int .u64 (ry2.ack.life : Int))).setCell ⟨w1.heap.size, 1, none⟩ (.int .u64 (ry2.ack.seq : Int))).setCell ⟨w1.heap.size, 2, none⟩ (.bool ry2.ack.ack)).setCell ⟨w1.heap.size, 3, none⟩ (.slice none 0 0)) :=
        (((Kp.set_ (F := (· = w1.heap.size)) (p := ⟨w1.heap.size, 0, none⟩) rfl _).trans (Kp.set_ (F := (· = w1.heap.size)) (p := ⟨w1.heap.size, 1, none⟩) rfl _)).trans (Kp.set_ (F := (· = w1.heap.size)) (p := ⟨w1.heap.size, 2, none⟩) rfl _)).trans (Kp.set_ (F := (· = w1.heap.size)) (p := ⟨w1.heap.size, 3, none⟩) rfl _)
      have hF := FIN.out _ _ _ _ _ _ ((Below.refl _ _).drew.alloc (Nat.le_refl _) _) t1 w1.heap.size w2 _ #[.int .u64 0, .int .u64 0, .bool false, .slice none 0 0] #[.int .u64 (ry2.ack.life : Int), .int .u64 (ry2.ack.seq : Int), .bool ry2.ack.ack, .slice none 0 0] (Below.refl _ _) HZB.out (Nat.le_refl _) (.inl (drew_alloc_lt w1 _)) hkp ((((HZB.out.set_ 0 _).set_ 1 _).set_ 2 _).set_ 3 _)
      have HX := Lib.hid (And.intro t1.out.1 hF)
      clear hF t1 hk2 n3 HK HK2 HN2 HZ FIN HS hkp y0 y1 y2 y3 z0 z1 z2 z3 HZB
      go_wp2_with fail
      go_meet
      exact ⟨_, _, _, _, _, _, rfl, rfl, rfl, HX⟩
  case rest =>
    obtain ⟨A', c', out2, Fy', gq, b2, rfl, rfl, rfl, HX⟩ := hcut
    clear HK HK2 HN2 HZ FIN HS j1 i0 i1 i2 i3 n1 n2 HW
    obtain ⟨sn, sA, scell, sone⟩ := HX.out.2.1.src
    have hl2 : rl.length = out2.length := sn
    obtain ⟨i0, hi0, hz0, hz1, hz2⟩ := info_parts infoBy7
    obtain ⟨i1, hi1, hy0, hy1, hy2⟩ := info_parts infoSeg7
    have HI := Lib.hid (And.intro hi0 (And.intro hz0 (And.intro hz1 hz2)))
    have HI1 := Lib.hid (And.intro hi1 (And.intro hy0 (And.intro hy1 hy2)))
    have HSrc := Lib.hid (And.intro sA (And.intro scell sone))
    have HLn := Lib.hid hl2
    have hz : W.heap.size ≤ wc.heap.size := HX.out.2.2.1.tw.below.size
    obtain ⟨Av, cv, hvo, _⟩ := own_shape HX.out.2.2.1.outR.own
    obtain ⟨Bv, cb, hvb, _⟩ := own_shape HX.out.2.2.1.bkR.own
    have hgq : ¬ gq = g := fun e => by
      have a := HX.out.2.2.1.box
      have b := HX.out.2.2.2.1
      rw [e] at b
      unfold Bk at a b
      rw [a] at b
      injection b with b
      injection b with _ b _
      exact absurd b (by decide)
    subst hvo
    subst hvb
    obtain ⟨j0, j1, j2, j3, j4⟩ := HX.out.2.2.1.cells
    clear sn sA scell sone hl2 hi0 hz0 hz1 hz2 hi1 hy0 hy1 hy2
    go_wp2_with (at_builtin; go_loud (refine wpList_append_app _ rfl _ _ 33 rfl W.heap.size 34 i0 _ 1 24 Try.underlying33 HI.out.1 HI.out.2.1 HI.out.2.2.1 HI.out.2.2.2 rfl _ _ _ rfl HX.out.2.2.1.outR.own A' rl.length c' (out2.map (·.2)) rfl (by rw [HLn.out]; simp) HSrc.out.1 HSrc.out.2.1 HSrc.out.2.2 (by unfold maxLen; omega) (by omega) hz ?_))
    intro v6 w6 ha
    rw [HLn.out] at ha
    obtain ⟨A6, c6, rfl, _⟩ := own_shape ha.own
    have l6 := HX.out.2.2.1.appOut HX.out.2.1 ha
    have b6 : Bk w6 gq 36 #[.int .u64 (ry2.ack.life : Int), .int .u64 (ry2.ack.seq : Int), .bool ry2.ack.ack, .slice none 0 0] := HX.out.2.2.2.1.kp (Kp.of_row (F := fun k => (Value.slice Av out.length cv).ownBlock = some k) ha.grow (fun g e => e)) (own_bk7 HX.out.2.2.1.outR.own HX.out.2.2.2.1 (by decide))
    have L6 := Lib.hid (l6.set 4 (.slice A6 (out.length + out2.length) c6))
    have B6 := Lib.hid b6
    clear ha j0 j1 j2 j3 j4
    obtain ⟨j0, j1, j2, j3, j4⟩ : w6.cell? ⟨g, 0, none⟩ = some (.pointer (some ⟨gx, 0, none⟩)) ∧ w6.cell? ⟨g, 1, none⟩ = some (.pointer (some ⟨gy, 0, none⟩)) ∧ w6.cell? ⟨g, 2, none⟩ = some vt ∧ w6.cell? ⟨g, 3, none⟩ = some (.slice Bv bk.length cb) ∧ w6.cell? ⟨g, 4, none⟩ = some (.slice Av out.length cv) := ⟨l6.box.cell 0, l6.box.cell 1, l6.box.cell 2, l6.box.cell 3, l6.box.cell 4⟩
    have f3 := l6.box.frozen 3
    have f4 := l6.box.frozen 4
    have y0 := b6.cell 0
    have y1 := b6.cell 1
    have y2 := b6.cell 2
    have y3 := b6.cell 3
    clear l6 b6
    obtain ⟨w7, hw7⟩ : ∃ w7, w7 = w6.setCell ⟨g, 4, none⟩ (.slice A6 (out.length + out2.length) c6) := ⟨_, rfl⟩
    have HW7 := Lib.hid hw7
    clear hw7
    go_upto_region 5 with (fail)
    rw [← HW7.out]
    have l7 := L6.out
    rw [← HW7.out] at l7
    have b7 : Bk w7 gq 36 #[.int .u64 (ry2.ack.life : Int), .int .u64 (ry2.ack.seq : Int), .bool ry2.ack.ack, .slice none 0 0] := by
      rw [HW7.out]
      exact B6.out.kp (Kp.set_ (F := (· = g)) (p := ⟨g, 4, none⟩) rfl _) hgq
    clear j0 j1 j2 j3 j4 f3 f4 y0 y1 y2 y3
    have j3 : w7.cell? ⟨g, 3, none⟩ = some (.slice Bv bk.length cb) := l7.box.cell 3
    have f3 := l7.box.frozen 3
    have y0 := b7.cell 0
    have y1 := b7.cell 1
    have y2 := b7.cell 2
    have y3 := b7.cell 3
    have hba : Below w7.heap.size w7 (w7.drew.alloc (.cells #[.int .u64 (ry2.ack.life : Int), .int .u64 (ry2.ack.seq : Int), .bool ry2.ack.ack, .slice none 0 0] 36)) := (Below.refl _ _).drew.alloc (Nat.le_refl _) _
    have l8 := l7.below hba
    have L8 := Lib.hid l8
    have HOne : Hid (∀ u ∈ ([.int .u64 (ry2.ack.life : Int), .int .u64 (ry2.ack.seq : Int), .bool ry2.ack.ack, .slice none 0 0] : List Value), u.oneCell' = true) := Lib.hid fun u hu => by simp at hu; rcases hu with rfl | rfl | rfl | rfl <;> rfl
    have HK7 : Hid (∀ W', Below w7.heap.size w7 W' → W'.cell? ⟨g, 3, none⟩ = some (.slice Bv bk.length cb) ∧ W'.frozen? ⟨g, 3, none⟩ = false ∧ W'.cell? ⟨gq, 0, none⟩ = some (.int .u64 (ry2.ack.life : Int)) ∧ W'.cell? ⟨gq, 1, none⟩ = some (.int .u64 (ry2.ack.seq : Int)) ∧ W'.cell? ⟨gq, 2, none⟩ = some (.bool ry2.ack.ack) ∧ W'.cell? ⟨gq, 3, none⟩ = some (.slice none 0 0)) := Lib.hid fun W' hb => by
      have a := l7.below hb
      have b := b7.below hb b7.lt
      exact ⟨a.box.cell 3, a.box.frozen 3, b.cell 0, b.cell 1, b.cell 2, b.cell 3⟩
    have HF9 : Hid (∀ v' w3, App (w7.drew.alloc (.cells #[.int .u64 (ry2.ack.life : Int), .int .u64 (ry2.ack.seq : Int), .bool ry2.ack.ack, .slice none 0 0] 36)) w3 W.heap.size 36 4 (.slice Bv bk.length cb) v' bk.length 1 (sgC bk) [.int .u64 (ry2.ack.life : Int), .int .u64 (ry2.ack.seq : Int), .bool ry2.ack.ack, .slice none 0 0] → Hid (LnR W w3 Fx Fy' gx gy g sx ry2 ((lnA gx gy vt (.slice Bv bk.length cb) (.slice Av out.length cv)).setIfInBounds 4 (.slice A6 (out.length + out2.length) c6)) vt v' (.slice A6 (out.length + out2.length) c6) ts (bk ++ [(ry2.ack, .slice none 0 0)]) (out ++ out2)) ∧ w3.cell? ⟨g, 3, none⟩ = some (.slice Bv bk.length cb) ∧ w3.frozen? ⟨g, 3, none⟩ = false ∧ w3.cell? ⟨gq, 0, none⟩ = some (.int .u64 (ry2.ack.life : Int)) ∧ w3.cell? ⟨gq, 1, none⟩ = some (.int .u64 (ry2.ack.seq : Int)) ∧ w3.cell? ⟨gq, 2, none⟩ = some (.bool ry2.ack.ack) ∧ w3.cell? ⟨gq, 3, none⟩ = some (.slice none 0 0)) := Lib.hid fun v' w3 happ => by
      have l9 := L8.out.appBk (es2 := [(ry2.ack, .slice none 0 0)]) (fun e he => by rw [List.mem_singleton.1 he]; exact BodR.nil _ _ _ rfl) happ
      have b9 := (b7.below hba b7.lt).kp (Kp.of_row (F := fun k => (Value.slice Bv bk.length cb).ownBlock = some k) happ.grow (fun g e => e)) (fun e => HX.out.2.2.2.2 _ e rfl)
      exact ⟨Lib.hid l9, l9.box.cell 3, l9.box.frozen 3, b9.cell 0, b9.cell 1, b9.cell 2, b9.cell 3⟩
    have hz8 : W.heap.size ≤ (w7.drew.alloc (.cells #[.int .u64 (ry2.ack.life : Int), .int .u64 (ry2.ack.seq : Int), .bool ry2.ack.ack, .slice none 0 0] 36)).heap.size := l8.tw.below.size
    clear l7 b7 hba l8
    have a3 : (w7.alloc (.cells #[.int .u64 (ry2.ack.life : Int), .int .u64 (ry2.ack.seq : Int), .bool ry2.ack.ack, .slice none 0 0] 36)).cell? ⟨g, 3, none⟩ = some (.slice Bv bk.length cb) := L8.out.box.cell 3
    clear HK7
    first
    | (go_region_law ((refine step_append_app _ rfl _ _ 45 (by rfl) W.heap.size 36 i1 _ 4 48 Try.underlying45 HI1.out.1 HI1.out.2.1 HI1.out.2.2.1 HI1.out.2.2.2 rfl (.slice Bv bk.length cb) bk.length (sgC bk) (by rfl) L8.out.bkR.own (some ⟨w7.heap.size, 0, none⟩) 1 1 [.int .u64 (ry2.ack.life : Int), .int .u64 (ry2.ack.seq : Int), .bool ry2.ack.ack, .slice none 0 0] (by rfl) (by rfl) (by intro e; cases e) (new_cells _ _ _ rfl) HOne.out (by unfold maxLen; omega) (by omega) hz8 ?_); intro v' w3 happ; (obtain ⟨H9, k3, fk3, _⟩ := HF9.out v' w3 happ); (obtain ⟨A9, c9, rfl, _⟩ := own_shape happ.own); clear happ))
    | fail
    all_goals
      have HL := Lib.hid (H9.out.set 3 (.slice A9 (bk.length + 1) c9))
      clear k3 fk3 H9 a3 j3 f3 y0 y1 y2 y3 HF9 L8
      go_wp2
      go_ret
      exact ⟨rfl, Fy', _, _, out2, HX.out.1, HL.out⟩
end
end Go.Proofs.Ytfdlhefbbhblnaa
