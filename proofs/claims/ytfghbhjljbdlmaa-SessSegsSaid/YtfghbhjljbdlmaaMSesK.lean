/- Of the proofs of layer 4, merged: SesK, SesL. -/
import Derived.Test.YtfghbhjljbdlmaaM1SesX
import Derived.Test.YtfghbhjljbdlmaaM1SesI
import Derived.Lib.SlBytesConst

/- Layer 7's laws: a sender and a receiver of the call's own, apart from one another and from what they have given. -/
namespace Go.Proofs.Ytfghbhjljbdlmaa
open Go.RowKit Go.Maps

def Apt7 (w : World) (G : Nat → Prop) (k : Nat) : Prop := k < w.heap.size ∧ ¬ G k
structure Rd7 (w : World) (G : Nat → Prop) (A : Option Addr) (n : Nat) (l : List UInt8) : Prop where
  rd : Rd w w.heap.size A n l
  off : ∀ ad, A = some ad → Apt7 w G ad.block
section
variable {w w' : World} {G G' F : Nat → Prop}
theorem Apt7.mv {k : Nat} (h : Apt7 w G k) (hm : Mv G G' w w') : Apt7 w' G' k := ⟨Nat.lt_of_lt_of_le h.1 hm.kp.size, fun hf => by
  rcases hm.new k hf with h1 | h1
  · exact h.2 h1
  · have := h.1; omega⟩
theorem Rd7.mv {A : Option Addr} {n : Nat} {l : List UInt8} (h : Rd7 w G A n l) (hm : Mv G G' w w') : Rd7 w' G' A n l :=
  ⟨(Rd.kp7 h.rd hm.kp fun ad e => (h.off ad e).2).more hm.kp.size, fun ad e => (h.off ad e).mv hm⟩
theorem Rd7.sr {A : Option Addr} {n : Nat} {l : List UInt8} (h : Rd7 w G A n l) (hF : ∀ k, F k → G k) : SRd w F A n l := ⟨h.rd, fun ad e hf => (h.off ad e).2 (hF _ hf)⟩
theorem Rd7.of_own {base n c : Nat} {A : Option Addr} {l : List UInt8} (ho : w.ownsRow base 5 1 (.slice A n c) n (u8s l)) (hG : ∀ k, (Value.slice A n c).ownBlock = some k → ¬ G k) : Rd7 w G A n l :=
  ⟨Rd.of_own ho, fun ad e => by
    subst e
    exact ⟨(ho.lt ad.block rfl).2, hG ad.block rfl⟩⟩
theorem Rd7.nil (w : World) (G : Nat → Prop) : Rd7 w G none 0 [] := ⟨Rd.nil _ _ _, fun ad e => by cases e⟩
theorem Mv.below7 (hb : Below w.heap.size w w') : Mv G G w w' := Mv.of (Kp.of_below hb)
end

def Un (Fx Fy : Nat → Prop) : Nat → Prop := fun k => Fx k ∨ Fy k
/-- A sender and a receiver. -/
structure Tw (W w : World) (Fx Fy : Nat → Prop) (gx gy : Nat) (sx : Sd) (ry : Rc) : Prop where
  ps : PS w Fx gx sx
  pr : PR w Fy gy ry
  dis : ∀ k, Fx k → ¬ Fy k
  ge : ∀ k, Un Fx Fy k → W.heap.size ≤ k
  below : Below W.heap.size W w
section
variable {W w w' : World} {Fx Fy Fx' Fy' : Nat → Prop} {gx gy : Nat} {sx sx' : Sd} {ry ry' : Rc}
theorem Tw.lt (h : Tw W w Fx Fy gx gy sx ry) : ∀ k, Un Fx Fy k → k < w.heap.size := fun k e => e.elim (h.ps.lt k) (h.pr.lt k)
theorem Tw.x (h : Tw W w Fx Fy gx gy sx ry) (hp : PS w' Fx' gx sx') (hm : Mv Fx Fx' w w') : Tw W w' Fx' Fy gx gy sx' ry ∧ Mv (Un Fx Fy) (Un Fx' Fy) w w' := by
  have hz := h.below.size
  refine ⟨⟨hp, h.pr.kp hm.kp fun k hy hx => h.dis k hx hy, fun k hx hy => ?_, fun k e => ?_, h.below.trans (hm.kp.below (fun k e => h.ge k (.inl e)) hz)⟩, ⟨hm.kp.mono fun k e => .inl e, fun k e => ?_⟩⟩
  · rcases hm.new k hx with h1 | h1
    · exact h.dis k h1 hy
    · have := h.pr.lt k hy; omega
  · rcases e with e | e
    · rcases hm.new k e with h1 | h1
      · exact h.ge k (.inl h1)
      · omega
    · exact h.ge k (.inr e)
  · rcases e with e | e
    · rcases hm.new k e with h1 | h1
      · exact .inl (.inl h1)
      · exact .inr h1
    · exact .inl (.inr e)
theorem Tw.y (h : Tw W w Fx Fy gx gy sx ry) (hp : PR w' Fy' gy ry') (hm : Mv Fy Fy' w w') : Tw W w' Fx Fy' gx gy sx ry' ∧ Mv (Un Fx Fy) (Un Fx Fy') w w' := by
  have hz := h.below.size
  refine ⟨⟨h.ps.kp hm.kp fun k hx hy => h.dis k hx hy, hp, fun k hx hy => ?_, fun k e => ?_, h.below.trans (hm.kp.below (fun k e => h.ge k (.inr e)) hz)⟩, ⟨hm.kp.mono fun k e => .inr e, fun k e => ?_⟩⟩
  · rcases hm.new k hy with h1 | h1
    · exact h.dis k hx h1
    · have := h.ps.lt k hx; omega
  · rcases e with e | e
    · exact h.ge k (.inl e)
    · rcases hm.new k e with h1 | h1
      · exact h.ge k (.inr h1)
      · omega
  · rcases e with e | e
    · exact .inl (.inl e)
    · rcases hm.new k e with h1 | h1
      · exact .inl (.inr h1)
      · exact .inr h1
theorem Tw.mvb (h : Tw W w Fx Fy gx gy sx ry) (hb : Below w.heap.size w w') : Tw W w' Fx Fy gx gy sx ry := ⟨h.ps.below hb, h.pr.below hb, h.dis, h.ge, h.below.trans (hb.mono h.below.size)⟩
theorem Tw.kp {G : Nat → Prop} (h : Tw W w Fx Fy gx gy sx ry) (hk : Kp G w w') (hd : ∀ k, Un Fx Fy k → ¬ G k) (hG : ∀ k, G k → W.heap.size ≤ k) : Tw W w' Fx Fy gx gy sx ry :=
  ⟨h.ps.kp hk fun k e => hd k (.inl e), h.pr.kp hk fun k e => hd k (.inr e), h.dis, h.ge, h.below.trans (hk.below hG h.below.size)⟩

/-- A row of segments that was made, apart from both. -/
structure SgR (w : World) (base : Nat) (G : Nat → Prop) (v : Value) (es : List Sge) : Prop where
  own : w.ownsRow base 60 4 v es.length (sgC es)
  off : ∀ k, v.ownBlock = some k → Apt7 w G k
  each : ∀ e ∈ es, w.ownsRow 0 5 1 e.2 e.1.body.length (u8s e.1.body) ∧ ∀ k, e.2.ownBlock = some k → Apt7 w G k
theorem SgR.body {base : Nat} {G : Nat → Prop} {v : Value} {es : List Sge} (h : SgR w base G v es) : ∀ e ∈ es, ∃ A c, e.2 = .slice A e.1.body.length c ∧ Rd7 w G A e.1.body.length e.1.body := fun e he => by
  obtain ⟨h1, h2⟩ := h.each e he
  obtain ⟨A, c, e3, _⟩ := own_shape h1
  rw [e3] at h1 h2
  exact ⟨A, c, e3, Rd7.of_own h1 fun k e => (h2 k e).2⟩
theorem SgR.mv {G G' : Nat → Prop} {base : Nat} {v : Value} {es : List Sge} (h : SgR w base G v es) (hm : Mv G G' w w') : SgR w' base G' v es :=
  ⟨own_kp h.own hm.kp fun k e => (h.off k e).2, fun k e => (h.off k e).mv hm, fun e he => ⟨own_kp (h.each e he).1 hm.kp fun k e2 => ((h.each e he).2 k e2).2, fun k e2 => ((h.each e he).2 k e2).mv hm⟩⟩
theorem SgR.nil (w : World) (base : Nat) (G : Nat → Prop) : SgR w base G (.slice none 0 0) [] := ⟨World.ownsRow_nil _ _ _ _, (fun k e => by cases e), fun e he => (List.not_mem_nil he).elim⟩
theorem SgR.of_row {base : Nat} {G : Nat → Prop} {v : Value} {es : List Sge} (h : SgRow w base v es) (hG : ∀ k, G k → k < base) : SgR w base G v es := by
  refine ⟨h.own, fun k e => ⟨(h.own.lt k e).2, fun hg => by have := (h.own.lt k e).1; have := hG k hg; omega⟩, fun e he => ?_⟩
  obtain ⟨i, hi, rfl⟩ := List.mem_iff_getElem.1 he
  have h1 := h.fam.each i es[i].2 (by simp [hi])
  have e2 : (es.map (·.1.body)).getD i [] = es[i].1.body := by simp [List.getD, hi]
  rw [e2] at h1
  exact ⟨own_mono h1 (Nat.zero_le _), fun k e => ⟨(h1.lt k e).2, fun hg => by have := (h1.lt k e).1; have := hG k hg; omega⟩⟩
theorem SgR.cell {base : Nat} {G : Nat → Prop} {v : Value} {es : List Sge} (h : SgR w base G v es) (i : Nat) (hi : i < es.length) : ∃ R c, v = .slice (some ⟨R, 0, none⟩) es.length c ∧ w.cell? ⟨R, i * 4, none⟩ = some (.int .u64 (es[i].1.life : Int)) ∧ w.cell? ⟨R, i * 4 + 1, none⟩ = some (.int .u64 (es[i].1.seq : Int)) ∧ w.cell? ⟨R, i * 4 + 2, none⟩ = some (.bool es[i].1.ack) ∧ w.cell? ⟨R, i * 4 + 3, none⟩ = some es[i].2 := by
  rcases h.own.2 with ⟨_, h0⟩ | ⟨g, cap, cur, rfl, _, hh, h1, h2, _⟩
  · omega
  · have q := fun j (hj : j < 4) u (hu : (sgE es[i])[j]? = some u) => h.own.cells (g := g) rfl (i * 4 + j) u (by rw [sgC_at es i j hi hj]; exact hu)
    have q0 := q 0 (by omega) _ rfl
    have q1 := q 1 (by omega) _ rfl
    have q2 := q 2 (by omega) _ rfl
    have q3 := q 3 (by omega) _ rfl
    rw [Addr.add_lit, Nat.zero_add] at q0 q1 q2 q3
    exact ⟨g, cap, rfl, q0, q1, q2, q3⟩

/-- A row of lists that came out, apart from both. -/
structure ByR (w : World) (base : Nat) (G : Nat → Prop) (v : Value) (out : List (List UInt8 × Value)) : Prop where
  own : w.ownsRow base 32 1 v out.length (out.map (·.2))
  off : ∀ k, v.ownBlock = some k → Apt7 w G k
  each : ∀ x ∈ out, w.ownsRow 0 5 1 x.2 x.1.length (u8s x.1) ∧ ∀ k, x.2.ownBlock = some k → Apt7 w G k
theorem ByR.body {base : Nat} {G : Nat → Prop} {v : Value} {out : List (List UInt8 × Value)} (h : ByR w base G v out) : ∀ x ∈ out, ∃ A c, x.2 = .slice A x.1.length c ∧ Rd7 w G A x.1.length x.1 := fun e he => by
  obtain ⟨h1, h2⟩ := h.each e he
  obtain ⟨A, c, e3, _⟩ := own_shape h1
  rw [e3] at h1 h2
  exact ⟨A, c, e3, Rd7.of_own h1 fun k e => (h2 k e).2⟩
/-- Lists more. -/
theorem ByR.app {G : Nat → Prop} {base : Nat} {lv lv' bv : Value} {out out2 : List (List UInt8 × Value)} {base2 : Nat} (h : ByR w base G lv out) (h2 : ByR w base2 G bv out2) (hG : ∀ k, G k → k < w.heap.size) (happ : App w w' base 32 1 lv lv' out.length out2.length (out.map (·.2)) (out2.map (·.2))) :
    ByR w' base G lv' (out ++ out2) ∧ Kp (fun k => lv.ownBlock = some k) w w' := by
  have hk : Kp (fun k => lv.ownBlock = some k) w w' := Kp.of_row happ.grow (fun g e => e)
  have hz := hk.size
  have heach : ∀ x : List UInt8 × Value, (w.ownsRow 0 5 1 x.2 x.1.length (u8s x.1) ∧ ∀ k, x.2.ownBlock = some k → Apt7 w G k) → (w'.ownsRow 0 5 1 x.2 x.1.length (u8s x.1) ∧ ∀ k, x.2.ownBlock = some k → Apt7 w' G k) := fun x hx =>
    ⟨own_kp hx.1 hk fun k e1 e2 => by
      rcases own_types_ne hx.1 h.own (by decide) with h' | h'
      · rw [h'] at e1; cases e1
      · exact h' (e1.trans e2.symm), fun k e => ⟨by have := (hx.2 k e).1; omega, (hx.2 k e).2⟩⟩
  refine ⟨⟨by rw [List.length_append, List.map_append]; exact happ.own, fun k e => ⟨(happ.own.lt k e).2, fun hg => ?_⟩, fun x hx => ?_⟩, hk⟩
  · rcases happ.block with h' | h'
    · rw [h'] at e; exact (h.off k e).2 hg
    · rw [h'] at e
      injection e with e
      have := hG k hg
      omega
  · rcases List.mem_append.1 hx with hx | hx
    · exact heach x (h.each x hx)
    · exact heach x (h2.each x hx)
theorem ByR.mv {G G' : Nat → Prop} {base : Nat} {v : Value} {out : List (List UInt8 × Value)} (h : ByR w base G v out) (hm : Mv G G' w w') : ByR w' base G' v out :=
  ⟨own_kp h.own hm.kp fun k e => (h.off k e).2, fun k e => (h.off k e).mv hm, fun e he => ⟨own_kp (h.each e he).1 hm.kp fun k e2 => ((h.each e he).2 k e2).2, fun k e2 => ((h.each e he).2 k e2).mv hm⟩⟩
theorem ByR.nil (w : World) (base : Nat) (G : Nat → Prop) : ByR w base G (.slice none 0 0) [] := ⟨World.ownsRow_nil _ _ _ _, (fun k e => by cases e), fun e he => (List.not_mem_nil he).elim⟩
theorem ByR.cell {base : Nat} {G : Nat → Prop} {v : Value} {out : List (List UInt8 × Value)} (h : ByR w base G v out) (i : Nat) (hi : i < out.length) : ∃ R c, v = .slice (some ⟨R, 0, none⟩) out.length c ∧ w.cell? ⟨R, i, none⟩ = some out[i].2 := by
  rcases h.own.2 with ⟨_, h0⟩ | ⟨g, cap, cur, rfl, _, hh, h1, h2, _⟩
  · omega
  · have q0 := h.own.cells (g := g) rfl i out[i].2 (by simp [hi])
    rw [Addr.add_lit, Nat.zero_add] at q0
    exact ⟨g, cap, rfl, q0⟩

theorem Tw.tick (h : Tw W w Fx Fy gx gy sx ry) (ht : sx.tick + 1 < 4611686018427387904) : Calls Try.prog 47 #[.pointer (some ⟨gx, 0, none⟩)] w fun e w' => ∃ A c es, e = .returned (.slice A sx.out.length c) ∧ es.map (·.1) = sx.out ∧ SgR w' w.heap.size (Un Fx Fy) (.slice A sx.out.length c) es ∧ Tw W w' Fx Fy gx gy sx.tickS ry ∧ Mv (Un Fx Fy) (Un Fx Fy) w w' := by
  refine (sTick_any h.ps ht).mono ?_
  rintro e w' ⟨v, es, rfl, h1, h2, h3, h4⟩
  obtain ⟨A, c, rfl, _⟩ := own_shape h2.own
  have hl : es.length = sx.out.length := by rw [← h1]; simp
  have ht := h.x h3 (Mv.of h4)
  have hr := SgR.of_row h2 (G := Un Fx Fy) h.lt
  rw [hl] at hr
  exact ⟨A, c, es, by rw [hl], h1, hr, ht.1, ht.2⟩
theorem Tw.push (h : Tw W w Fx Fy gx gy sx ry) (A : Option Addr) (n c : Nat) (l : List UInt8) (hr : Rd w w.heap.size A n l) (hcm : sx.came + sx.queue.length + 1 < 4611686018427387904) :
    Calls Try.prog 45 #[.pointer (some ⟨gx, 0, none⟩), .slice A n c] w fun e w' => e = .returned (.int .i64 (sx.push l).1) ∧ ∃ Fx', Tw W w' Fx' Fy gx gy (sx.push l).2 ry ∧ Mv (Un Fx Fy) (Un Fx' Fy) w w' := by
  refine (sPush_any h.ps A n c l hr hcm).mono ?_
  rintro e w' ⟨rfl, Fx', h1, h2⟩
  have := h.x h1 h2
  exact ⟨rfl, Fx', this.1, this.2⟩
theorem Tw.shear (h : Tw W w Fx Fy gx gy sx ry) (m : Sg) (hm : m.Ok) (A : Option Addr) (n c : Nat) (hl : m.body.length = n) :
    Calls Try.prog 50 #[.pointer (some ⟨gx, 0, none⟩), sgV m (.slice A n c)] w fun e w' => e = .returned (.int .i64 (sx.hear m).1) ∧ ∃ Fx', Tw W w' Fx' Fy gx gy (sx.hear m).2 ry ∧ Mv (Un Fx Fy) (Un Fx' Fy) w w' := by
  refine (sHear_any h.ps m hm A n c hl).mono ?_
  rintro e w' ⟨rfl, Fx', h1, h2⟩
  have := h.x h1 h2
  exact ⟨rfl, Fx', this.1, this.2⟩
theorem Tw.rhear (h : Tw W w Fx Fy gx gy sx ry) (m : Sg) (hm : m.Ok) (A : Option Addr) (n c : Nat) (hrd : Rd7 w (Un Fx Fy) A n m.body) (hrf : ry.refuse m = 0) (hc : ry.came + ry.early.length + 1 < 4611686018427387904) :
    Calls Try.prog 54 #[.pointer (some ⟨gy, 0, none⟩), sgV m (.slice A n c)] w fun e w' => ∃ A' c' out Fy', e = .returned (.tuple #[.slice A' (ry.hear m).1.length c', sgV (ry.hear m).2.ack (.slice none 0 0), .int .i64 0]) ∧ out.map (·.1) = (ry.hear m).1 ∧ ByR w' w.heap.size (Un Fx Fy') (.slice A' (ry.hear m).1.length c') out ∧ Tw W w' Fx Fy' gx gy sx (ry.hear m).2 ∧ Mv (Un Fx Fy) (Un Fx Fy') w w' := by
  refine (rHear_any h.pr m hm A n c (hrd.sr fun k e => .inr e) hrf hc).mono ?_
  rintro e w' ⟨v, out, Fy', rfl, h1, h2, h3, h4, h5, h6, h7, h8⟩
  obtain ⟨A', c', rfl, _⟩ := own_shape h2
  have hl : out.length = (ry.hear m).1.length := by rw [← h1]; simp
  have ht := h.y h7 h8
  rw [← hl]
  refine ⟨A', c', out, Fy', rfl, h1, ⟨h2, fun k e => ⟨(h2.lt k e).2, fun hg => ?_⟩, fun x hx => ?_⟩, ht.1, ht.2⟩
  · rcases hg with hg | hg
    · have := h.ps.lt k hg; have := (h2.lt k e).1; omega
    · exact h6 k e hg
  · have h9 := h3 x hx
    refine ⟨h9, fun k e => ⟨(h9.lt k e).2, fun hg => ?_⟩⟩
    have h10 := h5 x hx k e
    rcases hg with hg | hg
    · rcases h10.1 with h11 | h11
      · exact h.dis k hg h11
      · have := h.ps.lt k hg; omega
    · exact h10.2 hg
end

theorem conv7 (w : World) (C : Array Value) (n c g : Nat) (hg : g = w.heap.size) : (convert 32 32 (.slice (some ⟨g, 0, none⟩) n c)).run Try.prog (w.alloc (.cells C 5)) = .ok (.slice (some ⟨g, 0, none⟩) n c) (w.alloc (.cells C 5 (C.size, C.size + 1))) := by
  subst hg
  exact Lib.run_convert_bytes_const w 32 5 C n c Try.underlying32 Try.underlying5
theorem Rd.mark7 {w : World} {g : Nat} (hg : g = w.heap.size) (l : List UInt8) {cs : List Value} (h : cs = u8s l) (t : TypeId) (fr : Nat × Nat) : Rd (w.alloc (.cells cs.toArray t fr)) (g + 1) (some ⟨g, 0, none⟩) l.length l := by
  subst h hg
  refine ⟨rfl, fun _ => ⟨w.heap.size, 0, rfl, by omega, fun j hj => ?_⟩⟩
  rw [Nat.zero_add, World.cell?_alloc_mark]
  simp [u8s, hj]
/-- Push of one byte, written out. -/
theorem Tw.push1 {W w : World} {Fx Fy : Nat → Prop} {gx gy : Nat} {sx : Sd} {ry : Rc} (h : Tw W w Fx Fy gx gy sx ry) (x : UInt8) (xi : Int) (hx : xi = (x.toNat : Int)) (hcm : sx.came + sx.queue.length + 1 < 4611686018427387904) :
    Calls Try.prog 45 #[.pointer (some ⟨gx, 0, none⟩), .slice (some ⟨w.heap.size, 0, none⟩) 1 1] (w.alloc (.cells #[.int .u8 xi] 5 (1, 2))) fun e w' => e = .returned (.int .i64 (sx.push [x]).1) ∧ ∃ Fx', Tw W w' Fx' Fy gx gy (sx.push [x]).2 ry ∧ Mv (Un Fx Fy) (Un Fx' Fy) w w' := by
  subst hx
  have hb : Below w.heap.size w (w.alloc (.cells #[.int .u8 (x.toNat : Int)] 5 (1, 2))) := (Below.refl _ _).alloc (Nat.le_refl _) _
  have hr := (Rd.mark7 (w := w) rfl [x] (cs := [.int .u8 (x.toNat : Int)]) rfl 5 (1, 2)).more (B' := (w.alloc (.cells #[.int .u8 (x.toNat : Int)] 5 (1, 2))).heap.size) (by simp)
  refine ((h.mvb hb).push _ 1 1 [x] hr hcm).mono ?_
  rintro e w' ⟨rfl, Fx', h1, h2⟩
  exact ⟨rfl, Fx', h1, (Mv.below7 hb).trans h2⟩
theorem Tw.left {W w : World} {Fx Fy : Nat → Prop} {gx gy : Nat} {sx : Sd} {ry : Rc} (h : Tw W w Fx Fy gx gy sx ry) : Calls Try.prog 52 #[.pointer (some ⟨gx, 0, none⟩)] w fun e w' => e = .returned (.int .i64 (sx.queue.length : Int)) ∧ w = w' := sLeft_any h.ps
theorem tw_new {W w w1 w2 : World} {Fx Fy : Nat → Prop} {gx gy : Nat} {sx : Sd} {ry : Rc} (hb0 : Below W.heap.size W w) (hx : PS w1 Fx gx sx) (hx2 : ∀ k, Fx k → w.heap.size ≤ k) (hb1 : Below w.heap.size w w1) (hy : PR w2 Fy gy ry) (hy2 : ∀ k, Fy k → w1.heap.size ≤ k) (hb2 : Below w1.heap.size w1 w2) : Tw W w2 Fx Fy gx gy sx ry := by
  have hz0 := hb0.size
  have hz1 := hb1.size
  refine ⟨hx.below hb2, hy, fun k h1 h2 => ?_, fun k e => ?_, hb0.trans ((below_then hb1 hb2).mono hz0)⟩
  · have := hx.lt k h1; have := hy2 k h2; omega
  · rcases e with e | e
    · have := hx2 k e; omega
    · have := hy2 k e; omega
end Go.Proofs.Ytfghbhjljbdlmaa

/- Layer 7's laws: what the chapter's example fixes. -/
namespace Go.Proofs.Ytfghbhjljbdlmaa
open Go.RowKit Go.Maps

def ks0 : Sd := ⟨1, 2, 3, 0, 0, []⟩
def ks1 : Sd := ⟨1, 2, 3, 0, 0, [([97], 0)]⟩
def ks2 : Sd := ⟨1, 2, 3, 0, 0, [([97], 0), ([98], 0)]⟩
def ks3 : Sd := ⟨1, 2, 3, 0, 0, [([97], 0), ([98], 0), ([99], 0)]⟩
def ks4 : Sd := ⟨1, 2, 3, 1, 0, [([97], 1), ([98], 1), ([99], 0)]⟩
def ks5 : Sd := ⟨1, 2, 3, 2, 0, [([97], 1), ([98], 1), ([99], 0)]⟩
def ks6 : Sd := ⟨1, 2, 3, 3, 0, [([97], 1), ([98], 1), ([99], 0)]⟩
def ks7 : Sd := ⟨1, 2, 3, 4, 0, [([97], 4), ([98], 4), ([99], 0)]⟩
def ks8 : Sd := ⟨1, 2, 3, 4, 2, [([99], 0)]⟩
def ks9 : Sd := ⟨1, 2, 3, 5, 2, [([99], 5)]⟩
def kg1 : Sg := ⟨1, 1, false, [97]⟩
def kg2 : Sg := ⟨1, 2, false, [98]⟩
def kg3 : Sg := ⟨1, 2, true, []⟩
def kr0 : Rc := ⟨2, 0, 0, []⟩
def kr1 : Rc := ⟨2, 1, 0, [(2, [98])]⟩
def kr2 : Rc := ⟨2, 1, 2, []⟩
theorem k_p1 : ks0.push [97] = (0, ks1) := by rfl
theorem k_p2 : ks1.push [98] = (0, ks2) := by rfl
theorem k_p3 : ks2.push [99] = (0, ks3) := by rfl
theorem k_t4 : ks3.tickS = ks4 ∧ ks3.out = [kg1, kg2] := ⟨rfl, rfl⟩
theorem k_t5 : ks4.tickS = ks5 ∧ ks4.out = [] := ⟨rfl, rfl⟩
theorem k_t6 : ks5.tickS = ks6 ∧ ks5.out = [] := ⟨rfl, rfl⟩
theorem k_t7 : ks6.tickS = ks7 ∧ ks6.out = [kg1, kg2] := ⟨rfl, rfl⟩
theorem k_h1 : kr0.hear kg2 = ([], kr1) := by rfl
theorem k_h2 : kr1.hear kg1 = ([[97], [98]], kr2) := by rfl
theorem k_h3 : ks7.hear kg3 = (0, ks8) := by rfl
theorem k_t9 : ks8.tickS = ks9 ∧ ks8.out = [⟨1, 3, false, [99]⟩] := ⟨rfl, rfl⟩

set_option maxHeartbeats 8000000 in
set_option maxRecDepth 100000 in
theorem sknown_any (W : World) : Calls Try.prog 33 #[] W fun e w' => e = .returned (.bool true) ∧ Below W.heap.size W w' := by
  have HN : Hid (∀ w, Calls Try.prog 44 #[.int .u64 1, .int .i64 2, .int .i64 3] w fun e w' => ∃ g F, e = .returned (.tuple #[.pointer (some ⟨g, 0, none⟩), .int .i64 0]) ∧ PS w' F g ks0 ∧ (∀ k, F k → w.heap.size ≤ k) ∧ Below w.heap.size w w') := Lib.hid fun w => sNew_any 1 2 3 w (by decide) (by decide) (by decide)
  have HR : Hid (∀ w, Calls Try.prog 53 #[.int .i64 2] w fun e w' => ∃ g F, e = .returned (.tuple #[.pointer (some ⟨g, 0, none⟩), .int .i64 0]) ∧ PR w' F g kr0 ∧ (∀ k, F k → w.heap.size ≤ k) ∧ Below w.heap.size w w') := Lib.hid fun w => rNew_any 2 w (by decide)
  have kc := conv7
  go_enter Try.func33, Try.ntmps33
  go_wp2_with fail
  refine (HN.out W).mono ?_
  rintro e w1 ⟨gx, Fx, rfl, p1, p2, p3⟩
  have P := Lib.hid (And.intro p1 (And.intro p2 p3))
  clear p1 p2 p3
  go_wp2_with fail
  refine (HR.out w1).mono ?_
  rintro e w2 ⟨gy, Fy, rfl, q1, q2, q3⟩
  have t2 := tw_new (Below.refl _ _) P.out.1 P.out.2.1 P.out.2.2 q1 q2 q3
  have Hs := t2.push1 97 97 rfl (by decide)
  rw [k_p1] at Hs
  replace Hs := Lib.hid Hs
  clear P q1 q2 q3 t2
  go_wp2_with fail
  refine Hs.out.mono ?_
  clear Hs
  rintro e w3 ⟨rfl, Fx3, t3, _⟩
  have Hs := t3.push1 98 98 rfl (by decide)
  rw [k_p2] at Hs
  replace Hs := Lib.hid Hs
  clear t3
  go_wp2_with fail
  refine Hs.out.mono ?_
  clear Hs
  rintro e w4 ⟨rfl, Fx4, t4, _⟩
  have Hs := t4.push1 99 99 rfl (by decide)
  rw [k_p3] at Hs
  replace Hs := Lib.hid Hs
  clear t4
  go_wp2_with fail
  refine Hs.out.mono ?_
  clear Hs
  rintro e w5 ⟨rfl, Fx5, t5, _⟩
  have Hs := t5.tick (by decide)
  rw [k_t4.1, k_t4.2] at Hs
  replace Hs := Lib.hid Hs
  clear t5
  go_wp2_with fail
  refine Hs.out.mono ?_
  clear Hs
  rintro e w6 ⟨A6, c6, es6, rfl, he6, r6, t6, _⟩
  have R6 := Lib.hid r6
  have He6 := Lib.hid he6
  have Hs := t6.tick (by decide)
  rw [k_t5.1, k_t5.2] at Hs
  replace Hs := Lib.hid Hs
  clear r6 t6 he6
  simp only [List.length_cons, List.length_nil]
  go_wp2_with fail
  refine Hs.out.mono ?_
  clear Hs
  rintro e w7 ⟨A7, c7, es7, rfl, _, _, t7, m7⟩
  have R7 := Lib.hid (R6.out.mv m7)
  have Hs := t7.tick (by decide)
  rw [k_t6.1, k_t6.2] at Hs
  replace Hs := Lib.hid Hs
  clear t7 m7 R6
  simp only [List.length_nil]
  go_wp2_with fail
  refine Hs.out.mono ?_
  clear Hs
  rintro e w8 ⟨A8, c8, es8, rfl, _, _, t8, m8⟩
  have R8 := Lib.hid (R7.out.mv m8)
  have Hs := t8.tick (by decide)
  rw [k_t7.1, k_t7.2] at Hs
  replace Hs := Lib.hid Hs
  clear t8 m8 R7
  simp only [List.length_nil]
  go_wp2_with fail
  refine Hs.out.mono ?_
  clear Hs
  rintro e w9 ⟨A9, c9, es9, rfl, _, _, t9, m9⟩
  have r9 := R8.out.mv m9
  clear R8 m9
  simp only [List.length_cons, List.length_nil]
  obtain ⟨⟨s1, v1⟩, ⟨s2, v2⟩, rfl⟩ : ∃ a b, es6 = [a, b] := by
    have := He6.out
    match es6, this with
    | [a, b], _ => exact ⟨a, b, rfl⟩
  have he := He6.out
  simp only [List.map_cons, List.map_nil, List.cons.injEq, and_true] at he
  obtain ⟨rfl, rfl⟩ := he
  obtain ⟨B1, d1, e1, rd1⟩ := r9.body (kg1, v1) (by simp)
  obtain ⟨B2, d2, e2, rd2⟩ := r9.body (kg2, v2) (by simp)
  have e1 : v1 = .slice B1 1 d1 := e1
  have e2 : v2 = .slice B2 1 d2 := e2
  subst e1 e2
  have hR : ∃ R, A6 = some ⟨R, 0, none⟩ := by
    obtain ⟨R, c, hv, _⟩ := r9.cell 0 (by simp)
    injection hv with hv
    exact ⟨R, hv⟩
  obtain ⟨R, rfl⟩ := hR
  have hcell : ∀ (w : World) (G : Nat → Prop), SgR w w5.heap.size G (.slice (some ⟨R, 0, none⟩) 2 c6) [(kg1, .slice B1 1 d1), (kg2, .slice B2 1 d2)] → (w.cell? ⟨R, 0, none⟩ = some (.int .u64 1) ∧ w.cell? ⟨R, 1, none⟩ = some (.int .u64 1) ∧ w.cell? ⟨R, 2, none⟩ = some (.bool false) ∧ w.cell? ⟨R, 3, none⟩ = some (.slice B1 1 d1)) ∧
      (w.cell? ⟨R, 4, none⟩ = some (.int .u64 1) ∧ w.cell? ⟨R, 5, none⟩ = some (.int .u64 2) ∧ w.cell? ⟨R, 6, none⟩ = some (.bool false) ∧ w.cell? ⟨R, 7, none⟩ = some (.slice B2 1 d2)) := by
    intro w G h
    obtain ⟨R1, c1, hv1, x⟩ := h.cell 0 (by simp)
    obtain ⟨R2, c2, hv2, y⟩ := h.cell 1 (by simp)
    have h1 : R1 = R := by injection hv1 with e; injection e with e; injection e with e; exact e.symm
    have h2 : R2 = R := by injection hv2 with e; injection e with e; injection e with e; exact e.symm
    subst h1
    rw [h2] at y
    exact ⟨x, y⟩
  have HCell := Lib.hid hcell
  obtain ⟨_, y0, y1, y2, y3⟩ := hcell w9 _ r9
  clear hcell
  have Hh := t9.rhear kg2 ⟨by decide, by decide⟩ B2 1 d2 rd2 (by decide) (by decide)
  rw [k_h1] at Hh
  have Hh : Calls Try.prog 54 #[.pointer (some ⟨gy, 0, none⟩), .agg #[.int .u64 1, .int .u64 2, .bool false, .slice B2 1 d2]] w9 fun e w' => ∃ A' c' out Fy', e = .returned (.tuple #[.slice A' 0 c', .agg #[.int .u64 1, .int .u64 0, .bool true, .slice none 0 0], .int .i64 0]) ∧ out.map (·.1) = [] ∧ ByR w' w9.heap.size (Un Fx5 Fy') (.slice A' 0 c') out ∧ Tw W w' Fx5 Fy' gx gy ks7 kr1 ∧ Mv (Un Fx5 Fy) (Un Fx5 Fy') w9 w' := Hh
  have Hh := Lib.hid Hh
  have R9 := Lib.hid r9
  have Rd1 := Lib.hid rd1
  clear r9 t9 rd1 rd2 He6
  go_wp2_with fail
  refine Hh.out.mono ?_
  clear Hh
  rintro e wa ⟨Aa, ca, outa, Fya, rfl, _, _, ta, ma⟩
  have hba : Below wa.heap.size wa (wa.alloc (.cells #[.int .u64 1, .int .u64 0, .bool true, .slice none 0 0] 60)) := (Below.refl _ _).alloc (Nat.le_refl _) _
  obtain ⟨wb, hwb⟩ : ∃ wb, wb = wa.alloc (.cells #[.int .u64 1, .int .u64 0, .bool true, .slice none 0 0] 60) := ⟨_, rfl⟩
  rw [← hwb] at hba
  have tb := ta.mvb hba
  have rb := (R9.out.mv ma).mv (Mv.below7 hba : Mv (Un Fx5 Fya) (Un Fx5 Fya) wa wb)
  have rdb := (Rd1.out.mv ma).mv (Mv.below7 hba : Mv (Un Fx5 Fya) (Un Fx5 Fya) wa wb)
  obtain ⟨⟨x0, x1, x2, x3⟩, _⟩ := HCell.out wb _ rb
  have Hh := tb.rhear kg1 ⟨by decide, by decide⟩ B1 1 d1 rdb (by decide) (by decide)
  rw [k_h2] at Hh
  have Hh : Calls Try.prog 54 #[.pointer (some ⟨gy, 0, none⟩), .agg #[.int .u64 1, .int .u64 1, .bool false, .slice B1 1 d1]] wb fun e w' => ∃ A' c' out Fy', e = .returned (.tuple #[.slice A' 2 c', .agg #[.int .u64 1, .int .u64 2, .bool true, .slice none 0 0], .int .i64 0]) ∧ out.map (·.1) = [[97], [98]] ∧ ByR w' wb.heap.size (Un Fx5 Fy') (.slice A' 2 c') out ∧ Tw W w' Fx5 Fy' gx gy ks7 kr2 ∧ Mv (Un Fx5 Fya) (Un Fx5 Fy') wb w' := Hh
  have Hh := Lib.hid Hh
  rw [hwb] at x0 x1 x2 x3
  have Hwb := Lib.hid hwb
  clear hba hwb ta tb rb rdb ma R9 Rd1 y0 y1 y2 y3 HCell
  go_wp2_with fail
  rw [← Hwb.out]
  refine Hh.out.mono ?_
  clear Hh
  rintro e wc ⟨Ac, cc, outc, Fyc, rfl, hoc, rc, tc, mc⟩
  obtain ⟨⟨o1, v1⟩, ⟨o2, v2⟩, rfl⟩ : ∃ a b, outc = [a, b] := by
    match outc, hoc with
    | [a, b], _ => exact ⟨a, b, rfl⟩
  simp only [List.map_cons, List.map_nil, List.cons.injEq, and_true] at hoc
  obtain ⟨rfl, rfl⟩ := hoc
  have hbc : Below wc.heap.size wc (wc.alloc (.cells #[.int .u64 1, .int .u64 2, .bool true, .slice none 0 0] 60)) := (Below.refl _ _).alloc (Nat.le_refl _) _
  obtain ⟨wd, hwd⟩ : ∃ wd, wd = wc.alloc (.cells #[.int .u64 1, .int .u64 2, .bool true, .slice none 0 0] 60) := ⟨_, rfl⟩
  have hkd : Bk wd wc.heap.size 60 #[.int .u64 1, .int .u64 2, .bool true, .slice none 0 0] := by rw [hwd]; exact Bk.new wc 60 _
  have had : Apt7 wd (Un Fx5 Fyc) wc.heap.size := ⟨hkd.lt, fun hf => by have := tc.lt _ hf; omega⟩
  rw [← hwd] at hbc
  have td := tc.mvb hbc
  have rd := rc.mv (Mv.below7 hbc : Mv (Un Fx5 Fyc) (Un Fx5 Fyc) wc wd)
  have z0 : wd.cell? ⟨wc.heap.size, 0, none⟩ = some (.int .u64 1) := hkd.cell 0
  have z1 : wd.cell? ⟨wc.heap.size, 1, none⟩ = some (.int .u64 2) := hkd.cell 1
  have z2 : wd.cell? ⟨wc.heap.size, 2, none⟩ = some (.bool true) := hkd.cell 2
  have z3 : wd.cell? ⟨wc.heap.size, 3, none⟩ = some (.slice none 0 0) := hkd.cell 3
  have Hh := td.shear kg3 ⟨by decide, by decide⟩ none 0 0 rfl
  rw [k_h3] at Hh
  have Hh : Calls Try.prog 50 #[.pointer (some ⟨gx, 0, none⟩), .agg #[.int .u64 1, .int .u64 2, .bool true, .slice none 0 0]] wd fun e w' => e = .returned (.int .i64 0) ∧ ∃ Fx', Tw W w' Fx' Fyc gx gy ks8 kr2 ∧ Mv (Un Fx5 Fyc) (Un Fx' Fyc) wd w' := Hh
  have Hh := Lib.hid Hh
  have Rd := Lib.hid rd
  have Hkd := Lib.hid hkd
  have Had := Lib.hid had
  rw [hwd] at z0 z1 z2 z3
  have Hwd := Lib.hid hwd
  clear hbc hwd tc td rc rd mc hkd had x0 x1 x2 x3
  go_wp2_with fail
  rw [← Hwd.out]
  refine Hh.out.mono ?_
  clear Hh
  rintro e we ⟨rfl, Fxe, te, me⟩
  have Re := Lib.hid (Rd.out.mv me)
  have Ke := Lib.hid (Hkd.out.kp me.kp Had.out.2)
  have Ae := Lib.hid (Had.out.mv me)
  have Hs := te.tick (by decide)
  rw [k_t9.1, k_t9.2] at Hs
  replace Hs := Lib.hid Hs
  clear te me Rd Hkd Had z0 z1 z2 z3
  go_wp2_with fail
  refine Hs.out.mono ?_
  clear Hs
  rintro e wf ⟨Af, cf, esf, rfl, hef, rf, tf, mf⟩
  have Rf := Re.out.mv mf
  have Kf := Ke.out.kp mf.kp Ae.out.2
  simp only [List.length_cons, List.length_nil]
  have HLf := Lib.hid tf.left
  have HBf := Lib.hid tf.below
  obtain ⟨⟨sg, vg⟩, rfl⟩ : ∃ a, esf = [a] := by
    match esf, hef with
    | [a], _ => exact ⟨a, rfl⟩
  simp only [List.map_cons, List.map_nil, List.cons.injEq, and_true] at hef
  subst hef
  have hx : ∃ R, Af = some ⟨R, 0, none⟩ ∧ wf.cell? ⟨R, 1, none⟩ = some (.int .u64 3) := by
    obtain ⟨R, c, hv, _, x1, _⟩ := rf.cell 0 (by simp)
    injection hv with hv
    exact ⟨R, hv, x1⟩
  obtain ⟨Rg, rfl, n1⟩ := hx
  have hy : ∃ R Ab cb, Ac = some ⟨R, 0, none⟩ ∧ wf.cell? ⟨R, 1, none⟩ = some (.slice Ab 1 cb) ∧ Rd wf wf.heap.size Ab 1 [98] := by
    obtain ⟨R, c, hv, x1⟩ := Rf.cell 1 (by simp)
    obtain ⟨Ab, cb, e1, h1⟩ := Rf.body ([98], v2) (by simp)
    injection hv with hv
    have e1 : v2 = .slice Ab 1 cb := e1
    subst e1
    exact ⟨R, Ab, cb, hv, x1, h1.rd⟩
  obtain ⟨Ry, Ab, cb, rfl, n2, n3⟩ := hy
  have n4 := n3.str Try.underlying32 Try.underlying5 Try.underlying9 cb
  have z1 : wf.cell? ⟨wc.heap.size, 1, none⟩ = some (.int .u64 2) := Kf.cell 1
  have z2 : wf.cell? ⟨wc.heap.size, 2, none⟩ = some (.bool true) := Kf.cell 2
  clear rf tf mf Rf Kf Re Ke Ae n3
  go_wp2_with fail
  refine HLf.out.mono ?_
  rintro e wg ⟨rfl, rfl⟩
  go_wp2
  go_ret
  exact ⟨rfl, HBf.out⟩
end Go.Proofs.Ytfghbhjljbdlmaa
