/- Layer 7's laws: a sender and a receiver of the call's own, apart from one another and from what they have given. -/
import Derived.Test.YtfdlhefbbhblnaaSesX
import Derived.Test.YtfdlhefbbhblnaaSesI
import Derived.Lib.SlBytesConst
namespace Go.Proofs.Ytfdlhefbbhblnaa
open Go.RowKit Go.Maps

def Apt7 (w : World) (G : Nat → Prop) (k : Nat) : Prop := k < w.heap.size ∧ ¬ G k
structure Rd7 (w : World) (G : Nat → Prop) (A : Option Addr) (n : Nat) (l : List UInt8) : Prop where
  rd : Rd w w.heap.size A n l
  off : ∀ ad, A = some ad → Apt7 w G ad.block
section
variable {w w' : World} {G G' F : Nat → Prop}
theorem Apt7.mv {k : Nat} (h : Apt7 w G k) (hm : Mv G G' w w') : Apt7 w' G' k := ⟨Nat.lt_of_lt_of_le h.1 hm.kp.size, fun hf => by
  rcases hm.new k hf with h1 | h1
  · exact h.2 h1
  · have := h.1; omega⟩
theorem Rd7.mv {A : Option Addr} {n : Nat} {l : List UInt8} (h : Rd7 w G A n l) (hm : Mv G G' w w') : Rd7 w' G' A n l :=
  ⟨(Rd.kp7 h.rd hm.kp fun ad e => (h.off ad e).2).more hm.kp.size, fun ad e => (h.off ad e).mv hm⟩
theorem Rd7.sr {A : Option Addr} {n : Nat} {l : List UInt8} (h : Rd7 w G A n l) (hF : ∀ k, F k → G k) : SRd w F A n l := ⟨h.rd, fun ad e hf => (h.off ad e).2 (hF _ hf)⟩
theorem Rd7.of_own {base n c : Nat} {A : Option Addr} {l : List UInt8} (ho : w.ownsRow base 5 1 (.slice A n c) n (u8s l)) (hG : ∀ k, (Value.slice A n c).ownBlock = some k → ¬ G k) : Rd7 w G A n l :=
  ⟨Rd.of_own ho, fun ad e => by
    subst e
    exact ⟨(ho.lt ad.block rfl).2, hG ad.block rfl⟩⟩
theorem Rd7.nil (w : World) (G : Nat → Prop) : Rd7 w G none 0 [] := ⟨Rd.nil _ _ _, fun ad e => by cases e⟩
theorem Mv.below7 (hb : Below w.heap.size w w') : Mv G G w w' := Mv.of (Kp.of_below hb)
end

def Un (Fx Fy : Nat → Prop) : Nat → Prop := fun k => Fx k ∨ Fy k
/-- A sender and a receiver. -/
structure Tw (W w : World) (Fx Fy : Nat → Prop) (gx gy : Nat) (sx : Sd) (ry : Rc) : Prop where
  ps : PS w Fx gx sx
  pr : PR w Fy gy ry
  dis : ∀ k, Fx k → ¬ Fy k
  ge : ∀ k, Un Fx Fy k → W.heap.size ≤ k
  below : Below W.heap.size W w
section
variable {W w w' : World} {Fx Fy Fx' Fy' : Nat → Prop} {gx gy : Nat} {sx sx' : Sd} {ry ry' : Rc}
theorem Tw.lt (h : Tw W w Fx Fy gx gy sx ry) : ∀ k, Un Fx Fy k → k < w.heap.size := fun k e => e.elim (h.ps.lt k) (h.pr.lt k)
theorem Tw.x (h : Tw W w Fx Fy gx gy sx ry) (hp : PS w' Fx' gx sx') (hm : Mv Fx Fx' w w') : Tw W w' Fx' Fy gx gy sx' ry ∧ Mv (Un Fx Fy) (Un Fx' Fy) w w' := by
  have hz := h.below.size
  refine ⟨⟨hp, h.pr.kp hm.kp fun k hy hx => h.dis k hx hy, fun k hx hy => ?_, fun k e => ?_, h.below.trans (hm.kp.below (fun k e => h.ge k (.inl e)) hz)⟩, ⟨hm.kp.mono fun k e => .inl e, fun k e => ?_⟩⟩
  · rcases hm.new k hx with h1 | h1
    · exact h.dis k h1 hy
    · have := h.pr.lt k hy; omega
  · rcases e with e | e
    · rcases hm.new k e with h1 | h1
      · exact h.ge k (.inl h1)
      · omega
    · exact h.ge k (.inr e)
  · rcases e with e | e
    · rcases hm.new k e with h1 | h1
      · exact .inl (.inl h1)
      · exact .inr h1
    · exact .inl (.inr e)
theorem Tw.y (h : Tw W w Fx Fy gx gy sx ry) (hp : PR w' Fy' gy ry') (hm : Mv Fy Fy' w w') : Tw W w' Fx Fy' gx gy sx ry' ∧ Mv (Un Fx Fy) (Un Fx Fy') w w' := by
  have hz := h.below.size
  refine ⟨⟨h.ps.kp hm.kp fun k hx hy => h.dis k hx hy, hp, fun k hx hy => ?_, fun k e => ?_, h.below.trans (hm.kp.below (fun k e => h.ge k (.inr e)) hz)⟩, ⟨hm.kp.mono fun k e => .inr e, fun k e => ?_⟩⟩
  · rcases hm.new k hy with h1 | h1
    · exact h.dis k hx h1
    · have := h.ps.lt k hx; omega
  · rcases e with e | e
    · exact h.ge k (.inl e)
    · rcases hm.new k e with h1 | h1
      · exact h.ge k (.inr h1)
      · omega
  · rcases e with e | e
    · exact .inl (.inl e)
    · rcases hm.new k e with h1 | h1
      · exact .inl (.inr h1)
      · exact .inr h1
theorem Tw.mvb (h : Tw W w Fx Fy gx gy sx ry) (hb : Below w.heap.size w w') : Tw W w' Fx Fy gx gy sx ry := ⟨h.ps.below hb, h.pr.below hb, h.dis, h.ge, h.below.trans (hb.mono h.below.size)⟩
theorem Tw.kp {G : Nat → Prop} (h : Tw W w Fx Fy gx gy sx ry) (hk : Kp G w w') (hd : ∀ k, Un Fx Fy k → ¬ G k) (hG : ∀ k, G k → W.heap.size ≤ k) : Tw W w' Fx Fy gx gy sx ry :=
  ⟨h.ps.kp hk fun k e => hd k (.inl e), h.pr.kp hk fun k e => hd k (.inr e), h.dis, h.ge, h.below.trans (hk.below hG h.below.size)⟩

/-- A row of segments that was made, apart from both. -/
structure SgR (w : World) (base : Nat) (G : Nat → Prop) (v : Value) (es : List Sge) : Prop where
  own : w.ownsRow base 36 4 v es.length (sgC es)
  off : ∀ k, v.ownBlock = some k → Apt7 w G k
  each : ∀ e ∈ es, w.ownsRow 0 5 1 e.2 e.1.body.length (u8s e.1.body) ∧ ∀ k, e.2.ownBlock = some k → Apt7 w G k
theorem SgR.body {base : Nat} {G : Nat → Prop} {v : Value} {es : List Sge} (h : SgR w base G v es) : ∀ e ∈ es, ∃ A c, e.2 = .slice A e.1.body.length c ∧ Rd7 w G A e.1.body.length e.1.body := fun e he => by
  obtain ⟨h1, h2⟩ := h.each e he
  obtain ⟨A, c, e3, _⟩ := own_shape h1
  rw [e3] at h1 h2
  exact ⟨A, c, e3, Rd7.of_own h1 fun k e => (h2 k e).2⟩
theorem SgR.mv {G G' : Nat → Prop} {base : Nat} {v : Value} {es : List Sge} (h : SgR w base G v es) (hm : Mv G G' w w') : SgR w' base G' v es :=
  ⟨own_kp h.own hm.kp fun k e => (h.off k e).2, fun k e => (h.off k e).mv hm, fun e he => ⟨own_kp (h.each e he).1 hm.kp fun k e2 => ((h.each e he).2 k e2).2, fun k e2 => ((h.each e he).2 k e2).mv hm⟩⟩
theorem SgR.nil (w : World) (base : Nat) (G : Nat → Prop) : SgR w base G (.slice none 0 0) [] := ⟨World.ownsRow_nil _ _ _ _, (fun k e => by cases e), fun e he => (List.not_mem_nil he).elim⟩
theorem SgR.of_row {base : Nat} {G : Nat → Prop} {v : Value} {es : List Sge} (h : SgRow w base v es) (hG : ∀ k, G k → k < base) : SgR w base G v es := by
  refine ⟨h.own, fun k e => ⟨(h.own.lt k e).2, fun hg => by have := (h.own.lt k e).1; have := hG k hg; omega⟩, fun e he => ?_⟩
  obtain ⟨i, hi, rfl⟩ := List.mem_iff_getElem.1 he
  have h1 := h.fam.each i es[i].2 (by simp [hi])
  have e2 : (es.map (·.1.body)).getD i [] = es[i].1.body := by simp [List.getD, hi]
  rw [e2] at h1
  exact ⟨own_mono h1 (Nat.zero_le _), fun k e => ⟨(h1.lt k e).2, fun hg => by have := (h1.lt k e).1; have := hG k hg; omega⟩⟩
theorem SgR.cell {base : Nat} {G : Nat → Prop} {v : Value} {es : List Sge} (h : SgR w base G v es) (i : Nat) (hi : i < es.length) : ∃ R c, v = .slice (some ⟨R, 0, none⟩) es.length c ∧ w.cell? ⟨R, i * 4, none⟩ = some (.int .u64 (es[i].1.life : Int)) ∧ w.cell? ⟨R, i * 4 + 1, none⟩ = some (.int .u64 (es[i].1.seq : Int)) ∧ w.cell? ⟨R, i * 4 + 2, none⟩ = some (.bool es[i].1.ack) ∧ w.cell? ⟨R, i * 4 + 3, none⟩ = some es[i].2 := by
  rcases h.own.2 with ⟨_, h0⟩ | ⟨g, cap, cur, rfl, _, hh, h1, h2, _⟩
  · omega
  · have q := fun j (hj : j < 4) u (hu : (sgE es[i])[j]? = some u) => h.own.cells (g := g) rfl (i * 4 + j) u (by rw [sgC_at es i j hi hj]; exact hu)
    have q0 := q 0 (by omega) _ rfl
    have q1 := q 1 (by omega) _ rfl
    have q2 := q 2 (by omega) _ rfl
    have q3 := q 3 (by omega) _ rfl
    rw [Addr.add_lit, Nat.zero_add] at q0 q1 q2 q3
    exact ⟨g, cap, rfl, q0, q1, q2, q3⟩

/-- A row of lists that came out, apart from both. -/
structure ByR (w : World) (base : Nat) (G : Nat → Prop) (v : Value) (out : List (List UInt8 × Value)) : Prop where
  own : w.ownsRow base 34 1 v out.length (out.map (·.2))
  off : ∀ k, v.ownBlock = some k → Apt7 w G k
  each : ∀ x ∈ out, w.ownsRow 0 5 1 x.2 x.1.length (u8s x.1) ∧ ∀ k, x.2.ownBlock = some k → Apt7 w G k
theorem ByR.body {base : Nat} {G : Nat → Prop} {v : Value} {out : List (List UInt8 × Value)} (h : ByR w base G v out) : ∀ x ∈ out, ∃ A c, x.2 = .slice A x.1.length c ∧ Rd7 w G A x.1.length x.1 := fun e he => by
  obtain ⟨h1, h2⟩ := h.each e he
  obtain ⟨A, c, e3, _⟩ := own_shape h1
  rw [e3] at h1 h2
  exact ⟨A, c, e3, Rd7.of_own h1 fun k e => (h2 k e).2⟩
/-- Lists more. -/
theorem ByR.app {G : Nat → Prop} {base : Nat} {lv lv' bv : Value} {out out2 : List (List UInt8 × Value)} {base2 : Nat} (h : ByR w base G lv out) (h2 : ByR w base2 G bv out2) (hG : ∀ k, G k → k < w.heap.size) (happ : App w w' base 34 1 lv lv' out.length out2.length (out.map (·.2)) (out2.map (·.2))) :
    ByR w' base G lv' (out ++ out2) ∧ Kp (fun k => lv.ownBlock = some k) w w' := by
  have hk : Kp (fun k => lv.ownBlock = some k) w w' := Kp.of_row happ.grow (fun g e => e)
  have hz := hk.size
  have heach : ∀ x : List UInt8 × Value, (w.ownsRow 0 5 1 x.2 x.1.length (u8s x.1) ∧ ∀ k, x.2.ownBlock = some k → Apt7 w G k) → (w'.ownsRow 0 5 1 x.2 x.1.length (u8s x.1) ∧ ∀ k, x.2.ownBlock = some k → Apt7 w' G k) := fun x hx =>
    ⟨own_kp hx.1 hk fun k e1 e2 => by
      rcases own_types_ne hx.1 h.own (by decide) with h' | h'
      · rw [h'] at e1; cases e1
      · exact h' (e1.trans e2.symm), fun k e => ⟨by have := (hx.2 k e).1; omega, (hx.2 k e).2⟩⟩
  refine ⟨⟨by rw [List.length_append, List.map_append]; exact happ.own, fun k e => ⟨(happ.own.lt k e).2, fun hg => ?_⟩, fun x hx => ?_⟩, hk⟩
  · rcases happ.block with h' | h'
    · rw [h'] at e; exact (h.off k e).2 hg
    · rw [h'] at e
      injection e with e
      have := hG k hg
      omega
  · rcases List.mem_append.1 hx with hx | hx
    · exact heach x (h.each x hx)
    · exact heach x (h2.each x hx)
theorem ByR.mv {G G' : Nat → Prop} {base : Nat} {v : Value} {out : List (List UInt8 × Value)} (h : ByR w base G v out) (hm : Mv G G' w w') : ByR w' base G' v out :=
  ⟨own_kp h.own hm.kp fun k e => (h.off k e).2, fun k e => (h.off k e).mv hm, fun e he => ⟨own_kp (h.each e he).1 hm.kp fun k e2 => ((h.each e he).2 k e2).2, fun k e2 => ((h.each e he).2 k e2).mv hm⟩⟩
theorem ByR.nil (w : World) (base : Nat) (G : Nat → Prop) : ByR w base G (.slice none 0 0) [] := ⟨World.ownsRow_nil _ _ _ _, (fun k e => by cases e), fun e he => (List.not_mem_nil he).elim⟩
theorem ByR.cell {base : Nat} {G : Nat → Prop} {v : Value} {out : List (List UInt8 × Value)} (h : ByR w base G v out) (i : Nat) (hi : i < out.length) : ∃ R c, v = .slice (some ⟨R, 0, none⟩) out.length c ∧ w.cell? ⟨R, i, none⟩ = some out[i].2 := by
  rcases h.own.2 with ⟨_, h0⟩ | ⟨g, cap, cur, rfl, _, hh, h1, h2, _⟩
  · omega
  · have q0 := h.own.cells (g := g) rfl i out[i].2 (by simp [hi])
    rw [Addr.add_lit, Nat.zero_add] at q0
    exact ⟨g, cap, rfl, q0⟩

theorem Tw.tick (h : Tw W w Fx Fy gx gy sx ry) (ht : sx.tick + 1 < 4611686018427387904) : Calls Try.prog 15 #[.pointer (some ⟨gx, 0, none⟩)] w fun e w' => ∃ A c es, e = .returned (.slice A sx.out.length c) ∧ es.map (·.1) = sx.out ∧ SgR w' w.heap.size (Un Fx Fy) (.slice A sx.out.length c) es ∧ Tw W w' Fx Fy gx gy sx.tickS ry ∧ Mv (Un Fx Fy) (Un Fx Fy) w w' := by
  refine (sTick_any h.ps ht).mono ?_
  rintro e w' ⟨v, es, rfl, h1, h2, h3, h4⟩
  obtain ⟨A, c, rfl, _⟩ := own_shape h2.own
  have hl : es.length = sx.out.length := by rw [← h1]; simp
  have ht := h.x h3 (Mv.of h4)
  have hr := SgR.of_row h2 (G := Un Fx Fy) h.lt
  rw [hl] at hr
  exact ⟨A, c, es, by rw [hl], h1, hr, ht.1, ht.2⟩
theorem Tw.push (h : Tw W w Fx Fy gx gy sx ry) (A : Option Addr) (n c : Nat) (l : List UInt8) (hr : Rd w w.heap.size A n l) (hcm : sx.came + sx.queue.length + 1 < 4611686018427387904) :
    Calls Try.prog 11 #[.pointer (some ⟨gx, 0, none⟩), .slice A n c] w fun e w' => e = .returned (.int .i64 (sx.push l).1) ∧ ∃ Fx', Tw W w' Fx' Fy gx gy (sx.push l).2 ry ∧ Mv (Un Fx Fy) (Un Fx' Fy) w w' := by
  refine (sPush_any h.ps A n c l hr hcm).mono ?_
  rintro e w' ⟨rfl, Fx', h1, h2⟩
  have := h.x h1 h2
  exact ⟨rfl, Fx', this.1, this.2⟩
theorem Tw.shear (h : Tw W w Fx Fy gx gy sx ry) (m : Sg) (hm : m.Ok) (A : Option Addr) (n c : Nat) (hl : m.body.length = n) :
    Calls Try.prog 18 #[.pointer (some ⟨gx, 0, none⟩), sgV m (.slice A n c)] w fun e w' => e = .returned (.int .i64 (sx.hear m).1) ∧ ∃ Fx', Tw W w' Fx' Fy gx gy (sx.hear m).2 ry ∧ Mv (Un Fx Fy) (Un Fx' Fy) w w' := by
  refine (sHear_any h.ps m hm A n c hl).mono ?_
  rintro e w' ⟨rfl, Fx', h1, h2⟩
  have := h.x h1 h2
  exact ⟨rfl, Fx', this.1, this.2⟩
theorem Tw.rhear (h : Tw W w Fx Fy gx gy sx ry) (m : Sg) (hm : m.Ok) (A : Option Addr) (n c : Nat) (hrd : Rd7 w (Un Fx Fy) A n m.body) (hrf : ry.refuse m = 0) (hc : ry.came + ry.early.length + 1 < 4611686018427387904) :
    Calls Try.prog 23 #[.pointer (some ⟨gy, 0, none⟩), sgV m (.slice A n c)] w fun e w' => ∃ A' c' out Fy', e = .returned (.tuple #[.slice A' (ry.hear m).1.length c', sgV (ry.hear m).2.ack (.slice none 0 0), .int .i64 0]) ∧ out.map (·.1) = (ry.hear m).1 ∧ ByR w' w.heap.size (Un Fx Fy') (.slice A' (ry.hear m).1.length c') out ∧ Tw W w' Fx Fy' gx gy sx (ry.hear m).2 ∧ Mv (Un Fx Fy) (Un Fx Fy') w w' := by
  refine (rHear_any h.pr m hm A n c (hrd.sr fun k e => .inr e) hrf hc).mono ?_
  rintro e w' ⟨v, out, Fy', rfl, h1, h2, h3, h4, h5, h6, h7, h8⟩
  obtain ⟨A', c', rfl, _⟩ := own_shape h2
  have hl : out.length = (ry.hear m).1.length := by rw [← h1]; simp
  have ht := h.y h7 h8
  rw [← hl]
  refine ⟨A', c', out, Fy', rfl, h1, ⟨h2, fun k e => ⟨(h2.lt k e).2, fun hg => ?_⟩, fun x hx => ?_⟩, ht.1, ht.2⟩
  · rcases hg with hg | hg
    · have := h.ps.lt k hg; have := (h2.lt k e).1; omega
    · exact h6 k e hg
  · have h9 := h3 x hx
    refine ⟨h9, fun k e => ⟨(h9.lt k e).2, fun hg => ?_⟩⟩
    have h10 := h5 x hx k e
    rcases hg with hg | hg
    · rcases h10.1 with h11 | h11
      · exact h.dis k hg h11
      · have := h.ps.lt k hg; omega
    · exact h10.2 hg
end

theorem conv7 (w : World) (C : Array Value) (n c g : Nat) (hg : g = w.heap.size) : (convert 34 34 (.slice (some ⟨g, 0, none⟩) n c)).run Try.prog (w.alloc (.cells C 5)) = .ok (.slice (some ⟨g, 0, none⟩) n c) (w.alloc (.cells C 5 (C.size, C.size + 1))) := by
  subst hg
  exact Lib.run_convert_bytes_const w 34 5 C n c Try.underlying34 Try.underlying5
theorem Rd.mark7 {w : World} {g : Nat} (hg : g = w.heap.size) (l : List UInt8) {cs : List Value} (h : cs = u8s l) (t : TypeId) (fr : Nat × Nat) : Rd (w.alloc (.cells cs.toArray t fr)) (g + 1) (some ⟨g, 0, none⟩) l.length l := by
  subst h hg
  refine ⟨rfl, fun _ => ⟨w.heap.size, 0, rfl, by omega, fun j hj => ?_⟩⟩
  rw [Nat.zero_add, World.cell?_alloc_mark]
  simp [u8s, hj]
/-- Push of one byte, written out. -/
theorem Tw.push1 {W w : World} {Fx Fy : Nat → Prop} {gx gy : Nat} {sx : Sd} {ry : Rc} (h : Tw W w Fx Fy gx gy sx ry) (x : UInt8) (xi : Int) (hx : xi = (x.toNat : Int)) (hcm : sx.came + sx.queue.length + 1 < 4611686018427387904) :
    Calls Try.prog 11 #[.pointer (some ⟨gx, 0, none⟩), .slice (some ⟨w.heap.size, 0, none⟩) 1 1] (w.alloc (.cells #[.int .u8 xi] 5 (1, 2))) fun e w' => e = .returned (.int .i64 (sx.push [x]).1) ∧ ∃ Fx', Tw W w' Fx' Fy gx gy (sx.push [x]).2 ry ∧ Mv (Un Fx Fy) (Un Fx' Fy) w w' := by
  subst hx
  have hb : Below w.heap.size w (w.alloc (.cells #[.int .u8 (x.toNat : Int)] 5 (1, 2))) := (Below.refl _ _).alloc (Nat.le_refl _) _
  have hr := (Rd.mark7 (w := w) rfl [x] (cs := [.int .u8 (x.toNat : Int)]) rfl 5 (1, 2)).more (B' := (w.alloc (.cells #[.int .u8 (x.toNat : Int)] 5 (1, 2))).heap.size) (by simp)
  refine ((h.mvb hb).push _ 1 1 [x] hr hcm).mono ?_
  rintro e w' ⟨rfl, Fx', h1, h2⟩
  exact ⟨rfl, Fx', h1, (Mv.below7 hb).trans h2⟩
theorem Tw.left {W w : World} {Fx Fy : Nat → Prop} {gx gy : Nat} {sx : Sd} {ry : Rc} (h : Tw W w Fx Fy gx gy sx ry) : Calls Try.prog 20 #[.pointer (some ⟨gx, 0, none⟩)] w fun e w' => e = .returned (.int .i64 (sx.queue.length : Int)) ∧ w = w' := sLeft_any h.ps
theorem tw_new {W w w1 w2 : World} {Fx Fy : Nat → Prop} {gx gy : Nat} {sx : Sd} {ry : Rc} (hb0 : Below W.heap.size W w) (hx : PS w1 Fx gx sx) (hx2 : ∀ k, Fx k → w.heap.size ≤ k) (hb1 : Below w.heap.size w w1) (hy : PR w2 Fy gy ry) (hy2 : ∀ k, Fy k → w1.heap.size ≤ k) (hb2 : Below w1.heap.size w1 w2) : Tw W w2 Fx Fy gx gy sx ry := by
  have hz0 := hb0.size
  have hz1 := hb1.size
  refine ⟨hx.below hb2, hy, fun k h1 h2 => ?_, fun k e => ?_, hb0.trans ((below_then hb1 hb2).mono hz0)⟩
  · have := hx.lt k h1; have := hy2 k h2; omega
  · rcases e with e | e
    · have := hx2 k e; omega
    · have := hy2 k e; omega
end Go.Proofs.Ytfdlhefbbhblnaa
