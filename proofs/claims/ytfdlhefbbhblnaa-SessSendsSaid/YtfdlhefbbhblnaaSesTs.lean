/- Layer 7's laws: both senders, apart from one another. -/
import Derived.Test.YtfdlhefbbhblnaaSesRv
import Derived.Test.YtfdlhefbbhblnaaSesK
namespace Go.Proofs.Ytfdlhefbbhblnaa
open Go.RowKit Go.Maps

/-- The program's sender and the document's. -/
structure Ts (W w : World) (Fx Fy : Nat → Prop) (gx gy : Nat) (sx sy : Sd) (dn : List (List UInt8 × Nat)) : Prop where
  ps : PS w Fx gx sx
  pr : RS w Fy gy sy dn
  dis : ∀ k, Fx k → ¬ Fy k
  ge : ∀ k, Un Fx Fy k → W.heap.size ≤ k
  below : Below W.heap.size W w
section
variable {W w w' : World} {Fx Fy Fx' Fy' : Nat → Prop} {gx gy : Nat} {sx sx' sy sy' : Sd} {dn dn' : List (List UInt8 × Nat)}
theorem Ts.lt (h : Ts W w Fx Fy gx gy sx sy dn) : ∀ k, Un Fx Fy k → k < w.heap.size := fun k e => e.elim (h.ps.lt k) (h.pr.lt k)
theorem Ts.x (h : Ts W w Fx Fy gx gy sx sy dn) (hp : PS w' Fx' gx sx') (hm : Mv Fx Fx' w w') : Ts W w' Fx' Fy gx gy sx' sy dn ∧ Mv (Un Fx Fy) (Un Fx' Fy) w w' := by
  have hz := h.below.size
  refine ⟨⟨hp, h.pr.kp hm.kp fun k hy hx => h.dis k hx hy, fun k hx hy => ?_, fun k e => ?_, h.below.trans (hm.kp.below (fun k e => h.ge k (.inl e)) hz)⟩, ⟨hm.kp.mono fun k e => .inl e, fun k e => ?_⟩⟩
  · rcases hm.new k hx with h1 | h1
    · exact h.dis k h1 hy
    · have := h.pr.lt k hy; omega
  · rcases e with e | e
    · rcases hm.new k e with h1 | h1
      · exact h.ge k (.inl h1)
      · omega
    · exact h.ge k (.inr e)
  · rcases e with e | e
    · rcases hm.new k e with h1 | h1
      · exact .inl (.inl h1)
      · exact .inr h1
    · exact .inl (.inr e)
theorem Ts.y (h : Ts W w Fx Fy gx gy sx sy dn) (hp : RS w' Fy' gy sy' dn') (hm : Mv Fy Fy' w w') : Ts W w' Fx Fy' gx gy sx sy' dn' ∧ Mv (Un Fx Fy) (Un Fx Fy') w w' := by
  have hz := h.below.size
  refine ⟨⟨h.ps.kp hm.kp fun k hx hy => h.dis k hx hy, hp, fun k hx hy => ?_, fun k e => ?_, h.below.trans (hm.kp.below (fun k e => h.ge k (.inr e)) hz)⟩, ⟨hm.kp.mono fun k e => .inr e, fun k e => ?_⟩⟩
  · rcases hm.new k hy with h1 | h1
    · exact h.dis k hx h1
    · have := h.ps.lt k hx; omega
  · rcases e with e | e
    · exact h.ge k (.inl e)
    · rcases hm.new k e with h1 | h1
      · exact h.ge k (.inr h1)
      · omega
  · rcases e with e | e
    · exact .inl (.inl e)
    · rcases hm.new k e with h1 | h1
      · exact .inl (.inr h1)
      · exact .inr h1
theorem Ts.mvb (h : Ts W w Fx Fy gx gy sx sy dn) (hb : Below w.heap.size w w') : Ts W w' Fx Fy gx gy sx sy dn := ⟨h.ps.below hb, h.pr.below hb, h.dis, h.ge, h.below.trans (hb.mono h.below.size)⟩
theorem Ts.kp {G : Nat → Prop} (h : Ts W w Fx Fy gx gy sx sy dn) (hk : Kp G w w') (hd : ∀ k, Un Fx Fy k → ¬ G k) (hG : ∀ k, G k → W.heap.size ≤ k) : Ts W w' Fx Fy gx gy sx sy dn :=
  ⟨h.ps.kp hk fun k e => hd k (.inl e), h.pr.kp hk fun k e => hd k (.inr e), h.dis, h.ge, h.below.trans (hk.below hG h.below.size)⟩

theorem Ts.xpush (h : Ts W w Fx Fy gx gy sx sy dn) (A : Option Addr) (n c : Nat) (l : List UInt8) (hr : Rd w w.heap.size A n l) (hcm : sx.came + sx.queue.length + 1 < 4611686018427387904) :
    Calls Try.prog 11 #[.pointer (some ⟨gx, 0, none⟩), .slice A n c] w fun e w' => e = .returned (.int .i64 (sx.push l).1) ∧ ∃ Fx', Ts W w' Fx' Fy gx gy (sx.push l).2 sy dn ∧ Mv (Un Fx Fy) (Un Fx' Fy) w w' := by
  refine (sPush_any h.ps A n c l hr hcm).mono ?_
  rintro e w' ⟨rfl, Fx', h1, h2⟩
  have := h.x h1 h2
  exact ⟨rfl, Fx', this.1, this.2⟩
theorem Ts.ypush (h : Ts W w Fx Fy gx gy sx sy dn) (A : Option Addr) (n c : Nat) (l : List UInt8) (hr : Rd w w.heap.size A n l) (hcm : sy.came + sy.queue.length + 1 < 1000000) :
    Calls Try.prog 12 #[.pointer (some ⟨gy, 0, none⟩), .slice A n c] w fun e w' => e = .returned (.int .i64 (sy.push l).1) ∧ ∃ Fy', Ts W w' Fx Fy' gx gy sx (sy.push l).2 dn ∧ Mv (Un Fx Fy) (Un Fx Fy') w w' := by
  refine (dPush_any h.pr A n c l hr hcm).mono ?_
  rintro e w' ⟨rfl, Fy', h1, h2⟩
  have := h.y h1 h2
  exact ⟨rfl, Fy', this.1, this.2⟩
theorem Ts.xhear (h : Ts W w Fx Fy gx gy sx sy dn) (m : Sg) (hm : m.Ok) (A : Option Addr) (n c : Nat) (hl : m.body.length = n) :
    Calls Try.prog 18 #[.pointer (some ⟨gx, 0, none⟩), sgV m (.slice A n c)] w fun e w' => e = .returned (.int .i64 (sx.hear m).1) ∧ ∃ Fx', Ts W w' Fx' Fy gx gy (sx.hear m).2 sy dn ∧ Mv (Un Fx Fy) (Un Fx' Fy) w w' := by
  refine (sHear_any h.ps m hm A n c hl).mono ?_
  rintro e w' ⟨rfl, Fx', h1, h2⟩
  have := h.x h1 h2
  exact ⟨rfl, Fx', this.1, this.2⟩
theorem Ts.yhear (h : Ts W w Fx Fy gx gy sx sy dn) (m : Sg) (hm : m.Ok) (A : Option Addr) (n c : Nat) (hl : m.body.length = n) :
    Calls Try.prog 19 #[.pointer (some ⟨gy, 0, none⟩), sgV m (.slice A n c)] w fun e w' => e = .returned (.int .i64 (sy.hear m).1) ∧ ∃ Fy' dn', Ts W w' Fx Fy' gx gy sx (sy.hear m).2 dn' ∧ Mv (Un Fx Fy) (Un Fx Fy') w w' := by
  refine (dHear_any h.pr m hm A n c hl).mono ?_
  rintro e w' ⟨dn', rfl, Fy', h1, h2⟩
  have := h.y h1 h2
  exact ⟨rfl, Fy', dn', this.1, this.2⟩
theorem Ts.xtick (h : Ts W w Fx Fy gx gy sx sy dn) (ht : sx.tick + 1 < 4611686018427387904) : Calls Try.prog 15 #[.pointer (some ⟨gx, 0, none⟩)] w fun e w' => ∃ A c es, e = .returned (.slice A sx.out.length c) ∧ es.map (·.1) = sx.out ∧ SgR w' w.heap.size (Un Fx Fy) (.slice A sx.out.length c) es ∧ SgRow w' w.heap.size (.slice A sx.out.length c) es ∧ Ts W w' Fx Fy gx gy sx.tickS sy dn ∧ Mv (Un Fx Fy) (Un Fx Fy) w w' := by
  refine (sTick_any h.ps ht).mono ?_
  rintro e w' ⟨v, es, rfl, h1, h2, h3, h4⟩
  obtain ⟨A, c, rfl, _⟩ := own_shape h2.own
  have hl : es.length = sx.out.length := by rw [← h1]; simp
  have ht := h.x h3 (Mv.of h4)
  have hr := SgR.of_row h2 (G := Un Fx Fy) h.lt
  rw [hl] at hr h2
  exact ⟨A, c, es, by rw [hl], h1, hr, h2, ht.1, ht.2⟩
theorem Ts.ytick (h : Ts W w Fx Fy gx gy sx sy dn) (ht : sy.tick + 1 < 4611686018427387904) : Calls Try.prog 16 #[.pointer (some ⟨gy, 0, none⟩)] w fun e w' => ∃ A c, e = .returned (.slice A sy.out.length c) ∧ SgRd w' A sy.out.length sy.out ∧ Ts W w' Fx Fy gx gy sx sy.tickS dn ∧ Mv (Un Fx Fy) (Un Fx Fy) w w' := by
  refine (dTick_any h.pr ht).mono ?_
  rintro e w' ⟨v, gs, rfl, h1, h2, h3, h4, h5⟩
  obtain ⟨A, c, rfl, _⟩ := own_shape h2
  have hl : gs.length = sy.out.length := by rw [← h1]; simp
  have hr := SgRd.of_own h2 (fun e he => (h3 e he).1)
  have ht := h.y h4 (Mv.of h5)
  rw [h1, hl] at hr
  exact ⟨A, c, by rw [hl], hr, ht.1, ht.2⟩
end
end Go.Proofs.Ytfdlhefbbhblnaa
