/- Layer 7's laws: both receivers, apart from one another; what came out of them. -/
import Derived.Test.YtfdlhefbbhblnaaSesDo
import Derived.Test.YtfdlhefbbhblnaaSesLn
import Derived.Test.YtfdlhefbbhblnaaSesQ
import Derived.Test.YtfdlhefbbhblnaaOwnK
namespace Go.Proofs.Ytfdlhefbbhblnaa
open Go.RowKit Go.Maps

/-- What a receiver answers. -/
def Rc.ans (r : Rc) (m : Sg) : List (List UInt8) × Sg × Int × Rc := if r.refuse m = 0 then ((r.hear m).1, (r.hear m).2.ack, 0, (r.hear m).2) else ([], Sg.zero, r.refuse m, r)
theorem Rc.ans_body (r : Rc) (m : Sg) : (r.ans m).2.1.body = [] := by unfold Rc.ans; split <;> rfl
theorem Rc.ans_sum (r : Rc) (m : Sg) : (r.ans m).2.2.2.came + (r.ans m).2.2.2.early.length ≤ r.came + r.early.length + 1 := by
  unfold Rc.ans
  split
  · exact Rc.hear_sum r m
  · exact Nat.le_succ _
/-- The program's receiver and the document's. -/
structure Tr (W w : World) (Fx Fy : Nat → Prop) (gx gy : Nat) (rx ry : Rc) (K : Nat) : Prop where
  pr : PR w Fx gx rx
  dr : DR w Fy gy ry K
  dis : ∀ k, Fx k → ¬ Fy k
  ge : ∀ k, Un Fx Fy k → W.heap.size ≤ k
  below : Below W.heap.size W w
section
variable {W w w' : World} {Fx Fy Fx' Fy' : Nat → Prop} {gx gy K K' : Nat} {rx rx' ry ry' : Rc}
theorem Tr.lt (h : Tr W w Fx Fy gx gy rx ry K) : ∀ k, Un Fx Fy k → k < w.heap.size := fun k e => e.elim (h.pr.lt k) (h.dr.lt k)
theorem Tr.x (h : Tr W w Fx Fy gx gy rx ry K) (hp : PR w' Fx' gx rx') (hm : Mv Fx Fx' w w') : Tr W w' Fx' Fy gx gy rx' ry K ∧ Mv (Un Fx Fy) (Un Fx' Fy) w w' := by
  have hz := h.below.size
  refine ⟨⟨hp, h.dr.kp hm.kp fun k hy hx => h.dis k hx hy, fun k hx hy => ?_, fun k e => ?_, h.below.trans (hm.kp.below (fun k e => h.ge k (.inl e)) hz)⟩, ⟨hm.kp.mono fun k e => .inl e, fun k e => ?_⟩⟩
  · rcases hm.new k hx with h1 | h1
    · exact h.dis k h1 hy
    · have := h.dr.lt k hy; omega
  · rcases e with e | e
    · rcases hm.new k e with h1 | h1
      · exact h.ge k (.inl h1)
      · omega
    · exact h.ge k (.inr e)
  · rcases e with e | e
    · rcases hm.new k e with h1 | h1
      · exact .inl (.inl h1)
      · exact .inr h1
    · exact .inl (.inr e)
theorem Tr.y (h : Tr W w Fx Fy gx gy rx ry K) (hp : DR w' Fy' gy ry' K') (hm : Mv Fy Fy' w w') : Tr W w' Fx Fy' gx gy rx ry' K' ∧ Mv (Un Fx Fy) (Un Fx Fy') w w' := by
  have hz := h.below.size
  refine ⟨⟨h.pr.kp hm.kp fun k hx hy => h.dis k hx hy, hp, fun k hx hy => ?_, fun k e => ?_, h.below.trans (hm.kp.below (fun k e => h.ge k (.inr e)) hz)⟩, ⟨hm.kp.mono fun k e => .inr e, fun k e => ?_⟩⟩
  · rcases hm.new k hy with h1 | h1
    · exact h.dis k hx h1
    · have := h.pr.lt k hx; omega
  · rcases e with e | e
    · exact h.ge k (.inl e)
    · rcases hm.new k e with h1 | h1
      · exact h.ge k (.inr h1)
      · omega
  · rcases e with e | e
    · exact .inl (.inl e)
    · rcases hm.new k e with h1 | h1
      · exact .inl (.inr h1)
      · exact .inr h1
theorem Tr.mvb (h : Tr W w Fx Fy gx gy rx ry K) (hb : Below w.heap.size w w') : Tr W w' Fx Fy gx gy rx ry K := ⟨h.pr.below hb, h.dr.below hb, h.dis, h.ge, h.below.trans (hb.mono h.below.size)⟩
theorem Tr.kp {G : Nat → Prop} (h : Tr W w Fx Fy gx gy rx ry K) (hk : Kp G w w') (hd : ∀ k, Un Fx Fy k → ¬ G k) (hG : ∀ k, G k → W.heap.size ≤ k) : Tr W w' Fx Fy gx gy rx ry K :=
  ⟨h.pr.kp hk fun k e => hd k (.inl e), h.dr.kp hk fun k e => hd k (.inr e), h.dis, h.ge, h.below.trans (hk.below hG h.below.size)⟩
theorem AllApart.none_ : AllApart ([] : List Value) := fun i j v u _ h => by simp at h
theorem Tr.xhear (h : Tr W w Fx Fy gx gy rx ry K) (m : Sg) (hm : m.Ok) (A : Option Addr) (n c : Nat) (hrd : Rd7 w (Un Fx Fy) A n m.body) (hc : rx.came + rx.early.length + 1 < 4611686018427387904) :
    Calls Try.prog 23 #[.pointer (some ⟨gx, 0, none⟩), sgV m (.slice A n c)] w fun e w' => ∃ A' c' out Fx', e = .returned (.tuple #[.slice A' (rx.ans m).1.length c', sgV (rx.ans m).2.1 (.slice none 0 0), .int .i64 (rx.ans m).2.2.1]) ∧ out.map (·.1) = (rx.ans m).1 ∧ ByR w' w.heap.size (Un Fx' Fy) (.slice A' (rx.ans m).1.length c') out ∧ AllApart (out.map (·.2)) ∧ (∀ x ∈ out, ∀ k, x.2.ownBlock = some k → W.heap.size ≤ k ∧ (Un Fx Fy k ∨ w.heap.size ≤ k)) ∧ Tr W w' Fx' Fy gx gy (rx.ans m).2.2.2 ry K ∧ Mv (Un Fx Fy) (Un Fx' Fy) w w' := by
  have hl := hrd.rd.1
  by_cases hrf : rx.refuse m = 0
  · have ea : rx.ans m = ((rx.hear m).1, (rx.hear m).2.ack, 0, (rx.hear m).2) := by unfold Rc.ans; rw [if_pos hrf]
    rw [ea]
    refine (rHear_any h.pr m hm A n c (hrd.sr fun k e => .inl e) hrf hc).mono ?_
    rintro e w' ⟨v, out, Fx', rfl, h1, h2, h3, h4, h5, h6, h7, h8⟩
    obtain ⟨A', c', rfl, _⟩ := own_shape h2
    have hl2 : out.length = (rx.hear m).1.length := by rw [← h1]; simp
    have ht := h.x h7 h8
    show ∃ A' c' out Fx', _ = Ending.returned (.tuple #[.slice A' (rx.hear m).1.length c', sgV (rx.hear m).2.ack (.slice none 0 0), .int .i64 0]) ∧ _
    rw [← hl2]
    have hz := h.below.size
    refine ⟨A', c', out, Fx', rfl, h1, ⟨h2, fun k e => ⟨(h2.lt k e).2, fun hg => ?_⟩, fun x hx => ?_⟩, h4, fun x hx k e => ?_, ht.1, ht.2⟩
    · rcases hg with hg | hg
      · exact h6 k e hg
      · have := h.dr.lt k hg; have := (h2.lt k e).1; omega
    · have h9 := h3 x hx
      refine ⟨h9, fun k e => ⟨(h9.lt k e).2, fun hg => ?_⟩⟩
      have h10 := h5 x hx k e
      rcases hg with hg | hg
      · exact h10.2 hg
      · rcases h10.1 with h11 | h11
        · exact h.dis k h11 hg
        · have := h.dr.lt k hg; omega
    · rcases (h5 x hx k e).1 with h11 | h11
      · exact ⟨h.ge k (.inl h11), .inl (.inl h11)⟩
      · exact ⟨by omega, .inr h11⟩
  · have ea : rx.ans m = ([], Sg.zero, rx.refuse m, rx) := by unfold Rc.ans; rw [if_neg hrf]
    rw [ea]
    refine (rHear_err (some ⟨gx, 0, none⟩) m A n c w (rx.refuse m) hrf fun W2 hb => rRefuse_any (h.pr.below hb) m A n c hl).mono ?_
    rintro e w' ⟨rfl, hb⟩
    exact ⟨none, 0, [], Fx, rfl, rfl, ByR.nil _ _ _, AllApart.none_, fun x hx => (List.not_mem_nil hx).elim, h.mvb hb, Mv.below7 hb⟩
theorem Tr.yhear (h : Tr W w Fx Fy gx gy rx ry K) (m : Sg) (hm : m.Ok) (A : Option Addr) (n c : Nat) (hrd : Rd w W.heap.size A n m.body) (hoff : 0 < n → ∀ ad, A = some ad → ad.block < W.heap.size) (hc : ry.came + ry.early.length + 1 < 4611686018427387904) (hK : K ≤ 900000) (q : Nat) (hq : q < w.heap.size) (hqF : ¬ Un Fx Fy q) :
    Calls Try.prog 24 #[.pointer (some ⟨gy, 0, none⟩), sgV m (.slice A n c)] w fun e w' => ∃ A' c' out Fy', e = .returned (.tuple #[.slice A' (ry.ans m).1.length c', sgV (ry.ans m).2.1 (.slice none 0 0), .int .i64 (ry.ans m).2.2.1]) ∧ out.map (·.1) = (ry.ans m).1 ∧ ByR w' w.heap.size (fun k => k = q) (.slice A' (ry.ans m).1.length c') out ∧ Tr W w' Fx Fy' gx gy rx (ry.ans m).2.2.2 (K + 1) ∧ Mv (Un Fx Fy) (Un Fx Fy') w w' := by
  have hl := hrd.1
  have hz := h.below.size
  by_cases hrf : ry.refuse m = 0
  · have ea : ry.ans m = ((ry.hear m).1, (ry.hear m).2.ack, 0, (ry.hear m).2) := by unfold Rc.ans; rw [if_pos hrf]
    rw [ea]
    refine (dRHear_any h.dr m hm A n c (hrd.more hz) (fun h0 ad e hf => by have := hoff h0 ad e; have := h.ge _ (.inr hf); omega) hrf hc hK).mono ?_
    rintro e w' ⟨v, out, Fy', rfl, h1, h2, h3, h7, h8⟩
    obtain ⟨A', c', rfl, _⟩ := own_shape h2
    have hl2 : out.length = (ry.hear m).1.length := by rw [← h1]; simp
    have ht := h.y h7 h8
    show ∃ A' c' out Fy', _ = Ending.returned (.tuple #[.slice A' (ry.hear m).1.length c', sgV (ry.hear m).2.ack (.slice none 0 0), .int .i64 0]) ∧ _
    rw [← hl2]
    refine ⟨A', c', out, Fy', rfl, h1, ⟨h2, fun k e => ⟨(h2.lt k e).2, fun hg => ?_⟩, fun x hx => ?_⟩, ht.1, ht.2⟩
    · have := (h2.lt k e).1; omega
    · have h9 := h3 x hx
      refine ⟨h9.1, fun k e => ⟨(h9.1.lt k e).2, fun hg => ?_⟩⟩
      have h10 := h9.2 k e
      rw [hg] at h10
      rcases h8.new q h10 with h11 | h11
      · exact hqF (.inr h11)
      · omega
  · have ea : ry.ans m = ([], Sg.zero, ry.refuse m, ry) := by unfold Rc.ans; rw [if_neg hrf]
    rw [ea]
    refine (dRHear_err h.dr m A n c hl hrf).mono ?_
    rintro e w' ⟨rfl, hb⟩
    have ht := h.mvb hb
    exact ⟨none, 0, [], Fy, rfl, rfl, ByR.nil _ _ _, ⟨ht.pr, ht.dr.up (Nat.le_succ _), ht.dis, ht.ge, ht.below⟩, Mv.below7 hb⟩
end
end Go.Proofs.Ytfdlhefbbhblnaa
