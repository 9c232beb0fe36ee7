/- The program's receiver: Hear. -/
import Derived.Test.YtfdlhefbbhblnaaSesZ
import Derived.Test.YtfdlhefbbhblnaaClone
namespace Go.Proofs.Ytfdlhefbbhblnaa
open Go.RowKit Go.Maps

theorem ownE_clear {w : World} {b N : Nat} {L : List (Nat × Sl)} (h : OwnE w b N L) : ∃ w', (Builtin.clear_ #[90] 0 #[.map (some b)]).run Try.prog w = .ok (.tuple #[]) w' ∧ OwnE w' b 0 [] ∧ Kp (fun k => k = b) w w' := by
  obtain ⟨es, clock, hb, F, hs, hD⟩ := h
  have hrun : (Builtin.clear_ #[90] 0 #[.map (some b)]).run Try.prog w = .ok (.tuple #[]) { w with heap := w.heap.setIfInBounds b (.map #[] clock) } := by
    simp [Builtin.clear_, run_underlying Try.underlying90, MapKept.run_getObj_map hb, MapKept.run_setObj_map _ hb, Result.andThen]
  have hlt : b < w.heap.size := (Array.getElem?_eq_some_iff.1 hb).1
  refine ⟨_, hrun, ⟨#[], clock, by simp [hlt], ⟨by simp, MapKept.stamped_empty clock, by simp⟩, Nat.le_refl _, rfl⟩, ?_⟩
  refine Kp.of_grown (F := fun k => k = b) (g := b) ⟨rfl, rfl, rfl, by simp, fun k hk hne => ?_⟩ rfl
  simp only [Array.getElem?_setIfInBounds]
  rw [if_neg (fun e => hne (by rw [e]))]
/-- A new life. -/
theorem PRb.turned {w w1 w2 : World} {F : Nat → Prop} {g b : Nat} {r : Rc} {es : List Ern} {m : Sg} (h : PRb w F g b r es) (hm : m.Ok) (hl : r.life < m.life) (hw1 : w1 = (w.setCell ⟨g, 1, none⟩ (.int .u64 (m.life : Int))).setCell ⟨g, 2, none⟩ (.int .u64 0)) (hc : OwnE w2 b 0 []) (hk : Kp (fun k => k = b) w1 w2) :
    PRb w2 F g b (r.turn m) [] ∧ Kp F w w2 := by
  have hgb := h.map.off_bk h.bk
  have hk1 : Kp (fun j => j = g) w w1 := by rw [hw1]; exact (Kp.set_ (F := fun j => j = g) (p := ⟨g, 1, none⟩) rfl _).trans (Kp.set_ (F := fun j => j = g) (p := ⟨g, 2, none⟩) rfl _)
  have hb1 : Bk w1 g 92 (rcA { r with life := m.life, came := 0, early := [] } b) := by
    rw [hw1]
    exact (h.bk.set_ 1 _).set_ 2 _
  have ht : r.turn m = { r with life := m.life, came := 0, early := [] } := by unfold Rc.turn; rw [if_pos hl]
  have hkk : Kp F w w2 := (hk1.mono fun j e => by rw [e]; exact h.fg).trans (hk.mono fun j e => by rw [e]; exact h.fb)
  refine ⟨⟨?_, hc, fun e he => (List.not_mem_nil he).elim, fun i j v u _ h => by simp at h, ?_, h.ok.turn hm, h.fg, h.fb, fun e he => (List.not_mem_nil he).elim, fun k e => Nat.lt_of_lt_of_le (h.lt k e) hkk.size⟩, hkk⟩
  · rw [ht]; exact hb1.kp hk hgb
  · rw [ht]; rfl
/-- One piece is kept. -/
theorem PRb.kept {w w1 : World} {F : Nat → Prop} {g b n : Nat} {r : Rc} {es : List Ern} {m : Sg} {A : Option Addr} {c : Nat} (h : PRb w F g b r es) (hm : m.Ok) (hr : m.right = true) (ha : m.ack = false) (hwt : r.wants m.seq = true) (hc : r.came + r.early.length + 1 < 4611686018427387904) (hl : m.body.length = n)
    (hb : Below w.heap.size w w1) (ho : w1.ownsRow w.heap.size 5 1 (.slice A n c) n (u8s m.body)) :
    ∃ w2 es2 F2, (Instr.mapUpdate 90 (.map (some b)) (.int .u64 (m.seq : Int)) (.slice A n c)).run Try.prog w1 = .ok () w2 ∧ PRb w2 F2 g b (r.keep m) es2 ∧ Mv F F2 w w2 := by
  obtain ⟨sl, hsl⟩ : ∃ sl : Sl, slV sl = .slice A n c := by
    rcases ho.2 with ⟨hv, _⟩ | ⟨g', cap, cur, hv, _⟩
    · injection hv with h1 h2 h3
      subst h1 h2 h3
      exact ⟨(none, 0, 0), rfl⟩
    · injection hv with h1 h2 h3
      subst h1 h3
      exact ⟨(some g', n, c), rfl⟩
  have hbw := h.below hb
  have hok := (h.ok.keep (g := m) hr ha hc)
  have hw := Rc.wants_iff hwt
  have hkm : onK (·.1) es = r.early := h.eq
  have hnone : getK es m.seq = none := by
    have := hw.2.2
    rw [← hkm, getK_on] at this
    simpa using this
  obtain ⟨w2, hrun, hmap, htn⟩ := World.ownsMap.store (w := w1) (val := slV sl) hbw.map u64Keyed Try.underlying90 (by have := h.ok.len; rw [← h.len] at this; unfold maxLen; omega) (u64Key m.seq hm.seq) (slR_mk sl)
  rw [hsl] at hrun
  have hk := kp_turned htn
  have hgb := hbw.map.off_bk hbw.bk
  have hko : Kp (fun k => k = b) w1 w2 := hk
  rw [mapS_put] at hmap
  have he : putK m.seq sl (onK (·.2) es) = onK (·.2) (insK (m.seq, (m.body, sl)) es) := by
    unfold putK
    rw [delK_none (by rw [getK_on, hnone]; rfl), insK_on]
  rw [he] at hmap
  have hmem := insK_mem (m.seq, (m.body, sl)) es
  have hol : m.body.length = n := hl
  have hown : w2.ownsRow w.heap.size 5 1 (slV sl) m.body.length (u8s m.body) := by
    rw [hsl, hol]
    exact own_kp ho hk fun k e1 e2 => hbw.map.off ho k e1 e2
  refine ⟨w2, insK (m.seq, (m.body, sl)) es, fun k => F k ∨ (slV sl).ownBlock = some k, hrun, ⟨?_, ?_, fun e he => ?_, ?_, ?_, hok, .inl h.fg, .inl h.fb, fun e he k hk => ?_, fun k e => ?_⟩, ?_, ?_⟩
  · have hkr : rcA (r.keep m) b = rcA r b := by unfold Rc.keep; split <;> rfl
    rw [hkr]
    exact hbw.bk.kp hk hgb
  · rw [insK_len]
    exact World.ownsMap.mono hmap (Nat.le_refl _)
  · rcases (hmem e).1 he with rfl | he
    · exact own_mono hown (Nat.zero_le _)
    · exact own_kp (hbw.each e he) hk fun k e1 e2 => hbw.map.off (hbw.each e he) k e1 e2
  · have hnew : ∀ e ∈ es, Apart (slV e.2.2) (slV sl) := fun e he k h1 h2 => by
      have q1 := ((h.each e he).lt k h1).2
      have q2 := (hown.lt k h2).1
      omega
    have key : ∀ (L : List Ern), AllApart (L.map fun e => slV e.2.2) → (∀ e ∈ L, Apart (slV e.2.2) (slV sl)) → AllApart ((insK (m.seq, (m.body, sl)) L).map fun e => slV e.2.2) := by
      intro L
      induction L with
      | nil =>
        intro _ _ i j v u hij hv hu
        have h1 := (List.getElem?_eq_some_iff.1 hv).1
        have h2 := (List.getElem?_eq_some_iff.1 hu).1
        simp [insK] at h1 h2
        omega
      | cons y t ih =>
        intro hL hN
        have hcons : ∀ (z : Ern) (l : List Ern), AllApart (l.map fun e => slV e.2.2) → (∀ e ∈ l, Apart (slV z.2.2) (slV e.2.2)) → AllApart ((z :: l).map fun e => slV e.2.2) := by
          intro z l hl hz i j v u hij hv hu
          cases i with
          | zero =>
            cases j with
            | zero => exact absurd rfl hij
            | succ j =>
              simp only [List.map_cons, List.getElem?_cons_zero, List.getElem?_cons_succ, Option.some.injEq] at hv hu
              subst hv
              obtain ⟨e, he, rfl⟩ := List.mem_map.1 (List.mem_of_getElem? hu)
              exact hz e he
          | succ i =>
            cases j with
            | zero =>
              simp only [List.map_cons, List.getElem?_cons_zero, List.getElem?_cons_succ, Option.some.injEq] at hv hu
              subst hu
              obtain ⟨e, he, rfl⟩ := List.mem_map.1 (List.mem_of_getElem? hv)
              exact (hz e he).symm
            | succ j => exact hl i j v u (by omega) (by simpa using hv) (by simpa using hu)
        have htl : AllApart (t.map fun e => slV e.2.2) := fun i j v u hij hv hu => hL (i + 1) (j + 1) v u (by omega) (by simpa using hv) (by simpa using hu)
        have hhd : ∀ e ∈ t, Apart (slV y.2.2) (slV e.2.2) := fun e he => by
          obtain ⟨j, hj, rfl⟩ := List.mem_iff_getElem.1 he
          exact hL 0 (j + 1) _ _ (by omega) rfl (by simp [hj])
        unfold insK
        split
        · exact hcons _ _ hL fun e he => (hN e he).symm
        · refine hcons _ _ (ih htl fun e he => hN e (by simp [he])) fun e he => ?_
          rcases (insK_mem _ _ _).1 he with rfl | he
          · exact hN y (by simp)
          · exact hhd e he
    exact key es h.apart hnew
  · rw [Rc.keep_eq hwt, insK_on]
    show insK (m.seq, m.body) (onK (·.1) es) = putK m.seq m.body r.early
    rw [hkm]
    unfold putK
    rw [delK_none hw.2.2]
  · rcases (hmem e).1 he with rfl | he
    · exact .inr hk
    · exact .inl (h.bods e he k hk)
  · have hz := hb.size
    have hz2 := hko.size
    rcases e with e | e
    · have := h.lt k e; omega
    · exact (hown.lt k e).2
  · exact (Kp.of_below hb).trans (hk.mono fun k e => by rw [e]; exact h.fb)
  · intro k e
    rcases e with e | e
    · exact .inl e
    · exact .inr (hown.lt k e).1

/-- What Hear gives. -/
def HearS (r : Rc) (m : Sg) (w : World) (F : Nat → Prop) (g : Nat) (e : Ending) (w' : World) : Prop :=
  ∃ (v : Value) (out : List (List UInt8 × Value)) (F' : Nat → Prop), e = .returned (.tuple #[v, sgV (r.hear m).2.ack (.slice none 0 0), .int .i64 0]) ∧ out.map (·.1) = (r.hear m).1 ∧ w'.ownsRow w.heap.size 34 1 v out.length (out.map (·.2)) ∧ (∀ x ∈ out, w'.ownsRow 0 5 1 x.2 x.1.length (u8s x.1)) ∧ AllApart (out.map (·.2)) ∧
    (∀ x ∈ out, ∀ k, x.2.ownBlock = some k → (F k ∨ w.heap.size ≤ k) ∧ ¬ F' k) ∧ (∀ k, v.ownBlock = some k → ¬ F' k) ∧ PR w' F' g (r.hear m).2 ∧ Mv F F' w w'
theorem HearS.mk {w w7 w8 w9 : World} {F F7 : Nat → Prop} {g B : Nat} {r : Rc} {m : Sg} {e : Ending} (hm : Mv F F7 w w7) (ht : TakeS ((r.turn m).keep m) w7 F7 g e w8) (hBF : ¬ F7 B) (hBl : B < w7.heap.size) (hk : Kp (fun j => j = B) w8 w9) (hF7 : ∀ k, F7 k → k < w7.heap.size) (hBw : w.heap.size ≤ B) :
    ∃ A n c, e = .returned (.slice A n c) ∧ HearS r m w F g (.returned (.tuple #[.slice A n c, sgV (r.hear m).2.ack (.slice none 0 0), .int .i64 0])) w9 := by
  obtain ⟨v, out, F', rfl, h1, h2, h3, h4, h5, h6, h7, h8⟩ := ht
  obtain ⟨A, c, rfl, _⟩ := own_shape h2
  refine ⟨A, _, c, rfl, _, out, F', rfl, h1, ?_, fun x hx => ?_, h4, fun x hx k e => ?_, fun k e hf => ?_, ?_, ?_, fun k hf => ?_⟩
  · exact own_mono (own_kp h2 hk fun j e1 e2 => by have := (h2.lt j e1).1; omega) hm.kp.size
  · exact own_kp (h3 x hx) hk fun j e1 e2 => hBF (by rw [← e2]; exact (h5 x hx j e1).1)
  · exact ⟨hm.new k (h5 x hx k e).1, (h5 x hx k e).2⟩
  · have q1 := (h2.lt k e).1
    have := hF7 k (h8 k hf)
    omega
  · exact h6.kp hk fun k hf e => hBF (by rw [← e]; exact h8 k hf)
  · refine Kp.trans' ?_ hk fun j e => .inr (by omega)
    exact hm.kp.trans' h7 fun k hf => hm.new k hf
  · exact hm.new k (h8 k hf)
end Go.Proofs.Ytfdlhefbbhblnaa
