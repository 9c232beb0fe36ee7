/- The document's sender: Tick, ahead of each round. -/
import Derived.Test.YtfdlhefbbhblnaaSesRh
import Derived.Test.YtfdlhefbbhblnaaSesX
namespace Go.Proofs.Ytfdlhefbbhblnaa
open Go.RowKit Go.Maps

theorem DcRow.sent {w : World} {F : Nat → Prop} {R n c i : Nat} {es : List Pce} (h : DcRow w F (.slice (some ⟨R, 0, none⟩) n c) es) (hn : n = es.length) (hi : i < es.length) (T : Nat) :
    DcRow (w.setCell ⟨R, i * 2 + 1, none⟩ (.int .i64 (T : Int))) F (.slice (some ⟨R, 0, none⟩) n c) (es.set i ((es[i].1.1, T), es[i].2)) := by
  have hk : Kp (fun j => j = R) w (w.setCell ⟨R, i * 2 + 1, none⟩ (.int .i64 (T : Int))) := Kp.set_ (F := fun j => j = R) (p := ⟨R, i * 2 + 1, none⟩) rfl _
  have hown := h.own
  rw [← hn] at hown
  have h1 := own_sets hown (i * 2 + 1) [.int .i64 (T : Int)] (by simp; omega)
  rw [over_one _ _ _ (by rw [pcC_len]; omega), ← pcC_set es i hi T] at h1
  refine ⟨by rw [List.length_set, ← hn]; exact h1, fun e he => ?_, h.foot, fun e he k e2 => ?_⟩
  · rcases List.mem_or_eq_of_mem_set he with he | he
    · exact own_kp (h.each e he) hk fun j e1 e2 => by
        subst e2
        rcases own_types_ne (h.each e he) h.own (by decide) with h' | h'
        · rw [h'] at e1; cases e1
        · exact h' e1
    · subst he
      have hm := List.getElem_mem hi
      exact own_kp (show w.ownsRow 0 5 1 es[i].2 es[i].1.1.length (u8s es[i].1.1) from h.each _ hm) hk fun j e1 e2 => by
        subst e2
        rcases own_types_ne (h.each es[i] hm) h.own (by decide) with h' | h'
        · rw [h'] at e1; cases e1
        · exact h' e1
  · rcases List.mem_or_eq_of_mem_set he with he | he
    · exact h.bods e he k e2
    · subst he
      exact h.bods _ (List.getElem_mem hi) k e2

/-- Ahead of a round. -/
structure DTick (w wr : World) (F : Nat → Prop) (g : Nat) (s : Sd) (dn : List (List UInt8 × Nat)) (v : Value) (i : Nat) (lv : Value) (es : List Pce) (gs : List Sge) : Prop where
  bk : Bk wr g 32 (rsA { s with tick := s.tick + 1 } v)
  row : DcRow wr F v es
  eq : es.map (·.1) = dn ++ ((s.queue.take i).map (updQ s.span (s.tick + 1)) ++ s.queue.drop i)
  dl : dn.length = s.came
  own : wr.ownsRow w.heap.size 36 4 lv gs.length (sgC gs)
  bods : ∀ e ∈ gs, wr.ownsRow 0 5 1 e.2 e.1.body.length (u8s e.1.body) ∧ ∀ k, e.2.ownBlock = some k → F k
  oeq : gs.map (·.1) = outQ s.life s.span (s.tick + 1) s.came (s.queue.take i)
  kp : Kp F w wr
section
variable {w wr wr' : World} {F : Nat → Prop} {g i p : Nat} {s : Sd} {dn : List (List UInt8 × Nat)} {v lv lv' : Value} {es : List Pce} {gs : List Sge}
theorem DTick.len (h : DTick w wr F g s dn v i lv es gs) : es.length = s.came + s.queue.length := by
  have := congrArg List.length h.eq
  simp only [List.length_map, List.length_append, List.length_take, List.length_drop, h.dl] at this
  omega
theorem DTick.at_ (h : DTick w wr F g s dn v i lv es gs) (hi : i < s.queue.length) (hp : p = s.came + i) (hpl : p < es.length) : es[p] = (s.queue[i], es[p].2) := by
  have h1 := congrArg (fun l => l[p]?) h.eq
  have h2 : (dn ++ ((s.queue.take i).map (updQ s.span (s.tick + 1)) ++ s.queue.drop i))[p]? = some s.queue[i] := by
    rw [List.getElem?_append_right (by rw [h.dl]; omega), h.dl, show p - s.came = i by omega]
    exact upd_at _ _ i hi
  simp only [h2, List.getElem?_map, List.getElem?_eq_getElem hpl, Option.map_some, Option.some.injEq] at h1
  exact Prod.ext h1 rfl
theorem DTick.below (h : DTick w wr F g s dn v i lv es gs) (hb : Below wr.heap.size wr wr') : DTick w wr' F g s dn v i lv es gs :=
  ⟨h.bk.below hb h.bk.lt, h.row.kp (G := fun _ => False) (Kp.of_below hb) (fun _ _ h => h), h.eq, h.dl, own_below h.own hb fun k e => (h.own.lt k e).2, fun e he => ⟨own_below (h.bods e he).1 hb fun k e2 => ((h.bods e he).1.lt k e2).2, (h.bods e he).2⟩, h.oeq, h.kp.trans (Kp.of_below hb)⟩
/-- It does not go. -/
theorem DTick.skip (h : DTick w wr F g s dn v i lv es gs) (hi : i < s.queue.length) (hd : dueQ s.span (s.tick + 1) s.queue[i] = false) : DTick w wr F g s dn v (i + 1) lv es gs := by
  refine { h with eq := ?_, oeq := ?_ }
  · rw [h.eq, ← upd_step _ _ _ hi]
    have e : updQ s.span (s.tick + 1) s.queue[i] = s.queue[i] := by unfold updQ; rw [hd]; rfl
    rw [e]
    congr 1
    refine (List.ext_getElem? fun j => ?_)
    by_cases hj : j = i
    · subst hj
      rw [List.getElem?_set_self (by simp; omega), upd_at _ _ _ hi]
    · rw [List.getElem?_set_ne (Ne.symm hj)]
  · rw [h.oeq, List.take_succ_eq_append_getElem hi, outQ_app, hd]
    simp
/-- It goes. -/
theorem DTick.go {w0 w2 w3 : World} {R n c : Nat} (h : DTick w wr F g s dn (.slice (some ⟨R, 0, none⟩) n c) i lv es gs) (hn : n = es.length) (hi : i < s.queue.length) (hp : p = s.came + i) (hpl : p < es.length) (hd : dueQ s.span (s.tick + 1) s.queue[i] = true) (hF : ∀ k, F k → k < w.heap.size)
    (hw0 : w0 = wr.setCell ⟨R, p * 2 + 1, none⟩ (.int .i64 ((s.tick + 1 : Nat) : Int))) (hb2 : Below w0.heap.size w0 w2)
    (happ : App w2 w3 w.heap.size 36 4 lv lv' gs.length 1 (sgC gs) (sgE (⟨s.life, s.came + i + 1, false, s.queue[i].1⟩, es[p].2))) :
    ∃ es', DTick w w3 F g s dn (.slice (some ⟨R, 0, none⟩) n c) (i + 1) lv' es' (gs ++ [(⟨s.life, s.came + i + 1, false, s.queue[i].1⟩, es[p].2)]) := by
  have hR : F R := h.row.foot R rfl
  have hRg : R ≠ g := h.row.off h.bk R (.inl rfl)
  have hk0 : Kp (fun j => j = R) wr w0 := by rw [hw0]; exact Kp.set_ (F := fun j => j = R) (p := ⟨R, p * 2 + 1, none⟩) rfl _
  have hrow0 : DcRow w0 F (.slice (some ⟨R, 0, none⟩) n c) (es.set p ((es[p].1.1, s.tick + 1), es[p].2)) := by rw [hw0]; exact h.row.sent hn hpl (s.tick + 1)
  have hz0 := hk0.size
  have hz := h.kp.size
  have hRw := hF R hR
  have hown0 : w0.ownsRow w.heap.size 36 4 lv gs.length (sgC gs) := own_kp h.own hk0 fun k e e2 => by
    have := (h.own.lt k e).1
    omega
  have hlv : ∀ k, lv.ownBlock = some k → w.heap.size ≤ k := fun k e => (h.own.lt k e).1
  have hk3 : Kp (fun k => lv.ownBlock = some k) w2 w3 := Kp.of_row happ.grow (fun g e => e)
  have hbk0 := h.bk.kp hk0 (fun e => hRg e.symm)
  have hown2 := own_below hown0 hb2 fun k e => (hown0.lt k e).2
  have hoff : ∀ k, F k → ¬ lv.ownBlock = some k := fun k hf e => by
    have := hF k hf
    have := hlv k e
    omega
  have hrow2 := hrow0.kp (G := fun _ => False) (Kp.of_below hb2) (fun _ _ h => h)
  have hrow3 := hrow2.kp hk3 hoff
  have hat := h.at_ hi hp hpl
  refine ⟨es.set p ((es[p].1.1, s.tick + 1), es[p].2), ?_, hrow3, ?_, h.dl, ?_, fun e he => ?_, ?_, ?_⟩
  · refine (hbk0.below hb2 hbk0.lt).kp hk3 fun e => ?_
    exact not_bk7 (hbk0.below hb2 hbk0.lt) hown2 (by decide) g e rfl
  · rw [List.map_set, h.eq, ← upd_step _ _ _ hi]
    have e : updQ s.span (s.tick + 1) s.queue[i] = (es[p].1.1, s.tick + 1) := by unfold updQ; rw [hd, hat]; rfl
    rw [e, List.set_append_right _ _ (by rw [h.dl]; omega), h.dl, show p - s.came = i by omega]
  · rw [List.length_append, sgC_app]
    exact happ.own
  · rcases List.mem_append.1 he with he | he
    · obtain ⟨b1, b2⟩ := h.bods e he
      have b3 := own_kp b1 hk0 fun k e1 e2 => by
        subst e2
        rcases own_types_ne b1 h.row.own (by decide) with h' | h'
        · rw [h'] at e1; cases e1
        · exact h' e1
      exact ⟨own_kp (own_below b3 hb2 fun k e2 => (b3.lt k e2).2) hk3 fun k e1 => hoff k (b2 k e1), b2⟩
    · rw [List.mem_singleton.1 he]
      have hm : ((es[p].1.1, s.tick + 1), es[p].2) ∈ es.set p ((es[p].1.1, s.tick + 1), es[p].2) := List.mem_set hpl _
      have h1 := hrow3.each _ hm
      have e1 : es[p].1.1 = s.queue[i].1 := by rw [hat]
      simp only [e1] at h1
      exact ⟨h1, fun k e2 => h.row.bods es[p] (List.getElem_mem hpl) k e2⟩
  · rw [List.map_append, h.oeq, List.take_succ_eq_append_getElem hi, outQ_app, hd]
    simp [Nat.min_eq_left (Nat.le_of_lt hi)]
  · exact ((h.kp.trans (hk0.mono fun k e => by rw [e]; exact hR)).trans (Kp.of_below hb2)).trans' hk3 fun k e => .inr (hlv k e)
end
end Go.Proofs.Ytfdlhefbbhblnaa
