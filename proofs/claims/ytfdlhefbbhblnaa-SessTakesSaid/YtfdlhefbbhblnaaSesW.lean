/- The program's sender: Tick, in memory. -/
import Derived.Test.YtfdlhefbbhblnaaSesV
import Derived.Test.YtfdlhefbbhblnaaFam
import Derived.Deep.LoopGhost
namespace Go.Proofs.Ytfdlhefbbhblnaa
open Go.RowKit Go.Maps

/-! ### a row of segments that the call has made -/
abbrev Sge := Sg × Value
def sgE (e : Sge) : List Value := [.int .u64 (e.1.life : Int), .int .u64 (e.1.seq : Int), .bool e.1.ack, e.2]
def sgC (es : List Sge) : List Value := es.flatMap sgE
theorem sgC_len (es : List Sge) : (sgC es).length = es.length * 4 := flat_len es fun _ _ => rfl
theorem sgC_app (a b : List Sge) : sgC (a ++ b) = sgC a ++ sgC b := by unfold sgC; rw [List.flatMap_append]
theorem sgC_at (es : List Sge) (i j : Nat) (hi : i < es.length) (hj : j < 4) : (sgC es)[i * 4 + j]? = (sgE es[i])[j]? := flat_at (s := 4) es (fun _ _ => rfl) i j hi hj
structure SgRow (w : World) (base : Nat) (v : Value) (es : List Sge) : Prop where
  own : w.ownsRow base 36 4 v es.length (sgC es)
  fam : Fam w base (es.map (·.2)) (es.map (·.1.body))
theorem SgRow.nil (w : World) (base : Nat) : SgRow w base (.slice none 0 0) [] := ⟨World.ownsRow_nil _ _ _ _, Fam.nil _ _⟩
theorem SgRow.below {w w' : World} {base : Nat} {v : Value} {es : List Sge} (h : SgRow w base v es) (hb : Below w.heap.size w w') : SgRow w' base v es :=
  ⟨own_below h.own hb fun k e => (h.own.lt k e).2, h.fam.up hb⟩
theorem SgRow.push {wr w1 w2 w3 : World} {base : Nat} {lv lv' bv : Value} {gs : List Sge} {sg : Sg} (h : SgRow wr base lv gs) (hb : Below wr.heap.size wr w1) (ho : w1.ownsRow wr.heap.size 5 1 bv sg.body.length (u8s sg.body)) (hb2 : Below w1.heap.size w1 w2)
    (happ : App w2 w3 base 36 4 lv lv' gs.length 1 (sgC gs) (sgE (sg, bv))) (hbase : base ≤ wr.heap.size) : SgRow w3 base lv' (gs ++ [(sg, bv)]) := by
  have h1 := (h.fam.push hb ho hbase).up hb2
  have hr := own_below h.own (below_then hb hb2) fun k e => (h.own.lt k e).2
  refine ⟨by rw [List.length_append, sgC_app]; exact happ.own, ?_⟩
  rw [List.map_append, List.map_append]
  refine h1.grown happ.grow fun i u hu => ?_
  exact own_types_ne (h1.each i u hu) hr (by decide)
theorem SgRow.kp {w w' : World} {base : Nat} {v : Value} {es : List Sge} {G : Nat → Prop} (h : SgRow w base v es) (hk : Kp G w w') (hG : ∀ k, G k → k < base) : SgRow w' base v es :=
  ⟨own_kp h.own hk fun k e hg => by have := (h.own.lt k e).1; have := hG k hg; omega, ⟨h.fam.len, fun i u hu => own_kp (h.fam.each i u hu) hk fun k e hg => by have := ((h.fam.each i u hu).lt k e).1; have := hG k hg; omega, h.fam.apart⟩⟩

/-! ### when a piece was sent -/
theorem over_one (xs : List Value) (o : Nat) (v : Value) (h : o < xs.length) : over xs o [v] = xs.set o v := by rw [← over_cons xs o v [] h, over_nil]
theorem pcC_set : ∀ (es : List Pce) (i : Nat) (hi : i < es.length) (T : Nat), pcC (es.set i ((es[i].1.1, T), es[i].2)) = (pcC es).set (i * 2 + 1) (.int .i64 (T : Int))
  | e :: r, 0, _, T => rfl
  | e :: r, i + 1, hi, T => by
    have ih := pcC_set r i (by simpa using hi) T
    have e1 : (i + 1) * 2 + 1 = (i * 2 + 1) + 1 + 1 := by omega
    simp only [List.getElem_cons_succ, List.set_cons_succ]
    unfold pcC at *
    simp only [List.flatMap_cons, ih, e1]
    rfl
theorem PcRow.sent {w : World} {F : Nat → Prop} {R n c i : Nat} {es : List Pce} (h : PcRow w F (.slice (some ⟨R, 0, none⟩) n c) es) (hn : n = es.length) (hi : i < es.length) (T : Nat) :
    PcRow (w.setCell ⟨R, i * 2 + 1, none⟩ (.int .i64 (T : Int))) F (.slice (some ⟨R, 0, none⟩) n c) (es.set i ((es[i].1.1, T), es[i].2)) := by
  have hk : Kp (fun j => j = R) w (w.setCell ⟨R, i * 2 + 1, none⟩ (.int .i64 (T : Int))) := Kp.set_ (F := fun j => j = R) (p := ⟨R, i * 2 + 1, none⟩) rfl _
  have hown := h.own
  rw [← hn] at hown
  have h1 := own_sets hown (i * 2 + 1) [.int .i64 (T : Int)] (by simp; omega)
  rw [over_one _ _ _ (by rw [pcC_len]; omega), ← pcC_set es i hi T] at h1
  refine ⟨by rw [List.length_set, ← hn]; exact h1, fun e he => ?_, h.foot, fun e he k e2 => ?_⟩
  · rcases List.mem_or_eq_of_mem_set he with he | he
    · exact own_kp (h.each e he) hk fun j e1 e2 => by
        subst e2
        rcases own_types_ne (h.each e he) h.own (by decide) with h' | h'
        · rw [h'] at e1; cases e1
        · exact h' e1
    · subst he
      have hm := List.getElem_mem hi
      exact own_kp (show w.ownsRow 0 5 1 es[i].2 es[i].1.1.length (u8s es[i].1.1) from h.each _ hm) hk fun j e1 e2 => by
        subst e2
        rcases own_types_ne (h.each es[i] hm) h.own (by decide) with h' | h'
        · rw [h'] at e1; cases e1
        · exact h' e1
  · rcases List.mem_or_eq_of_mem_set he with he | he
    · exact h.bods e he k e2
    · subst he
      exact h.bods _ (List.getElem_mem hi) k e2
theorem upd_step {α : Type} (f : α → α) (l : List α) (i : Nat) (hi : i < l.length) : ((l.take i).map f ++ l.drop i).set i (f l[i]) = (l.take (i + 1)).map f ++ l.drop (i + 1) := by
  have hl : ((l.take i).map f).length = i := by rw [List.length_map, List.length_take]; omega
  rw [List.drop_eq_getElem_cons hi, List.take_succ_eq_append_getElem hi, List.map_append, List.set_append_right _ _ (by rw [hl]; exact Nat.le_refl _), hl, Nat.sub_self, List.set_cons_zero, List.append_assoc]
  rfl
theorem upd_at {α : Type} (f : α → α) (l : List α) (i : Nat) (hi : i < l.length) : ((l.take i).map f ++ l.drop i)[i]? = some l[i] := by
  have hl : ((l.take i).map f).length = i := by rw [List.length_map, List.length_take]; omega
  rw [List.getElem?_append_right (by rw [hl]; exact Nat.le_refl _), hl, Nat.sub_self]
  simp [hi]
/-- Ahead of a round. -/
structure TickI (w wr : World) (F : Nat → Prop) (g : Nat) (s : Sd) (v : Value) (i : Nat) (lv : Value) (es : List Pce) (gs : List Sge) : Prop where
  bk : Bk wr g 82 (sdA { s with tick := s.tick + 1 } v)
  row : PcRow wr F v es
  eq : es.map (·.1) = (s.queue.take i).map (updQ s.span (s.tick + 1)) ++ s.queue.drop i
  out : SgRow wr w.heap.size lv gs
  oeq : gs.map (·.1) = outQ s.life s.span (s.tick + 1) s.came (s.queue.take i)
  kp : Kp F w wr
theorem TickI.len {w wr : World} {F : Nat → Prop} {g i : Nat} {s : Sd} {v lv : Value} {es : List Pce} {gs : List Sge} (h : TickI w wr F g s v i lv es gs) : es.length = s.queue.length := by
  have := congrArg List.length h.eq
  simp only [List.length_map, List.length_append, List.length_take, List.length_drop] at this
  omega
theorem TickI.at_ {w wr : World} {F : Nat → Prop} {g i : Nat} {s : Sd} {v lv : Value} {es : List Pce} {gs : List Sge} (h : TickI w wr F g s v i lv es gs) (hi : i < s.queue.length) : es[i]'(by rw [h.len]; exact hi) = (s.queue[i], (es[i]'(by rw [h.len]; exact hi)).2) := by
  have h1 := congrArg (fun l => l[i]?) h.eq
  simp only [upd_at _ _ i hi, List.getElem?_map, List.getElem?_eq_getElem (show i < es.length by rw [h.len]; exact hi), Option.map_some, Option.some.injEq] at h1
  exact Prod.ext h1 rfl
theorem TickI.below {w wr wr' : World} {F : Nat → Prop} {g i : Nat} {s : Sd} {v lv : Value} {es : List Pce} {gs : List Sge} (h : TickI w wr F g s v i lv es gs) (hb : Below wr.heap.size wr wr') : TickI w wr' F g s v i lv es gs :=
  ⟨h.bk.below hb h.bk.lt, h.row.kp (G := fun _ => False) (Kp.of_below hb) (fun _ _ h => h), h.eq, h.out.below hb, h.oeq, h.kp.trans (Kp.of_below hb)⟩
/-- It does not go. -/
theorem TickI.skip {w wr wr' : World} {F : Nat → Prop} {g i : Nat} {s : Sd} {v lv : Value} {es : List Pce} {gs : List Sge} (h : TickI w wr F g s v i lv es gs) (hi : i < s.queue.length) (hd : dueQ s.span (s.tick + 1) s.queue[i] = false) (hb : Below wr.heap.size wr wr') : TickI w wr' F g s v (i + 1) lv es gs := by
  refine ⟨h.bk.below hb h.bk.lt, h.row.kp (G := fun _ => False) (Kp.of_below hb) (fun _ _ h => h), ?_, h.out.below hb, ?_, h.kp.trans (Kp.of_below hb)⟩
  · rw [h.eq, ← upd_step _ _ _ hi]
    have e : updQ s.span (s.tick + 1) s.queue[i] = s.queue[i] := by unfold updQ; rw [hd]; rfl
    rw [e]
    refine (List.ext_getElem? fun j => ?_)
    by_cases hj : j = i
    · subst hj
      rw [List.getElem?_set_self (by simp; omega), upd_at _ _ _ hi]
    · rw [List.getElem?_set_ne (Ne.symm hj)]
  · rw [h.oeq, List.take_succ_eq_append_getElem hi, outQ_app, hd]
    simp
/-- It goes. -/
theorem TickI.go {w wr w0 w1 w2 w3 : World} {F : Nat → Prop} {g i R n c : Nat} {s : Sd} {lv lv' bv : Value} {es : List Pce} {gs : List Sge} (h : TickI w wr F g s (.slice (some ⟨R, 0, none⟩) n c) i lv es gs) (hn : n = s.queue.length) (hi : i < s.queue.length) (hd : dueQ s.span (s.tick + 1) s.queue[i] = true) (hF : ∀ k, F k → k < w.heap.size)
    (hw0 : w0 = wr.setCell ⟨R, i * 2 + 1, none⟩ (.int .i64 ((s.tick + 1 : Nat) : Int))) (hb : Below w0.heap.size w0 w1) (ho : w1.ownsRow w0.heap.size 5 1 bv s.queue[i].1.length (u8s s.queue[i].1)) (hb2 : Below w1.heap.size w1 w2)
    (happ : App w2 w3 w.heap.size 36 4 lv lv' gs.length 1 (sgC gs) (sgE (⟨s.life, s.came + i + 1, false, s.queue[i].1⟩, bv))) : ∃ es', TickI w w3 F g s (.slice (some ⟨R, 0, none⟩) n c) (i + 1) lv' es' (gs ++ [(⟨s.life, s.came + i + 1, false, s.queue[i].1⟩, bv)]) := by
  have hel := h.len
  have hR : F R := h.row.foot R rfl
  have hRg : R ≠ g := h.row.off h.bk R (.inl rfl)
  have hk0 : Kp (fun j => j = R) wr w0 := by rw [hw0]; exact Kp.set_ (F := fun j => j = R) (p := ⟨R, i * 2 + 1, none⟩) rfl _
  have hrow0 : PcRow w0 F (.slice (some ⟨R, 0, none⟩) n c) (es.set i ((es[i].1.1, s.tick + 1), es[i].2)) := by rw [hw0]; exact h.row.sent (by rw [hn, hel]) (by omega) (s.tick + 1)
  have hout0 := h.out.kp hk0 (fun k e => by rw [e]; exact hF R hR)
  have hz0 := hk0.size
  have hz := h.kp.size
  have hlv : ∀ k, lv.ownBlock = some k → w.heap.size ≤ k := fun k e => (h.out.own.lt k e).1
  have hk3 : Kp (fun k => lv.ownBlock = some k) w2 w3 := Kp.of_row happ.grow (fun g e => e)
  have hb02 := below_then hb hb2
  have hbk0 := h.bk.kp hk0 (fun e => hRg e.symm)
  have hg : g < w.heap.size ∨ w.heap.size ≤ g := Nat.lt_or_ge _ _
  refine ⟨es.set i ((es[i].1.1, s.tick + 1), es[i].2), ?_, ?_, ?_, hout0.push hb ho hb2 happ (by omega), ?_, ?_⟩
  · refine (hbk0.below hb02 hbk0.lt).kp hk3 fun e => ?_
    have := own_below hout0.own hb02 fun k e => (hout0.own.lt k e).2
    exact not_bk7 (hbk0.below hb02 hbk0.lt) this (by decide) g e rfl
  · refine (hrow0.kp (G := fun _ => False) (Kp.of_below hb02) (fun _ _ h => h)).kp hk3 fun k hf e => ?_
    have := hF k hf
    have := hlv k e
    omega
  · rw [List.map_set, h.eq, ← upd_step _ _ _ hi]
    have e1 := h.at_ hi
    have e : updQ s.span (s.tick + 1) s.queue[i] = (es[i].1.1, s.tick + 1) := by unfold updQ; rw [hd, e1]; rfl
    rw [e]
  · rw [List.map_append, h.oeq, List.take_succ_eq_append_getElem hi, outQ_app, hd]
    simp [Nat.min_eq_left (Nat.le_of_lt hi)]
  · exact ((h.kp.trans (hk0.mono fun k e => by rw [e]; exact hR)).trans (Kp.of_below hb02)).trans' hk3 fun k e => .inr (hlv k e)
end Go.Proofs.Ytfdlhefbbhblnaa
