/- The document's receiver in memory; where a piece is kept. -/
import Derived.Test.YtfdlhefbbhblnaaSesI
import Derived.Test.YtfdlhefbbhblnaaSesRm
namespace Go.Proofs.Ytfdlhefbbhblnaa
open Go.RowKit Go.Maps

theorem Try.infoEarly : (Try.prog.info? 97).map (fun i => (i.zero, i.size, i.bytes)) = some (some (.agg #[.int .u64 0, .slice none 0 0]), 2, 32) := by kernel_rfl
abbrev Eln := (Nat × List UInt8) × Value
def elE (e : Eln) : List Value := [.int .u64 (e.1.1 : Int), e.2]
def elC (es : List Eln) : List Value := es.flatMap elE
theorem elC_len (es : List Eln) : (elC es).length = es.length * 2 := flat_len es fun _ _ => rfl
theorem elC_app (a b : List Eln) : elC (a ++ b) = elC a ++ elC b := by unfold elC; rw [List.flatMap_append]
theorem elC_at (es : List Eln) (i j : Nat) (hi : i < es.length) (hj : j < 2) : (elC es)[i * 2 + j]? = (elE es[i])[j]? := flat_at (s := 2) es (fun _ _ => rfl) i j hi hj
/-- What is kept of a number. -/
def getE (es : List Eln) (k : Nat) : Option (List UInt8) := (es.find? fun e => e.1.1 == k).map (·.1.2)
theorem getE_snoc (es : List Eln) (q : Nat) (b : List UInt8) (v : Value) (k : Nat) (h : getE es q = none) : getE (es ++ [((q, b), v)]) k = if k = q then some b else getE es k := by
  unfold getE at *
  rw [List.find?_append]
  by_cases hk : k = q
  · subst hk
    rw [if_pos rfl]
    have : es.find? (fun e => e.1.1 == k) = none := by simpa using h
    rw [this]
    simp
  · rw [if_neg hk]
    cases hf : es.find? (fun e => e.1.1 == k) with
    | some x => rfl
    | none => simp [show ¬ q = k from fun e => hk e.symm]
theorem getK_cons {β : Type} (x : Nat × β) (L : List (Nat × β)) (k : Nat) : getK (x :: L) k = if x.1 = k then some x.2 else getK L k := by
  unfold getK
  rw [List.find?_cons]
  by_cases h : x.1 = k
  · simp [h]
  · rw [if_neg h, beq_eq_false_iff_ne.2 h]
theorem getK_insK {β : Type} (q : Nat) (b : β) (k : Nat) : ∀ L : List (Nat × β), getK L q = none → getK (insK (q, b) L) k = if k = q then some b else getK L k
  | [], _ => by
    unfold insK
    rw [getK_cons]
    by_cases h : k = q
    · rw [if_pos h.symm, if_pos h]
    · rw [if_neg fun e => h e.symm, if_neg h]
  | y :: r, hq => by
    rw [getK_cons] at hq
    have hy : ¬ y.1 = q := fun e => by rw [if_pos e] at hq; cases hq
    rw [if_neg hy] at hq
    have ih := getK_insK q b k r hq
    unfold insK
    split
    · rw [getK_cons]
      by_cases h : k = q
      · rw [if_pos h.symm, if_pos h]
      · rw [if_neg fun e => h e.symm, if_neg h]
    · rw [getK_cons, ih, getK_cons]
      by_cases h : y.1 = k
      · rw [if_pos h, if_neg fun e => hy (by rw [h, e]), if_pos h]
      · rw [if_neg h, if_neg h]
structure ElRow (w : World) (F : Nat → Prop) (v : Value) (es : List Eln) : Prop where
  own : w.ownsRow 0 97 2 v es.length (elC es)
  each : ∀ e ∈ es, w.ownsRow 0 5 1 e.2 e.1.2.length (u8s e.1.2)
  foot : ∀ k, v.ownBlock = some k → F k
  bods : ∀ e ∈ es, ∀ k, e.2.ownBlock = some k → F k
section
variable {w w' : World} {F G : Nat → Prop} {v : Value} {es : List Eln}
theorem ElRow.kp (h : ElRow w F v es) (hk : Kp G w w') (hd : ∀ k, F k → ¬ G k) : ElRow w' F v es :=
  ⟨own_kp h.own hk fun k e => hd k (h.foot k e), fun e he => own_kp (h.each e he) hk fun k e2 => hd k (h.bods e he k e2), h.foot, h.bods⟩
theorem ElRow.nil (w : World) (F : Nat → Prop) : ElRow w F (.slice none 0 0) [] := ⟨World.ownsRow_nil _ _ _ _, fun e he => (List.not_mem_nil he).elim, (fun k e => by cases e), fun e he => (List.not_mem_nil he).elim⟩
theorem ElRow.cell (h : ElRow w F v es) (i : Nat) (hi : i < es.length) : ∃ R c, v = .slice (some ⟨R, 0, none⟩) es.length c ∧ es.length ≤ c ∧ c ≤ maxLen ∧ w.cell? ⟨R, i * 2, none⟩ = some (.int .u64 (es[i].1.1 : Int)) ∧ w.cell? ⟨R, i * 2 + 1, none⟩ = some es[i].2 := by
  rcases h.own.2 with ⟨_, h0⟩ | ⟨g, cap, cur, rfl, _, hh, h1, h2, _⟩
  · omega
  · have q := fun j (hj : j < 2) u (hu : (elE es[i])[j]? = some u) => h.own.cells (g := g) rfl (i * 2 + j) u (by rw [elC_at es i j hi hj]; exact hu)
    have q0 := q 0 (by omega) _ rfl
    have q1 := q 1 (by omega) _ rfl
    rw [Addr.add_lit, Nat.zero_add] at q0 q1
    exact ⟨g, cap, rfl, h1, h2, q0, q1⟩
theorem ElRow.shape (h : ElRow w F v es) : ∃ A c, v = .slice A es.length c ∧ es.length ≤ c ∧ c ≤ maxLen := own_shape h.own
theorem ElRow.off {g : Nat} {cs : Array Value} (h : ElRow w F v es) (hb : Bk w g 59 cs) : ∀ k, (v.ownBlock = some k ∨ ∃ e ∈ es, e.2.ownBlock = some k) → k ≠ g := by
  rintro k (e | ⟨e, he, e2⟩)
  · exact not_bk7 hb h.own (by decide) k e
  · exact not_bk7 hb (h.each e he) (by decide) k e2
end

/-- The cells of the document's receiver. -/
def drA (r : Rc) (v : Value) : Array Value := #[.int .i64 (r.window : Int), .int .u64 (r.life : Int), .int .u64 (r.came : Int), v]
/-- Block g is the document's receiver, which is r; it keeps es. -/
structure DRv (w : World) (F : Nat → Prop) (g : Nat) (r : Rc) (v : Value) (es : List Eln) : Prop where
  bk : Bk w g 59 (drA r v)
  row : ElRow w F v es
  look : ∀ k, r.came < k → getE es k = getK r.early k
  fg : F g
  lt : ∀ k, F k → k < w.heap.size
def DR (w : World) (F : Nat → Prop) (g : Nat) (r : Rc) (K : Nat) : Prop := r.Ok ∧ ∃ v es, DRv w F g r v es ∧ es.length ≤ K
section
variable {w w' : World} {F G : Nat → Prop} {g K : Nat} {r : Rc} {v : Value} {es : List Eln}
theorem DRv.kp (h : DRv w F g r v es) (hk : Kp G w w') (hd : ∀ k, F k → ¬ G k) : DRv w' F g r v es :=
  ⟨h.bk.kp hk (hd _ h.fg), h.row.kp hk hd, h.look, h.fg, fun k e => Nat.lt_of_lt_of_le (h.lt k e) hk.size⟩
theorem DRv.below (h : DRv w F g r v es) (hb : Below w.heap.size w w') : DRv w' F g r v es := h.kp (G := fun _ => False) (Kp.of_below hb) fun _ _ h => h
theorem DR.kp (h : DR w F g r K) (hk : Kp G w w') (hd : ∀ k, F k → ¬ G k) : DR w' F g r K := by
  obtain ⟨h0, v, es, h1, h2⟩ := h
  exact ⟨h0, v, es, h1.kp hk hd, h2⟩
theorem DR.below (h : DR w F g r K) (hb : Below w.heap.size w w') : DR w' F g r K := h.kp (G := fun _ => False) (Kp.of_below hb) fun _ _ h => h
theorem DR.lt (h : DR w F g r K) : ∀ k, F k → k < w.heap.size := by
  obtain ⟨h0, v, es, h1, h2⟩ := h
  exact h1.lt
theorem DR.up (h : DR w F g r K) {J : Nat} (hj : K ≤ J) : DR w F g r J := by
  obtain ⟨h0, v, es, h1, h2⟩ := h
  exact ⟨h0, v, es, h1, Nat.le_trans h2 hj⟩
theorem DR.cells (h : DR w F g r K) : w.cell? ⟨g, 1, none⟩ = some (.int .u64 (r.life : Int)) ∧ w.cell? ⟨g, 2, none⟩ = some (.int .u64 (r.came : Int)) := by
  obtain ⟨h0, v, es, h1, h2⟩ := h
  exact ⟨h1.bk.cell 1, h1.bk.cell 2⟩
theorem DR.new (window : Nat) (w : World) (h1 : 1 ≤ window ∧ window ≤ 64) : DR (w.alloc (.cells (drA (Rc.new window) (.slice none 0 0)) 59)) (fun k => k = w.heap.size) w.heap.size (Rc.new window) 0 :=
  ⟨Rc.Ok.new h1, _, [], ⟨Bk.new w 59 _, ElRow.nil _ _, fun k _ => rfl, rfl, fun k e => by simp [e]⟩, Nat.le_refl _⟩
/-- A new life. -/
theorem DRv.turned (h : DRv w F g r v es) {m : Sg} (hl : r.life < m.life) (hw : w' = ((w.setCell ⟨g, 1, none⟩ (.int .u64 (m.life : Int))).setCell ⟨g, 2, none⟩ (.int .u64 0)).setCell ⟨g, 3, none⟩ (.slice none 0 0)) : DRv w' F g (r.turn m) (.slice none 0 0) [] ∧ Kp F w w' := by
  have hk : Kp F w w' := by
    rw [hw]
    exact ((Kp.set_ (F := F) (p := ⟨g, 1, none⟩) h.fg _).trans (Kp.set_ (F := F) (p := ⟨g, 2, none⟩) h.fg _)).trans (Kp.set_ (F := F) (p := ⟨g, 3, none⟩) h.fg _)
  refine ⟨⟨?_, ElRow.nil _ _, fun k _ => ?_, h.fg, fun k e => Nat.lt_of_lt_of_le (h.lt k e) hk.size⟩, hk⟩
  · rw [hw]
    unfold Rc.turn
    rw [if_pos hl]
    exact ((h.bk.set_ 1 (.int .u64 (m.life : Int))).set_ 2 (.int .u64 0)).set_ 3 (.slice none 0 0)
  · unfold Rc.turn
    rw [if_pos hl]
    rfl
/-- One piece more. -/
theorem DRv.push {w0 w w3 : World} {v' b : Value} {q : Nat × List UInt8} (hk0 : Kp F w0 w) (h : DRv w F g r v es) (h7 : ∀ k, F k → k < w0.heap.size) (hq : getE es q.1 = none) (hc : r.came < q.1)
    (happ : App w w3 0 97 2 v v' es.length 1 (elC es) (elE (q, b))) (hb : w.ownsRow 0 5 1 b q.2.length (u8s q.2)) (hbF : ∀ k, b.ownBlock = some k → F k ∨ w0.heap.size ≤ k) :
    ∃ F', DRv (w3.setCell ⟨g, 3, none⟩ v') F' g { r with early := insK q r.early } v' (es ++ [(q, b)]) ∧ Mv F F' w0 (w3.setCell ⟨g, 3, none⟩ v') := by
  obtain ⟨h1, h3, h4, h6, h8⟩ := h
  have hk3 : Kp (fun k => v.ownBlock = some k) w w3 := Kp.of_row happ.grow (fun g e => e)
  have hk4 : Kp (fun k => k = g) w3 (w3.setCell ⟨g, 3, none⟩ v') := Kp.set_ (F := fun k => k = g) (p := ⟨g, 3, none⟩) rfl _
  have hb3 := h1.kp hk3 (fun e => h3.off h1 g (.inl e) rfl)
  have hbl := happ.block
  have hz := hk0.size
  have hne : ∀ (u : Value) (l : List UInt8), w.ownsRow 0 5 1 u l.length (u8s l) → ∀ k, u.ownBlock = some k → ¬ v.ownBlock = some k := fun u l hu k e e2 => by
    rcases own_types_ne hu h3.own (by decide) with h | h
    · rw [h] at e; cases e
    · exact h (e.trans e2.symm)
  have hown := happ.own
  have hFv : ∀ k, v'.ownBlock = some k → F k ∨ w0.heap.size ≤ k := fun k e => by
    rcases hbl with h | h
    · rw [h] at e; exact .inl (h3.foot k e)
    · rw [h] at e; injection e with e; exact .inr (by omega)
  have hlt3 : ∀ k, v'.ownBlock = some k → k < w3.heap.size := fun k e => (hown.lt k e).2
  have hltb : ∀ k, b.ownBlock = some k → k < w.heap.size := fun k e => (hb.lt k e).2
  refine ⟨fun k => F k ∨ v'.ownBlock = some k ∨ b.ownBlock = some k, ⟨hb3.set_ 3 v', ⟨own_kp ?_ hk4 (fun k e => not_bk7 hb3 hown (by decide) k e), fun e he => own_kp ?_ hk4 (fun k e2 => ?_), fun k e => .inr (.inl e), fun e he k e2 => ?_⟩, fun k hck => ?_, .inl h6, ?_⟩, ⟨?_, fun k e => ?_⟩⟩
  · rw [elC_app, List.length_append]
    exact hown
  · rcases List.mem_append.1 he with he | he
    · exact own_kp (h3.each e he) hk3 (hne _ _ (h3.each e he))
    · rw [List.mem_singleton.1 he]; exact own_kp hb hk3 (hne _ _ hb)
  · rcases List.mem_append.1 he with he | he
    · exact h3.off h1 k (.inr ⟨e, he, e2⟩)
    · rw [List.mem_singleton.1 he] at e2; exact not_bk7 h1 hb (by decide) k e2
  · rcases List.mem_append.1 he with he | he
    · exact .inl (h3.bods e he k e2)
    · rw [List.mem_singleton.1 he] at e2; exact .inr (.inr e2)
  · obtain ⟨q1, q2⟩ := q
    rw [getE_snoc es q1 q2 b k hq]
    have hn : getK r.early q1 = none := by rw [← h4 q1 hc]; exact hq
    show _ = getK (insK (q1, q2) r.early) k
    rw [getK_insK _ _ _ _ hn]
    by_cases hkq : k = q1
    · rw [if_pos hkq, if_pos hkq]
    · rw [if_neg hkq, if_neg hkq]
      exact h4 k hck
  · intro k e
    have hs3 := hk3.size
    have hs4 := hk4.size
    rcases e with e | e | e
    · have := h7 k e; omega
    · have := hlt3 k e; omega
    · have := hltb k e; omega
  · exact (hk0.trans (hk3.mono fun k e => h3.foot k e)).trans (hk4.mono fun k e => by rw [e]; exact h6)
  · rcases e with e | e | e
    · exact .inl e
    · exact hFv k e
    · exact hbF k e
end
/-- What has answers. -/
def FindE (es : List Eln) (k : Nat) (z : Int) : Prop := (∃ i, ∃ h : i < es.length, z = (i : Int) ∧ getE es k = some es[i].1.2) ∨ (z = -1 ∧ getE es k = none)
set_option maxRecDepth 100000 in
set_option maxHeartbeats 1000000 in
theorem has_any {w : World} {F : Nat → Prop} {g : Nat} {r : Rc} {v : Value} {es : List Eln} (h : DRv w F g r v es) (k : Nat) (hs : es.length ≤ 1000000) :
    Calls Try.prog 43 #[.pointer (some ⟨g, 0, none⟩), .int .u64 (k : Int)] w fun e w' => (∃ z, e = .returned (.int .i64 z) ∧ FindE es k z) ∧ w = w' := by
  have c3 : w.cell? ⟨g, 3, none⟩ = some v := h.bk.cell 3
  obtain ⟨A, c, hv, _, _⟩ := h.row.shape
  have HC : Hid (∀ i (hi : i < es.length), ∃ R, A = some ⟨R, 0, none⟩ ∧ w.cell? ⟨R, i * 2, none⟩ = some (.int .u64 (es[i].1.1 : Int))) := Lib.hid fun i hi => by
    obtain ⟨R, c', e, _, _, q0, _⟩ := h.row.cell i hi
    rw [hv] at e
    injection e with e _ _
    exact ⟨R, e, q0⟩
  rw [hv] at c3
  obtain ⟨N, hN⟩ : ∃ N, N = es.length := ⟨_, rfl⟩
  rw [← hN] at c3 hs
  have HN := Lib.hid hN
  clear h hv hN
  go_enter Try.func43, Try.ntmps43
  go_wp2
  go_loopg [5] N (fun gk j wr => ∃ i : Nat, j = .int .i64 (i : Int) ∧ i + gk = N ∧ Hid (∀ q (hq : q < es.length), q < i → es[q].1.1 ≠ k) ∧ w = wr)
  case atStart => exact ⟨0, rfl, by omega, Lib.hid (fun q _ h => by omega), rfl⟩
  case round =>
    obtain ⟨i, rfl, hig, HB, rfl⟩ := hrel
    by_cases hi : i < N
    · have i1 : (i : Int) < (N : Int) := by omega
      have hie : i < es.length := by rw [← HN.out]; exact hi
      obtain ⟨R, rfl, q0⟩ := HC.out i hie
      have HQ : Hid (∀ x : Nat, x = es[i].1.1 → x ≠ k → ∀ q (hq : q < es.length), q < i + 1 → es[q].1.1 ≠ k) := Lib.hid fun x hx hne q hq hlt => by
        by_cases e : q = i
        · subst e; rw [← hx]; exact hne
        · exact HB.out q hq (by omega)
      have HF : Hid (∀ x : Nat, x = es[i].1.1 → x = k → FindE es k (i : Int)) := Lib.hid fun x hx he => by
        refine .inl ⟨i, hie, rfl, ?_⟩
        have : es.find? (fun e => e.1.1 == k) = some es[i] := List.find?_eq_some_iff_getElem.2 ⟨by rw [← hx, he]; simp, i, hie, rfl, fun j hj => by simpa using HB.out j (by omega) hj⟩
        unfold getE
        rw [this]
        rfl
      obtain ⟨x, hx⟩ : ∃ x, x = es[i].1.1 := ⟨_, rfl⟩
      rw [← hx] at q0
      replace HQ := Lib.hid (HQ.out x hx)
      replace HF := Lib.hid (HF.out x hx)
      clear hx HB
      by_cases hxk : x = k
      · have hF := Lib.hid (HF.out hxk)
        have x1 : (x : Int) = (k : Int) := by omega
        clear hxk HQ HF
        go_wp2
        go_ret
        exact ⟨⟨_, rfl, hF.out⟩, rfl⟩
      · have hQ := Lib.hid (HQ.out hxk)
        have x1 : ¬ (x : Int) = (k : Int) := by omega
        clear hxk HQ HF
        go_wp2
        go_roundg (gk - 1)
        case measure => omega
        case rel => exact ⟨i + 1, by go_num, by omega, hQ, rfl⟩
    · have i1 : ¬ (i : Int) < (N : Int) := by omega
      have hF : Hid (FindE es k (-1)) := Lib.hid (.inr ⟨rfl, by
        unfold getE
        rw [Option.map_eq_none_iff, List.find?_eq_none]
        intro e he
        obtain ⟨q, hq, rfl⟩ := List.mem_iff_getElem.1 he
        simpa using HB.out q hq (by rw [← HN.out] at hq; omega)⟩)
      go_wp2
      go_ret
      exact ⟨⟨_, rfl, hF.out⟩, rfl⟩
end Go.Proofs.Ytfdlhefbbhblnaa
