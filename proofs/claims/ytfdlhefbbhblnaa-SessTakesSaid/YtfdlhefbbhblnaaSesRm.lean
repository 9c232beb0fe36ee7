/- The document's sender in memory; one piece more. -/
import Derived.Test.YtfdlhefbbhblnaaSesS
namespace Go.Proofs.Ytfdlhefbbhblnaa
open Go.RowKit Go.Maps

theorem Try.infoDPiece : (Try.prog.info? 86).map (fun i => (i.zero, i.size, i.bytes)) = some (some (.agg #[.slice none 0 0, .int .i64 0]), 2, 32) := by kernel_rfl
structure DcRow (w : World) (F : Nat → Prop) (v : Value) (es : List Pce) : Prop where
  own : w.ownsRow 0 86 2 v es.length (pcC es)
  each : ∀ e ∈ es, w.ownsRow 0 5 1 e.2 e.1.1.length (u8s e.1.1)
  foot : ∀ k, v.ownBlock = some k → F k
  bods : ∀ e ∈ es, ∀ k, e.2.ownBlock = some k → F k
section
variable {w w' : World} {F G : Nat → Prop} {v : Value} {es : List Pce}
theorem DcRow.kp (h : DcRow w F v es) (hk : Kp G w w') (hd : ∀ k, F k → ¬ G k) : DcRow w' F v es :=
  ⟨own_kp h.own hk fun k e => hd k (h.foot k e), fun e he => own_kp (h.each e he) hk fun k e2 => hd k (h.bods e he k e2), h.foot, h.bods⟩
theorem DcRow.nil (w : World) (F : Nat → Prop) : DcRow w F (.slice none 0 0) [] := ⟨World.ownsRow_nil _ _ _ _, fun e he => (List.not_mem_nil he).elim, (fun k e => by cases e), fun e he => (List.not_mem_nil he).elim⟩
theorem DcRow.cell (h : DcRow w F v es) (i : Nat) (hi : i < es.length) : ∃ R c, v = .slice (some ⟨R, 0, none⟩) es.length c ∧ es.length ≤ c ∧ c ≤ maxLen ∧ w.cell? ⟨R, i * 2, none⟩ = some es[i].2 ∧ w.cell? ⟨R, i * 2 + 1, none⟩ = some (.int .i64 (es[i].1.2 : Int)) := by
  rcases h.own.2 with ⟨_, h0⟩ | ⟨g, cap, cur, rfl, _, hh, h1, h2, _⟩
  · omega
  · have q := fun j (hj : j < 2) u (hu : (pcE es[i])[j]? = some u) => h.own.cells (g := g) rfl (i * 2 + j) u (by rw [pcC_at es i j hi hj]; exact hu)
    have q0 := q 0 (by omega) _ rfl
    have q1 := q 1 (by omega) _ rfl
    rw [Addr.add_lit, Nat.zero_add] at q0 q1
    exact ⟨g, cap, rfl, h1, h2, q0, q1⟩
theorem DcRow.shape (h : DcRow w F v es) : ∃ A c, v = .slice A es.length c ∧ es.length ≤ c ∧ c ≤ maxLen := own_shape h.own
theorem DcRow.off {g : Nat} {cs : Array Value} (h : DcRow w F v es) (hb : Bk w g 32 cs) : ∀ k, (v.ownBlock = some k ∨ ∃ e ∈ es, e.2.ownBlock = some k) → k ≠ g := by
  rintro k (e | ⟨e, he, e2⟩)
  · exact not_bk7 hb h.own (by decide) k e
  · exact not_bk7 hb (h.each e he) (by decide) k e2
end

/-- The cells of the document's sender. -/
def rsA (s : Sd) (v : Value) : Array Value := #[.int .u64 (s.life : Int), .int .i64 (s.window : Int), .int .i64 (s.span : Int), .int .i64 (s.came : Int), .int .i64 (s.tick : Int), v]
/-- Block g is the document's sender s, whose pieces dn all came. -/
def RS (w : World) (F : Nat → Prop) (g : Nat) (s : Sd) (dn : List (List UInt8 × Nat)) : Prop :=
  ∃ v es, Bk w g 32 (rsA s v) ∧ DcRow w F v es ∧ es.map (·.1) = dn ++ s.queue ∧ dn.length = s.came ∧ s.Ok ∧ F g ∧ ∀ k, F k → k < w.heap.size
section
variable {w w' : World} {F G : Nat → Prop} {g : Nat} {s : Sd} {dn : List (List UInt8 × Nat)}
theorem RS.kp (h : RS w F g s dn) (hk : Kp G w w') (hd : ∀ k, F k → ¬ G k) : RS w' F g s dn := by
  obtain ⟨v, es, h1, h3, h4, h8, h5, h6, h7⟩ := h
  exact ⟨v, es, h1.kp hk (hd _ h6), h3.kp hk hd, h4, h8, h5, h6, fun k e => Nat.lt_of_lt_of_le (h7 k e) hk.size⟩
theorem RS.below (h : RS w F g s dn) (hb : Below w.heap.size w w') : RS w' F g s dn := h.kp (G := fun _ => False) (Kp.of_below hb) fun _ _ h => h
theorem RS.ok (h : RS w F g s dn) : s.Ok := by obtain ⟨v, es, h1, h3, h4, h8, h5, h6, h7⟩ := h; exact h5
theorem RS.lt (h : RS w F g s dn) : ∀ k, F k → k < w.heap.size := by obtain ⟨v, es, h1, h3, h4, h8, h5, h6, h7⟩ := h; exact h7
theorem RS.glt (h : RS w F g s dn) : g < w.heap.size := by obtain ⟨v, es, h1, h3, h4, h8, h5, h6, h7⟩ := h; exact h1.lt
theorem RS.cells (h : RS w F g s dn) : ∃ A c, s.came + s.queue.length ≤ c ∧ c ≤ maxLen ∧ w.cell? ⟨g, 0, none⟩ = some (.int .u64 (s.life : Int)) ∧ w.cell? ⟨g, 1, none⟩ = some (.int .i64 (s.window : Int)) ∧ w.cell? ⟨g, 2, none⟩ = some (.int .i64 (s.span : Int)) ∧
    w.cell? ⟨g, 3, none⟩ = some (.int .i64 (s.came : Int)) ∧ w.cell? ⟨g, 4, none⟩ = some (.int .i64 (s.tick : Int)) ∧ w.cell? ⟨g, 5, none⟩ = some (.slice A (s.came + s.queue.length) c) := by
  obtain ⟨v, es, h1, h3, h4, h8, h5, h6, h7⟩ := h
  obtain ⟨A, c, rfl, hc1, hc2⟩ := h3.shape
  have e : es.length = s.came + s.queue.length := by
    have := congrArg List.length h4
    rw [List.length_map, List.length_append, h8] at this
    exact this
  rw [e] at h1 hc1
  exact ⟨A, c, hc1, hc2, h1.cell 0, h1.cell 1, h1.cell 2, h1.cell 3, h1.cell 4, h1.cell 5⟩
/-- A new one. -/
theorem RS.new (life window span : Nat) (w : World) (h0 : life < 18446744073709551616) (h1 : 1 ≤ window ∧ window ≤ 64) (h2 : 1 ≤ span ∧ span ≤ 1000) : RS (w.alloc (.cells (rsA (Sd.new life window span) (.slice none 0 0)) 32)) (fun k => k = w.heap.size) w.heap.size (Sd.new life window span) [] :=
  ⟨_, [], Bk.new w 32 _, DcRow.nil _ _, rfl, rfl, Sd.Ok.new h0 h1 h2, rfl, fun k e => by simp [e]⟩
end
/-- A call that has turned the document's sender. -/
def DActed (w : World) (F : Nat → Prop) (g : Nat) (r : Value) (s' : Sd) (dn' : List (List UInt8 × Nat)) (e : Ending) (w' : World) : Prop := e = .returned r ∧ ∃ F', RS w' F' g s' dn' ∧ Mv F F' w w'

/-- One piece more. -/
theorem RS.push {w0 w w3 : World} {F : Nat → Prop} {g : Nat} {s : Sd} {v v' b : Value} {es : List Pce} {q : List UInt8 × Nat} (hk0 : Kp F w0 w) (h1 : Bk w g 32 (rsA s v)) (h3 : DcRow w F v es) {dn : List (List UInt8 × Nat)} (h4 : es.map (·.1) = dn ++ s.queue) (hd : dn.length = s.came) (h5 : { s with queue := s.queue ++ [q] : Sd }.Ok) (h6 : F g) (h7 : ∀ k, F k → k < w0.heap.size)
    (happ : App w w3 0 86 2 v v' es.length 1 (pcC es) (pcE (q, b))) (hb : w.ownsRow 0 5 1 b q.1.length (u8s q.1)) (hbF : ∀ k, b.ownBlock = some k → F k ∨ w0.heap.size ≤ k) :
    ∃ F', RS (w3.setCell ⟨g, 5, none⟩ v') F' g { s with queue := s.queue ++ [q] } dn ∧ Mv F F' w0 (w3.setCell ⟨g, 5, none⟩ v') := by
  have hk3 : Kp (fun k => v.ownBlock = some k) w w3 := Kp.of_row happ.grow (fun g e => e)
  have hk4 : Kp (fun k => k = g) w3 (w3.setCell ⟨g, 5, none⟩ v') := Kp.set_ (F := fun k => k = g) (p := ⟨g, 5, none⟩) rfl _
  have hb3 := h1.kp hk3 (fun e => h3.off h1 g (.inl e) rfl)
  have hbl := happ.block
  have hz := hk0.size
  have hne : ∀ (u : Value) (l : List UInt8), w.ownsRow 0 5 1 u l.length (u8s l) → ∀ k, u.ownBlock = some k → ¬ v.ownBlock = some k := fun u l hu k e e2 => by
    rcases own_types_ne hu h3.own (by decide) with h | h
    · rw [h] at e; cases e
    · exact h (e.trans e2.symm)
  have hown := happ.own
  have hFv : ∀ k, v'.ownBlock = some k → F k ∨ w0.heap.size ≤ k := fun k e => by
    rcases hbl with h | h
    · rw [h] at e; exact .inl (h3.foot k e)
    · rw [h] at e; injection e with e; exact .inr (by omega)
  have hlt3 : ∀ k, v'.ownBlock = some k → k < w3.heap.size := fun k e => (hown.lt k e).2
  have hltb : ∀ k, b.ownBlock = some k → k < w.heap.size := fun k e => (hb.lt k e).2
  refine ⟨fun k => F k ∨ v'.ownBlock = some k ∨ b.ownBlock = some k, ⟨v', es ++ [(q, b)], hb3.set_ 5 v', ⟨own_kp ?_ hk4 (fun k e => not_bk7 hb3 hown (by decide) k e), fun e he => own_kp ?_ hk4 (fun k e2 => ?_), fun k e => .inr (.inl e), fun e he k e2 => ?_⟩, by simp [h4], hd, h5, .inl h6, ?_⟩, ⟨?_, fun k e => ?_⟩⟩
  · rw [pcC_app, List.length_append]
    exact hown
  · rcases List.mem_append.1 he with he | he
    · exact own_kp (h3.each e he) hk3 (hne _ _ (h3.each e he))
    · rw [List.mem_singleton.1 he]; exact own_kp hb hk3 (hne _ _ hb)
  · rcases List.mem_append.1 he with he | he
    · exact h3.off h1 k (.inr ⟨e, he, e2⟩)
    · rw [List.mem_singleton.1 he] at e2; exact not_bk7 h1 hb (by decide) k e2
  · rcases List.mem_append.1 he with he | he
    · exact .inl (h3.bods e he k e2)
    · rw [List.mem_singleton.1 he] at e2; exact .inr (.inr e2)
  · intro k e
    have hs3 := hk3.size
    have hs4 := hk4.size
    rcases e with e | e | e
    · have := h7 k e; omega
    · have := hlt3 k e; omega
    · have := hltb k e; omega
  · exact (hk0.trans (hk3.mono fun k e => h3.foot k e)).trans (hk4.mono fun k e => by rw [e]; exact h6)
  · rcases e with e | e | e
    · exact .inl e
    · exact hFv k e
    · exact hbF k e

def bDcs (parts : Array (Nat × Value)) : Sem Value := Instr.buildSlice 30 1 parts
theorem bDcs_eq (parts : Array (Nat × Value)) : Instr.buildSlice 30 1 parts = bDcs parts := rfl
theorem run_bDcs (a b : Value) (W : World) : (bDcs #[(0, .agg #[a, b])]).run Try.prog W = .ok (.slice (some ⟨W.heap.size, 0, none⟩) 1 1) (W.alloc (.cells #[a, b] 86)) := by
  obtain ⟨iw, hiw, hzw, hsw, hbw⟩ := info_parts Try.infoDPiece
  exact run_buildSlice_one (P := Try.prog) Try.underlying30 hiw hzw hsw (by rfl) (by omega) (by omega) (.agg #[a, b]) rfl W
end Go.Proofs.Ytfdlhefbbhblnaa
