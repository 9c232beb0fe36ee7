/- Layer 7 in memory: segments; what only looks. -/
import Derived.Test.YtfdlhefbbhblnaaSesP
import Derived.Test.YtfdlhefbbhblnaaProg
import Derived.Test.YtfdlhefbbhblnaaOwnP
import Derived.WalkKit
import Derived.BigQuiet
import Derived.Deep.QuietTactic
import Derived.Deep.RegionLaw
import Derived.Deep.RegionHeld3
namespace Go.Proofs.Ytfdlhefbbhblnaa
open Go.RowKit Go.Maps

def sgV (s : Sg) (b : Value) : Value := .agg #[.int .u64 (s.life : Int), .int .u64 (s.seq : Int), .bool s.ack, b]
def sgA (s : Sg) (b : Value) : Array Value := #[.int .u64 (s.life : Int), .int .u64 (s.seq : Int), .bool s.ack, b]
theorem not_bk7 {w : World} {g : Nat} {t : TypeId} {cs : Array Value} {base e size n : Nat} {v : Value} {xs : List Value} (hb : Bk w g t cs) (ho : w.ownsRow base e size v n xs) (ht : e ≠ t) : ∀ k, v.ownBlock = some k → k ≠ g := by
  rintro k e1 rfl
  rcases ho.2 with ⟨rfl, _⟩ | ⟨g', cap, cur, rfl, _, hh, _⟩
  · cases e1
  · simp only [Value.ownBlock, Option.some.injEq] at e1
    subst e1
    unfold Bk at hb
    rw [hh] at hb
    simp only [Option.some.injEq, Obj.cells.injEq] at hb
    exact ht hb.2.1

set_option maxRecDepth 100000 in
set_option maxHeartbeats 1000000 in
theorem right_any (s : Sg) (A : Option Addr) (n c : Nat) (w : World) (hn : s.body.length = n) :
    Calls Try.prog 36 #[sgV s (.slice A n c)] w fun e w' => e = .returned (.bool s.right) ∧ Below w.heap.size w w' := by
  obtain ⟨life, seq, ack, body⟩ := s
  unfold sgV Sg.right
  have hn : body.length = n := hn
  dsimp only
  have HB : Hid (Below w.heap.size w (w.alloc (.cells #[.int .u64 (life : Int), .int .u64 (seq : Int), .bool ack, .slice A n c] 36))) := Lib.hid ((Below.refl _ _).alloc (Nat.le_refl _) _)
  have Hn := Lib.hid hn
  clear hn
  cases ack with
  | true =>
    go_enter Try.func36, Try.ntmps36
    go_wp2
    go_ret
    refine ⟨?_, HB.out⟩
    show Ending.returned (Value.bool ((n : Int) == 0)) = Ending.returned (Value.bool (decide (n = 0)))
    congr 2
    rw [Bool.eq_iff_iff]
    simp only [beq_iff_eq, decide_eq_true_eq]
    omega
  | false =>
    by_cases hs : 0 < seq
    · have hs' : (0 : Int) < (seq : Int) := by omega
      go_enter Try.func36, Try.ntmps36
      go_wp2
      go_ret
      refine ⟨?_, HB.out⟩
      show Ending.returned (Value.bool (decide ((n : Int) ≤ 1000))) = Ending.returned (Value.bool (decide (n ≤ 1000)))
      congr 2
      rw [Bool.eq_iff_iff]
      simp only [decide_eq_true_eq]
      omega
    · have hs' : ¬ (0 : Int) < (seq : Int) := by omega
      go_enter Try.func36, Try.ntmps36
      go_wp2
      go_ret
      exact ⟨rfl, HB.out⟩
set_option maxRecDepth 100000 in
set_option maxHeartbeats 400000 in
theorem isWindow_any (n : Int) (w : World) : Calls Try.prog 33 #[.int .i64 n] w fun e w' => e = .returned (.bool (decide (1 ≤ n) && decide (n ≤ 64))) ∧ w = w' := by
  by_cases h1 : 1 ≤ n
  · go_enter Try.func33, Try.ntmps33
    go_wp2
    go_ret
    exact ⟨by simp [h1], rfl⟩
  · go_enter Try.func33, Try.ntmps33
    go_wp2
    go_ret
    exact ⟨by rw [decide_eq_false (by omega : ¬ 1 ≤ n)]; rfl, rfl⟩

/-! ### the sender in memory -/
abbrev Pce := (List UInt8 × Nat) × Value
def pcE (e : Pce) : List Value := [e.2, .int .i64 (e.1.2 : Int)]
def pcC (es : List Pce) : List Value := es.flatMap pcE
theorem pcC_len (es : List Pce) : (pcC es).length = es.length * 2 := flat_len es fun _ _ => rfl
theorem pcC_app (a b : List Pce) : pcC (a ++ b) = pcC a ++ pcC b := by unfold pcC; rw [List.flatMap_append]
theorem pcC_at (es : List Pce) (i j : Nat) (hi : i < es.length) (hj : j < 2) : (pcC es)[i * 2 + j]? = (pcE es[i])[j]? := flat_at (s := 2) es (fun _ _ => rfl) i j hi hj
structure PcRow (w : World) (F : Nat → Prop) (v : Value) (es : List Pce) : Prop where
  own : w.ownsRow 0 84 2 v es.length (pcC es)
  each : ∀ e ∈ es, w.ownsRow 0 5 1 e.2 e.1.1.length (u8s e.1.1)
  foot : ∀ k, v.ownBlock = some k → F k
  bods : ∀ e ∈ es, ∀ k, e.2.ownBlock = some k → F k
section
variable {w w' : World} {F G : Nat → Prop} {v : Value} {es : List Pce}
theorem PcRow.kp (h : PcRow w F v es) (hk : Kp G w w') (hd : ∀ k, F k → ¬ G k) : PcRow w' F v es :=
  ⟨own_kp h.own hk fun k e => hd k (h.foot k e), fun e he => own_kp (h.each e he) hk fun k e2 => hd k (h.bods e he k e2), h.foot, h.bods⟩
theorem PcRow.nil (w : World) (F : Nat → Prop) : PcRow w F (.slice none 0 0) [] := ⟨World.ownsRow_nil _ _ _ _, fun e he => (List.not_mem_nil he).elim, (fun k e => by cases e), fun e he => (List.not_mem_nil he).elim⟩
theorem PcRow.cell (h : PcRow w F v es) (i : Nat) (hi : i < es.length) : ∃ R c, v = .slice (some ⟨R, 0, none⟩) es.length c ∧ es.length ≤ c ∧ c ≤ maxLen ∧ w.cell? ⟨R, i * 2, none⟩ = some es[i].2 ∧ w.cell? ⟨R, i * 2 + 1, none⟩ = some (.int .i64 (es[i].1.2 : Int)) := by
  rcases h.own.2 with ⟨_, h0⟩ | ⟨g, cap, cur, rfl, _, hh, h1, h2, _⟩
  · omega
  · have q := fun j (hj : j < 2) u (hu : (pcE es[i])[j]? = some u) => h.own.cells (g := g) rfl (i * 2 + j) u (by rw [pcC_at es i j hi hj]; exact hu)
    have q0 := q 0 (by omega) _ rfl
    have q1 := q 1 (by omega) _ rfl
    rw [Addr.add_lit, Nat.zero_add] at q0 q1
    exact ⟨g, cap, rfl, h1, h2, q0, q1⟩
theorem PcRow.shape (h : PcRow w F v es) : ∃ A c, v = .slice A es.length c ∧ es.length ≤ c ∧ c ≤ maxLen := own_shape h.own
theorem PcRow.off {g : Nat} {cs : Array Value} (h : PcRow w F v es) (hb : Bk w g 82 cs) : ∀ k, (v.ownBlock = some k ∨ ∃ e ∈ es, e.2.ownBlock = some k) → k ≠ g := by
  rintro k (e | ⟨e, he, e2⟩)
  · exact not_bk7 hb h.own (by decide) k e
  · exact not_bk7 hb (h.each e he) (by decide) k e2
end
/-- The cells of a sender. -/
def sdA (s : Sd) (v : Value) : Array Value := #[.int .u64 (s.life : Int), .int .i64 (s.window : Int), .int .i64 (s.span : Int), .int .i64 (s.tick : Int), .int .u64 (s.came : Int), v]
/-- Block g is the program's sender s. -/
def PS (w : World) (F : Nat → Prop) (g : Nat) (s : Sd) : Prop :=
  ∃ v es, Bk w g 82 (sdA s v) ∧ PcRow w F v es ∧ es.map (·.1) = s.queue ∧ s.Ok ∧ F g ∧ ∀ k, F k → k < w.heap.size
section
variable {w w' : World} {F G : Nat → Prop} {g : Nat} {s : Sd}
theorem PS.kp (h : PS w F g s) (hk : Kp G w w') (hd : ∀ k, F k → ¬ G k) : PS w' F g s := by
  obtain ⟨v, es, h1, h3, h4, h5, h6, h7⟩ := h
  exact ⟨v, es, h1.kp hk (hd _ h6), h3.kp hk hd, h4, h5, h6, fun k e => Nat.lt_of_lt_of_le (h7 k e) hk.size⟩
theorem PS.below (h : PS w F g s) (hb : Below w.heap.size w w') : PS w' F g s := h.kp (G := fun _ => False) (Kp.of_below hb) fun _ _ h => h
theorem PS.ok (h : PS w F g s) : s.Ok := by obtain ⟨v, es, h1, h3, h4, h5, h6, h7⟩ := h; exact h5
theorem PS.lt (h : PS w F g s) : ∀ k, F k → k < w.heap.size := by obtain ⟨v, es, h1, h3, h4, h5, h6, h7⟩ := h; exact h7
theorem PS.glt (h : PS w F g s) : g < w.heap.size := by obtain ⟨v, es, h1, h3, h4, h5, h6, h7⟩ := h; exact h1.lt
theorem PS.cells (h : PS w F g s) : ∃ A c, s.queue.length ≤ c ∧ c ≤ maxLen ∧ w.cell? ⟨g, 0, none⟩ = some (.int .u64 (s.life : Int)) ∧ w.cell? ⟨g, 1, none⟩ = some (.int .i64 (s.window : Int)) ∧ w.cell? ⟨g, 2, none⟩ = some (.int .i64 (s.span : Int)) ∧
    w.cell? ⟨g, 3, none⟩ = some (.int .i64 (s.tick : Int)) ∧ w.cell? ⟨g, 4, none⟩ = some (.int .u64 (s.came : Int)) ∧ w.cell? ⟨g, 5, none⟩ = some (.slice A s.queue.length c) := by
  obtain ⟨v, es, h1, h3, h4, h5, h6, h7⟩ := h
  obtain ⟨A, c, rfl, hc1, hc2⟩ := h3.shape
  have e : es.length = s.queue.length := by rw [← h4]; simp
  rw [e] at h1 hc1
  exact ⟨A, c, hc1, hc2, h1.cell 0, h1.cell 1, h1.cell 2, h1.cell 3, h1.cell 4, h1.cell 5⟩
end

/-- A call that has turned the sender s to s' and answers r. -/
def SActed (w : World) (F : Nat → Prop) (g : Nat) (r : Value) (s' : Sd) (e : Ending) (w' : World) : Prop := e = .returned r ∧ ∃ F', PS w' F' g s' ∧ Mv F F' w w'

set_option maxRecDepth 100000 in
set_option maxHeartbeats 400000 in
theorem sLeft_nil (w : World) : Calls Try.prog 20 #[.pointer none] w fun e w' => e = .returned (.int .i64 0) ∧ w = w' := by
  go_enter Try.func20, Try.ntmps20
  go_wp2
  go_ret
  exact ⟨rfl, rfl⟩
set_option maxRecDepth 100000 in
set_option maxHeartbeats 400000 in
theorem sLeft_any {w : World} {F : Nat → Prop} {g : Nat} {s : Sd} (h : PS w F g s) : Calls Try.prog 20 #[.pointer (some ⟨g, 0, none⟩)] w fun e w' => e = .returned (.int .i64 (s.queue.length : Int)) ∧ w = w' := by
  obtain ⟨A, c, _, _, c0, c1, c2, c3, c4, c5⟩ := h.cells
  clear h
  go_enter Try.func20, Try.ntmps20
  go_wp2
  go_ret
  exact ⟨rfl, rfl⟩
set_option maxRecDepth 100000 in
set_option maxHeartbeats 1000000 in
theorem sLast_any {w : World} {F : Nat → Prop} {g : Nat} {s : Sd} (h : PS w F g s) : Calls Try.prog 37 #[.pointer (some ⟨g, 0, none⟩)] w fun e w' => e = .returned (.int .u64 ((s.came + s.queue.length : Nat) : Int)) ∧ ∃ m, w' = w.drewN m := by
  obtain ⟨A, c, _, _, c0, c1, c2, c3, c4, c5⟩ := h.cells
  have h1 := h.ok.came
  have e1 : IntKind.u64.wrap (s.queue.length : Int) = (s.queue.length : Int) := by rw [IntKind.wrap_u64]; omega
  have e2 : IntKind.u64.wrap ((s.came : Int) + (s.queue.length : Int)) = ((s.came + s.queue.length : Nat) : Int) := by rw [IntKind.wrap_u64]; omega
  generalize ((s.came + s.queue.length : Nat) : Int) = T at *
  generalize s.came = cm at *
  generalize s.queue.length = q at *
  clear h h1
  go_enter Try.func37, Try.ntmps37
  go_wp2_with fail
  go_quiet (fail)
  go_wp2
  go_ret
  exact ⟨rfl, _, rfl⟩
end Go.Proofs.Ytfdlhefbbhblnaa
