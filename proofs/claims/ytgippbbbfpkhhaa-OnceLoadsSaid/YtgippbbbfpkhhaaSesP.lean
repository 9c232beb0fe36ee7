/- Layer 7, plain: segments, a sender with its pieces, a receiver with those that came early. No program is named here. -/
import Derived.Test.YtgippbbbfpkhhaaFoot
import Derived.Test.YtgippbbbfpkhhaaFlat
import Derived.Maps.OwnSet
import Derived.Maps.Views
namespace Go.Proofs.Ytgippbbbfpkhhaa
open Go.RowKit Go.Maps

structure Sg where
  life : Nat
  seq : Nat
  ack : Bool
  body : List UInt8
structure Sg.Ok (s : Sg) : Prop where
  life : s.life < 18446744073709551616
  seq : s.seq < 18446744073709551616
def Sg.right (s : Sg) : Bool := if s.ack then decide (s.body.length = 0) else decide (0 < s.seq) && decide (s.body.length ≤ 1000)
def Sg.zero : Sg := ⟨0, 0, false, []⟩

/-! ### the sender -/
structure Sd where
  life : Nat
  window : Nat
  span : Nat
  tick : Nat
  came : Nat
  queue : List (List UInt8 × Nat)
structure Sd.Ok (s : Sd) : Prop where
  life : s.life < 18446744073709551616
  win : 1 ≤ s.window ∧ s.window ≤ 64
  span : 1 ≤ s.span ∧ s.span ≤ 1000
  tick : s.tick < 4611686018427387904
  came : s.came + s.queue.length < 4611686018427387904
  len : s.queue.length ≤ 128
  bods : ∀ q ∈ s.queue, q.1.length ≤ 1000 ∧ q.2 ≤ s.tick
def Sd.new (life window span : Nat) : Sd := ⟨life, window, span, 0, 0, []⟩
def Sd.push (s : Sd) (b : List UInt8) : Int × Sd := if 1000 < b.length then (3, s) else if 128 ≤ s.queue.length then (5, s) else (0, { s with queue := s.queue ++ [(b, 0)] })
def dueQ (span T : Nat) (q : List UInt8 × Nat) : Bool := !(decide (0 < q.2) && decide (T - q.2 < span))
def updQ (span T : Nat) (q : List UInt8 × Nat) : List UInt8 × Nat := if dueQ span T q then (q.1, T) else q
def outQ (life span T : Nat) : Nat → List (List UInt8 × Nat) → List Sg
  | _, [] => []
  | c, q :: r => (if dueQ span T q then [⟨life, c + 1, false, q.1⟩] else []) ++ outQ life span T (c + 1) r
def Sd.k (s : Sd) : Nat := min s.window s.queue.length
def Sd.tickS (s : Sd) : Sd := { s with tick := s.tick + 1, queue := (s.queue.take s.k).map (updQ s.span (s.tick + 1)) ++ s.queue.drop s.k }
def Sd.out (s : Sd) : List Sg := outQ s.life s.span (s.tick + 1) s.came (s.queue.take s.k)
def Sd.hear (s : Sd) (g : Sg) : Int × Sd :=
  if g.right = false then (2, s)
  else if g.ack = false then (71, s)
  else if g.life ≠ s.life then (70, s)
  else if s.came + s.queue.length < g.seq then (11, s)
  else if s.came < g.seq then (0, { s with came := g.seq, queue := s.queue.drop (g.seq - s.came) })
  else (0, s)

theorem outQ_app (life span T : Nat) : ∀ (l : List (List UInt8 × Nat)) (c : Nat) (q : List UInt8 × Nat), outQ life span T c (l ++ [q]) = outQ life span T c l ++ (if dueQ span T q then [⟨life, c + l.length + 1, false, q.1⟩] else [])
  | [], c, q => by simp [outQ]
  | x :: r, c, q => by
    have ih := outQ_app life span T r (c + 1) q
    simp only [List.cons_append, outQ, ih, List.append_assoc, List.length_cons]
    rw [show c + 1 + r.length + 1 = c + (r.length + 1) + 1 by omega]
theorem outQ_len (life span T : Nat) : ∀ (l : List (List UInt8 × Nat)) (c : Nat), (outQ life span T c l).length ≤ l.length
  | [], c => by simp [outQ]
  | x :: r, c => by
    have ih := outQ_len life span T r (c + 1)
    simp only [outQ, List.length_append, List.length_cons]
    split <;> simp <;> omega
theorem Sd.Ok.new {life window span : Nat} (h0 : life < 18446744073709551616) (h1 : 1 ≤ window ∧ window ≤ 64) (h2 : 1 ≤ span ∧ span ≤ 1000) : (Sd.new life window span).Ok :=
  ⟨h0, h1, h2, by simp [Sd.new], by simp [Sd.new], by simp [Sd.new], by simp [Sd.new]⟩
theorem Sd.Ok.push {s : Sd} (h : s.Ok) (hb : s.came + s.queue.length + 1 < 4611686018427387904) (b : List UInt8) : (s.push b).2.Ok := by
  unfold Sd.push
  split
  · exact h
  rename_i h1
  split
  · exact h
  rename_i h2
  refine ⟨h.life, h.win, h.span, h.tick, by simp; omega, by simp; omega, fun q hq => ?_⟩
  rcases List.mem_append.1 hq with hq | hq
  · exact h.bods q hq
  · rw [List.mem_singleton.1 hq]; exact ⟨by simp; omega, Nat.zero_le _⟩
theorem updQ_body (span T : Nat) (q : List UInt8 × Nat) : (updQ span T q).1 = q.1 := by unfold updQ; split <;> rfl
theorem Sd.tickS_len (s : Sd) : s.tickS.queue.length = s.queue.length := by
  unfold Sd.tickS Sd.k
  simp only [List.length_append, List.length_map, List.length_take, List.length_drop]
  omega
theorem Sd.Ok.tickS {s : Sd} (h : s.Ok) (ht : s.tick + 1 < 4611686018427387904) : s.tickS.Ok := by
  refine ⟨h.life, h.win, h.span, ht, by rw [Sd.tickS_len]; exact h.came, by rw [Sd.tickS_len]; exact h.len, fun q hq => ?_⟩
  unfold Sd.tickS at hq ⊢
  simp only at hq ⊢
  rcases List.mem_append.1 hq with hq | hq
  · obtain ⟨q0, h0, rfl⟩ := List.mem_map.1 hq
    have := h.bods q0 (List.mem_of_mem_take h0)
    rw [updQ_body]
    refine ⟨this.1, ?_⟩
    unfold updQ
    split
    · exact Nat.le_refl _
    · have := this.2; omega
  · have := h.bods q (List.mem_of_mem_drop hq)
    exact ⟨this.1, by omega⟩
theorem Sd.Ok.hear {s : Sd} (h : s.Ok) (g : Sg) : (s.hear g).2.Ok := by
  unfold Sd.hear
  split
  · exact h
  split
  · exact h
  split
  · exact h
  split
  · exact h
  rename_i h4
  split
  · refine ⟨h.life, h.win, h.span, h.tick, ?_, ?_, fun q hq => h.bods q (List.mem_of_mem_drop hq)⟩
    · have := h.came; simp; omega
    · have := h.len; simp; omega
  · exact h

/-! ### sorted pairs -/
section
variable {β γ : Type}
def insK (x : Nat × β) : List (Nat × β) → List (Nat × β)
  | [] => [x]
  | y :: r => if x.1 < y.1 then x :: y :: r else y :: insK x r
def delK (k : Nat) (L : List (Nat × β)) : List (Nat × β) := L.filter fun p => !(p.1 == k)
def putK (k : Nat) (v : β) (L : List (Nat × β)) : List (Nat × β) := insK (k, v) (delK k L)
def getK (L : List (Nat × β)) (k : Nat) : Option β := (L.find? fun p => p.1 == k).map (·.2)
def SrtK (L : List (Nat × β)) : Prop := L.Pairwise fun p q => p.1 < q.1
def takeK : Nat → List (Nat × β) → List β × Nat × List (Nat × β)
  | c, [] => ([], c, [])
  | c, (k, v) :: r => if k = c + 1 then let t := takeK (c + 1) r; (v :: t.1, t.2.1, t.2.2) else ([], c, (k, v) :: r)
def onK (f : β → γ) (L : List (Nat × β)) : List (Nat × γ) := L.map fun p => (p.1, f p.2)
theorem insK_on (f : β → γ) (x : Nat × β) : ∀ L, onK f (insK x L) = insK (x.1, f x.2) (onK f L)
  | [] => rfl
  | y :: r => by
    have ih := insK_on f x r
    unfold onK at *
    simp only [insK, List.map_cons]
    split <;> simp [ih]
theorem delK_on (f : β → γ) (k : Nat) : ∀ L, onK f (delK k L) = delK k (onK f L)
  | [] => rfl
  | y :: r => by
    have ih := delK_on f k r
    unfold onK delK at *
    simp only [List.filter_cons, List.map_cons]
    split <;> simp [ih]
theorem getK_on (f : β → γ) (k : Nat) : ∀ L, getK (onK f L) k = (getK L k).map f
  | [] => rfl
  | y :: r => by
    have ih := getK_on f k r
    unfold onK getK at *
    simp only [List.find?_cons, List.map_cons]
    split
    · rfl
    · exact ih
theorem takeK_on (f : β → γ) : ∀ (L : List (Nat × β)) (c : Nat), takeK c (onK f L) = ((takeK c L).1.map f, (takeK c L).2.1, onK f (takeK c L).2.2)
  | [], c => rfl
  | (k, v) :: r, c => by
    have ih := takeK_on f r (c + 1)
    unfold onK at *
    simp only [List.map_cons, takeK]
    split
    · rw [ih]; simp
    · rfl
theorem onK_len (f : β → γ) (L : List (Nat × β)) : (onK f L).length = L.length := by simp [onK]
theorem SrtK.on {L : List (Nat × β)} (f : β → γ) (h : SrtK (onK f L)) : SrtK L := by
  unfold SrtK onK at *
  rw [List.pairwise_map] at h
  exact h
theorem SrtK.del {L : List (Nat × β)} (h : SrtK L) (k : Nat) : SrtK (delK k L) := h.sublist List.filter_sublist
theorem insK_mem (x : Nat × β) : ∀ (L : List (Nat × β)) (p : Nat × β), p ∈ insK x L ↔ p = x ∨ p ∈ L
  | [], p => by simp [insK]
  | y :: r, p => by
    unfold insK
    split
    · simp
    · simp only [List.mem_cons, insK_mem x r p]
      constructor
      · rintro (h | h | h)
        · exact .inr (.inl h)
        · exact .inl h
        · exact .inr (.inr h)
      · rintro (h | h | h)
        · exact .inr (.inl h)
        · exact .inl h
        · exact .inr (.inr h)
theorem insK_len (x : Nat × β) : ∀ L : List (Nat × β), (insK x L).length = L.length + 1
  | [] => rfl
  | y :: r => by
    unfold insK
    split
    · simp
    · simp [insK_len x r]
theorem SrtK.ins {x : Nat × β} : ∀ {L : List (Nat × β)}, SrtK L → (∀ p ∈ L, p.1 ≠ x.1) → SrtK (insK x L)
  | [], _, _ => by simp [insK, SrtK]
  | y :: r, h, hx => by
    unfold SrtK at h
    rw [List.pairwise_cons] at h
    have hy := hx y (by simp)
    unfold insK
    split
    · rename_i hlt
      unfold SrtK
      rw [List.pairwise_cons]
      refine ⟨fun p hp => ?_, List.pairwise_cons.2 h⟩
      rcases List.mem_cons.1 hp with rfl | hp
      · exact hlt
      · exact Nat.lt_trans hlt (h.1 p hp)
    · unfold SrtK
      rw [List.pairwise_cons]
      refine ⟨fun p hp => ?_, SrtK.ins h.2 fun p hp => hx p (by simp [hp])⟩
      rcases (insK_mem x r p).1 hp with rfl | hp
      · omega
      · exact h.1 p hp
theorem delK_none {L : List (Nat × β)} {k : Nat} (h : getK L k = none) : delK k L = L := by
  unfold getK at h
  simp only [Option.map_eq_none_iff, List.find?_eq_none] at h
  unfold delK
  rw [List.filter_eq_self]
  intro p hp
  simpa using h p hp
theorem getK_none {L : List (Nat × β)} {k : Nat} (h : getK L k = none) : ∀ p ∈ L, p.1 ≠ k := by
  unfold getK at h
  simp only [Option.map_eq_none_iff, List.find?_eq_none] at h
  intro p hp
  simpa using h p hp
theorem getK_mem {L : List (Nat × β)} {k : Nat} {v : β} (h : getK L k = some v) : (k, v) ∈ L := by
  unfold getK at h
  rw [Option.map_eq_some_iff] at h
  obtain ⟨p, hp, rfl⟩ := h
  have h1 := List.find?_some hp
  have h2 := List.mem_of_find?_eq_some hp
  have : p.1 = k := by simpa using h1
  rw [← this]
  exact h2
/-- At the head of sorted pairs behind c. -/
theorem getK_head {k c : Nat} {v : β} {r : List (Nat × β)} (h : SrtK ((k, v) :: r)) (hc : c < k) : getK ((k, v) :: r) (c + 1) = if k = c + 1 then some v else none := by
  unfold getK
  by_cases e : k = c + 1
  · rw [if_pos e]; simp [e]
  · rw [if_neg e]
    unfold SrtK at h
    rw [List.pairwise_cons] at h
    simp only [Option.map_eq_none_iff, List.find?_eq_none]
    intro p hp
    rcases List.mem_cons.1 hp with rfl | hp
    · simpa using e
    · have := h.1 p hp
      have : k < p.1 := this
      simp; omega
theorem delK_head {k : Nat} {v : β} {r : List (Nat × β)} (h : SrtK ((k, v) :: r)) : delK k ((k, v) :: r) = r := by
  unfold SrtK at h
  rw [List.pairwise_cons] at h
  unfold delK
  simp only [List.filter_cons, beq_self_eq_true, Bool.not_true, Bool.false_eq_true, if_false]
  rw [List.filter_eq_self]
  intro p hp
  have := h.1 p hp
  have : k < p.1 := this
  simp; omega
theorem SrtK.len : ∀ {L : List (Nat × β)} {lo hi : Nat}, SrtK L → (∀ p ∈ L, lo < p.1 ∧ p.1 ≤ hi) → L.length ≤ hi - lo
  | [], _, _, _, _ => by simp
  | x :: r, lo, hi, h, hb => by
    unfold SrtK at h
    rw [List.pairwise_cons] at h
    have h1 := hb x (by simp)
    have := SrtK.len (L := r) (lo := x.1) (hi := hi) h.2 fun p hp => ⟨h.1 p hp, (hb p (by simp [hp])).2⟩
    simp only [List.length_cons]
    omega
end

/-! ### the receiver -/
structure Rc where
  window : Nat
  life : Nat
  came : Nat
  early : List (Nat × List UInt8)
structure Rc.Ok (r : Rc) : Prop where
  life : r.life < 18446744073709551616
  win : 1 ≤ r.window ∧ r.window ≤ 64
  srt : SrtK r.early
  keys : ∀ p ∈ r.early, r.came < p.1 ∧ p.1 ≤ r.came + r.window
  came : r.came + r.early.length < 4611686018427387904
  bods : ∀ p ∈ r.early, p.2.length ≤ 1000
theorem Rc.Ok.len {r : Rc} (h : r.Ok) : r.early.length ≤ 64 := by
  have := h.srt.len (lo := r.came) (hi := r.came + r.window) h.keys
  have := h.win.2
  omega
def Rc.new (window : Nat) : Rc := ⟨window, 0, 0, []⟩
def Rc.refuse (r : Rc) (g : Sg) : Int := if g.right = false then 2 else if g.ack = true then 71 else if g.life < r.life then 70 else 0
def Rc.turn (r : Rc) (g : Sg) : Rc := if r.life < g.life then { r with life := g.life, came := 0, early := [] } else r
def Rc.wants (r : Rc) (q : Nat) : Bool := if q ≤ r.came ∨ r.window < q - r.came then false else !(getK r.early q).isSome
def Rc.keep (r : Rc) (g : Sg) : Rc := if r.wants g.seq then { r with early := insK (g.seq, g.body) r.early } else r
def Rc.take (r : Rc) : List (List UInt8) × Rc := ((takeK r.came r.early).1, { r with came := (takeK r.came r.early).2.1, early := (takeK r.came r.early).2.2 })
def Rc.hear (r : Rc) (g : Sg) : List (List UInt8) × Rc := ((r.turn g).keep g).take
def Rc.ack (r : Rc) : Sg := ⟨r.life, r.came, true, []⟩

theorem Rc.Ok.new {w : Nat} (h : 1 ≤ w ∧ w ≤ 64) : (Rc.new w).Ok := ⟨by simp [Rc.new], h, by simp [Rc.new, SrtK], by simp [Rc.new], by simp [Rc.new], by simp [Rc.new]⟩
theorem Rc.Ok.turn {r : Rc} (h : r.Ok) {g : Sg} (hg : g.Ok) : (r.turn g).Ok := by
  unfold Rc.turn
  split
  · exact ⟨hg.life, h.win, by simp [SrtK], by simp, by simp, by simp⟩
  · exact h
theorem Rc.wants_iff {r : Rc} {q : Nat} (h : r.wants q = true) : r.came < q ∧ q ≤ r.came + r.window ∧ getK r.early q = none := by
  unfold Rc.wants at h
  split at h
  · cases h
  · rename_i h1
    refine ⟨by omega, by omega, ?_⟩
    cases hq : getK r.early q with
    | none => rfl
    | some v => rw [hq] at h; cases h
theorem Rc.keep_eq {r : Rc} {g : Sg} (h : r.wants g.seq = true) : r.keep g = { r with early := putK g.seq g.body r.early } := by
  unfold Rc.keep putK
  rw [if_pos h, delK_none (Rc.wants_iff h).2.2]
theorem Rc.Ok.keep {r : Rc} (h : r.Ok) {g : Sg} (hb : g.right = true) (hk : g.ack = false) (hc : r.came + r.early.length + 1 < 4611686018427387904) : (r.keep g).Ok := by
  unfold Rc.keep
  split
  · rename_i h1
    have h2 := Rc.wants_iff h1
    have hl : g.body.length ≤ 1000 := by
      unfold Sg.right at hb
      rw [hk] at hb
      simp at hb
      exact hb.2
    refine ⟨h.life, h.win, h.srt.ins (getK_none h2.2.2), fun p hp => ?_, by simp only [insK_len]; omega, fun p hp => ?_⟩
    · rcases (insK_mem _ _ _).1 hp with rfl | hp
      · exact ⟨h2.1, h2.2.1⟩
      · exact h.keys p hp
    · rcases (insK_mem _ _ _).1 hp with rfl | hp
      · exact hl
      · exact h.bods p hp
  · exact h
theorem takeK_facts {β : Type} : ∀ (L : List (Nat × β)) (c : Nat), (takeK c L).2.1 = c + (takeK c L).1.length ∧ (takeK c L).2.2 = L.drop (takeK c L).1.length ∧ (takeK c L).1 = (L.take (takeK c L).1.length).map (·.2) ∧ (takeK c L).1.length ≤ L.length
  | [], c => by simp [takeK]
  | (k, v) :: r, c => by
    have ih := takeK_facts r (c + 1)
    unfold takeK
    split
    · simp only [List.length_cons, List.drop_succ_cons, List.take_succ_cons, List.map_cons]
      refine ⟨by omega, ih.2.1, ?_, by omega⟩
      rw [← ih.2.2.1]
    · simp
theorem takeK_keys {β : Type} : ∀ (L : List (Nat × β)) (c : Nat), SrtK L → (∀ p ∈ L, c < p.1) → ∀ p ∈ (takeK c L).2.2, (takeK c L).2.1 < p.1
  | [], c, _, _ => by simp [takeK]
  | (k, v) :: r, c, h, hc => by
    unfold takeK
    split
    · rename_i e
      unfold SrtK at h
      rw [List.pairwise_cons] at h
      exact takeK_keys r (c + 1) h.2 fun p hp => by have := h.1 p hp; have : k < p.1 := this; omega
    · exact hc
theorem Rc.Ok.take {r : Rc} (h : r.Ok) : r.take.2.Ok := by
  obtain ⟨h1, h2, h3, h4⟩ := takeK_facts r.early r.came
  have h5 := takeK_keys r.early r.came h.srt fun p hp => (h.keys p hp).1
  have hl : (takeK r.came r.early).2.2.length = r.early.length - (takeK r.came r.early).1.length := by rw [h2]; simp
  unfold Rc.take
  refine ⟨h.life, h.win, ?_, fun p hp => ⟨h5 p hp, ?_⟩, ?_, fun p hp => ?_⟩
  · show SrtK (takeK r.came r.early).2.2
    rw [h2]; exact h.srt.sublist (List.drop_sublist _ _)
  · have hp' : p ∈ (takeK r.came r.early).2.2 := hp
    rw [h2] at hp'
    have := (h.keys p (List.mem_of_mem_drop hp')).2
    show p.1 ≤ (takeK r.came r.early).2.1 + r.window
    omega
  · have := h.came
    show (takeK r.came r.early).2.1 + (takeK r.came r.early).2.2.length < _
    omega
  · have hp' : p ∈ (takeK r.came r.early).2.2 := hp
    rw [h2] at hp'
    exact h.bods p (List.mem_of_mem_drop hp')
theorem Rc.take_sum (r : Rc) : r.take.2.came + r.take.2.early.length = r.came + r.early.length := by
  obtain ⟨h1, h2, h3, h4⟩ := takeK_facts r.early r.came
  unfold Rc.take
  show (takeK r.came r.early).2.1 + (takeK r.came r.early).2.2.length = _
  rw [h2, List.length_drop]
  omega
theorem Rc.keep_sum (r : Rc) (g : Sg) : (r.keep g).came + (r.keep g).early.length ≤ r.came + r.early.length + 1 := by
  unfold Rc.keep
  split
  · simp only [insK_len]; omega
  · omega
theorem Rc.turn_sum (r : Rc) (g : Sg) : (r.turn g).came + (r.turn g).early.length ≤ r.came + r.early.length := by
  unfold Rc.turn
  split
  · simp
  · exact Nat.le_refl _
theorem Rc.hear_sum (r : Rc) (g : Sg) : (r.hear g).2.came + (r.hear g).2.early.length ≤ r.came + r.early.length + 1 := by
  unfold Rc.hear
  rw [Rc.take_sum]
  have := Rc.keep_sum (r.turn g) g
  have := Rc.turn_sum r g
  omega
theorem Rc.Ok.hear {r : Rc} (h : r.Ok) {g : Sg} (hg : g.Ok) (hb : g.right = true) (hk : g.ack = false) (hc : r.came + r.early.length + 1 < 4611686018427387904) : (r.hear g).2.Ok := by
  unfold Rc.hear
  refine ((h.turn hg).keep hb hk ?_).take
  have := Rc.turn_sum r g
  omega

/-! ### a map of slices, as a datum -/
abbrev Sl := Option Nat × Nat × Nat
def slV : Sl → Value
  | (none, n, c) => .slice none n c
  | (some g, n, c) => .slice (some ⟨g, 0, none⟩) n c
def slD : Sl → DataW Unit
  | (none, n, c) => .agg [.lit (.bool false), .lit (.int .i64 n), .lit (.int .i64 c)]
  | (some g, n, c) => .agg [.lit (.bool true), .lit (.int .i64 n), .lit (.int .i64 c), .lit (.int .i64 g)]
def slR : Value → Option (DataW Unit × List MemPlace)
  | .slice none n c => some (slD (none, n, c), [])
  | .slice (some ⟨g, 0, none⟩) n c => some (slD (some g, n, c), [])
  | _ => none
theorem slR_mk (x : Sl) : slR (slV x) = some (slD x, []) := by
  obtain ⟨a, n, c⟩ := x
  cases a <;> rfl
theorem slD_inj {x y : Sl} (h : slD x = slD y) : x = y := by
  obtain ⟨a, n, c⟩ := x
  obtain ⟨a', n', c'⟩ := y
  cases a <;> cases a' <;> simp [slD] at h
  · obtain ⟨h1, h2⟩ := h
    have h1 := Int.ofNat.inj h1
    have h2 := Int.ofNat.inj h2
    rw [h1, h2]
  · obtain ⟨h1, h2, h3⟩ := h
    have h1 := Int.ofNat.inj h1
    have h2 := Int.ofNat.inj h2
    have h3 := Int.ofNat.inj h3
    rw [h1, h2, h3]
theorem slR_inv {v : Value} {x : Sl} {ps : List MemPlace} (h : slR v = some (slD x, ps)) : v = slV x := by
  unfold slR at h
  split at h
  · rename_i n c
    simp only [Option.some.injEq, Prod.mk.injEq] at h
    rw [← slD_inj h.1]
    rfl
  · rename_i g n c
    simp only [Option.some.injEq, Prod.mk.injEq] at h
    rw [← slD_inj h.1]
    rfl
  · cases h
def entS (p : Nat × Sl) : Lit × DataW Unit := (.int .u64 (p.1 : Int), slD p.2)
def mapS (L : List (Nat × Sl)) : DataW Unit := .map (L.map entS)
theorem insK_mapS (x : Nat × Sl) : ∀ L : List (Nat × Sl), (insK x L).map entS = DataW.insert (entS x) (L.map entS)
  | [] => rfl
  | y :: r => by
    unfold insK
    simp only [List.map_cons]
    unfold DataW.insert
    have : (entS x).1.before (entS y).1 = decide ((x.1 : Int) < (y.1 : Int)) := rfl
    rw [this]
    by_cases h : x.1 < y.1
    · rw [if_pos h, decide_eq_true (by omega)]; simp
    · rw [if_neg h, decide_eq_false (by omega)]; simp [insK_mapS x r]
theorem entS_key (y : Nat × Sl) (k : Nat) : (entS y).1.sameKey (.int .u64 (k : Int)) = (y.1 == k) := by
  show decide (IntKind.u64 = IntKind.u64 ∧ (y.1 : Int) = (k : Int)) = (y.1 == k)
  by_cases h : y.1 = k
  · simp [h]
  · have _ : ¬ (y.1 : Int) = (k : Int) := by omega
    rw [Bool.eq_iff_iff]
    simp only [decide_eq_true_eq, beq_iff_eq]
    omega
theorem delK_mapS (k : Nat) : ∀ L : List (Nat × Sl), (delK k L).map entS = (L.map entS).filter fun p => !p.1.sameKey (.int .u64 (k : Int))
  | [] => rfl
  | y :: r => by
    have ih := delK_mapS k r
    unfold delK at *
    simp only [List.map_cons, List.filter_cons]
    rw [entS_key]
    cases (y.1 == k) with
    | true => simpa using ih
    | false => simpa using ih
theorem mapS_put (k : Nat) (v : Sl) (L : List (Nat × Sl)) : (mapS L).put (.int .u64 (k : Int)) (slD v) = mapS (putK k v L) := by
  unfold mapS putK DataW.put
  rw [insK_mapS, delK_mapS]
  rfl
theorem mapS_del (k : Nat) (L : List (Nat × Sl)) : (mapS L).del (.int .u64 (k : Int)) = mapS (delK k L) := by
  unfold mapS DataW.del
  rw [delK_mapS]
theorem entS_comp (k : Nat) : ((fun p : Lit × DataW Unit => p.1.sameKey (.int .u64 (k : Int))) ∘ entS) = fun p : Nat × Sl => p.1 == k := by
  funext p
  exact entS_key p k
theorem mapS_at (k : Nat) (L : List (Nat × Sl)) (z : Sl) : (mapS L).atKey (.int .u64 (k : Int)) (slD z) = slD ((getK L k).getD z) := by
  unfold mapS DataW.atKey getK
  simp only [List.find?_map, entS_comp]
  cases L.find? (fun p => p.1 == k) <;> rfl
theorem mapS_has (k : Nat) (L : List (Nat × Sl)) : Maps.has (mapS L) (.int .u64 (k : Int)) = (getK L k).isSome := by
  unfold mapS
  rw [Maps.has_eq]
  unfold getK
  rw [List.any_map, entS_comp, Option.isSome_map, Bool.eq_iff_iff, List.any_eq_true, List.find?_isSome]
theorem mapS_size (L : List (Nat × Sl)) : Maps.size (mapS L) = L.length := by unfold mapS; rw [Maps.size_eq]; simp
end Go.Proofs.Ytgippbbbfpkhhaa
