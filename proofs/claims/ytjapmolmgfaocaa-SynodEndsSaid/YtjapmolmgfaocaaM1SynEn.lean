/- Of the proofs of layer 4, merged: SynEn. -/
import Derived.Test.YtjapmolmgfaocaaM1SynZ7
import Derived.Test.YtjapmolmgfaocaaM1SynQ
import Derived.Test.YtjapmolmgfaocaaM1SynRo
import Derived.Test.YtjapmolmgfaocaaM1Same

/- SynodEnds: what the law keeps, in memory: rounds of one starter. -/
namespace Go.Proofs.Ytjapmolmgfaocaa
open Go.RowKit Go.Maps

theorem Ro.start_q (r : Ro) (a : Int) (v : List UInt8) : (r.start a v).2.2.q = r.q := by
  unfold Ro.start
  split
  · rfl
  split
  · rfl
  split
  · rfl
  · exact (Ro.sends_same _ _ _ _ _ _).1
theorem start_knows {r : Ro} {o : Nat} {v : List UInt8} (ho : o < r.nodes.length) (hv : v.length ≤ 100) (hs : (r.node o).seen < 4611686018427387904) (hk : (r.node o).knows = true) : ((r.start (o : Int) v).2.2.node o).knows = true := by
  rw [start_eq ho hv hs, Ro.sends_node, Ro.node_set r _ ho, if_pos rfl]
  exact hk
/-- What was told of the first one that learned. -/
def EnV (w : World) (col : Nat → Nat) (q : Qm) (x : Gh) (won : Bool) (vA : Option Addr) (vn : Nat) : Prop := won = true → ∃ l, Chosen q x l ∧ Fr w col vA vn l
/-- Acts, then drops. -/
def EnA (W w : World) (g N : Nat) (q : Qm) (S D : Nat) : Prop := ∃ col r x, OwR W w col g N q.n r ∧ PI r x (fun _ => True) ∧ r.q = q ∧ Low r S ∧ r.row.length + D ≤ 200
/-- Between two rounds. -/
structure EnP (q : Qm) (r : Ro) (x : Gh) (o S k : Nat) : Prop where
  pi : PI r x (fun _ => True)
  q : r.q = q
  row : r.row = []
  low : Low r S
  oi : o < r.nodes.length
  seen : k ≤ (r.node o).seen
  cap : ∀ i, (r.node i).prom.n ≤ max 60 (r.node o).seen
  kn : 60 < k → (r.node o).knows = true
  all : 0 < k → ∀ j, j < r.nodes.length → ∀ i, (r.node i).prom.n ≤ max 60 (r.node j).seen
def EnR (W w : World) (g N : Nat) (q : Qm) (o S k : Nat) (won : Bool) (vA : Option Addr) (vn : Nat) : Prop :=
  ∃ col r x, OwR W w col g N q.n r ∧ EnP q r x o S k ∧ EnV w col q x won vA vn
/-- In a round. -/
def EnT (W w : World) (g N : Nat) (q : Qm) (o S k j : Nat) (won : Bool) (vA : Option Addr) (vn : Nat) (ln : Nat) : Prop :=
  ∃ col r x0 b top, OwR W w col g N q.n r ∧ r.q = q ∧ Rd3 r o b 60 top (fun _ => True) x0 j ∧ Low r S ∧ k + 1 ≤ b.n ∧ (60 ≤ k → top = true) ∧ EnV w col q x0 won vA vn ∧ r.row.length = ln
section
variable {W w w' : World} {g N : Nat} {q : Qm} {o S k j D : Nat} {won : Bool} {vA : Option Addr} {vn : Nat}
theorem EnA.start {col : Nat → Nat} (h : OwR W w col g N q.n (Ro.new q)) (hq : q.right = 0) : EnA W w g N q 0 0 := ⟨col, _, _, h, PI.new hq, rfl, Low.new q, Nat.zero_le _⟩
theorem EnA.bel (h : EnA W w g N q S D) : Below W.heap.size W w := by obtain ⟨_, _, _, h, _⟩ := h; exact h.bel
theorem EnA.play (h : EnA W w g N q S 0) (kd a : Int) (aA : Option Addr) (an ac : Nat) (l : List UInt8) (hv : Rd w W.heap.size aA an l) : Calls Try.prog 12 #[.pointer (some ⟨g, 0, none⟩), .agg #[.int .i64 kd, .int .i64 a, .slice aA an ac], .int .i64 (q.n : Int)] w fun e w' => e = .returned (.tuple #[]) ∧ Hid (EnA W w' g N q (S + 1) 0) := by
  obtain ⟨col, r, x, h1, h2, h3, h4, h5⟩ := h
  refine (play_any h1 kd a aA an ac l (Fr.given hv h1.ge h1.bel.size)).mono ?_
  rintro e w' ⟨rfl, hs⟩
  obtain ⟨col', p1, p2⟩ := hs.out
  obtain ⟨x', hp, he⟩ := h2.play kd a l q.n
  exact ⟨rfl, Lib.hid ⟨col', _, x', p1, hp.monoL (fun _ _ => trivial), (Ro.play_q _ _ _ _ _).trans h3, h4.play kd a l q.n, hp.ok.most⟩⟩
theorem EnA.len (h : EnA W w g N q S D) : ∃ ln, ln + D ≤ 200 ∧ (Calls Try.prog 19 #[.pointer (some ⟨g, 0, none⟩)] w fun e w' => e = .returned (.int .i64 (ln : Int)) ∧ w = w') ∧ (0 < ln → Calls Try.prog 20 #[.pointer (some ⟨g, 0, none⟩), .int .i64 0] w fun e w' => (∃ E, e = .returned (.bool E)) ∧ Hid (EnA W w' g N q S (D + 1))) ∧
    (ln = 0 → ∀ o, o < q.n → S ≤ 60 → EnR W w g N q o S 0 false none 0) := by
  obtain ⟨col, r, x, h1, h2, h3, h4, h5⟩ := h
  refine ⟨r.row.length, h5, h1.len, fun hl => ?_, fun hl o ho hS => ?_⟩
  · refine (h1.drop 0).mono ?_
    rintro e w' ⟨rfl, hs⟩
    obtain ⟨col', p1, p2⟩ := hs.out
    have hi : r.is 0 = true := Ro.is_iff.2 ⟨Int.le_refl _, by simpa using hl⟩
    have hd : (r.drop 0).2 = r.cut 0 := by unfold Ro.drop; rw [if_pos hi]; rfl
    rw [hd] at p1
    refine ⟨⟨_, rfl⟩, Lib.hid ⟨col', _, x, p1, h2.cut 0, h3, h4.cut 0, ?_⟩⟩
    show (r.row.eraseIdx 0).length + (D + 1) ≤ 200
    rw [List.length_eraseIdx]
    split <;> omega
  · have hnn := h1.rm.nn
    refine ⟨col, r, x, h1, ⟨h2, h3, List.eq_nil_of_length_eq_zero hl, h4, by omega, Nat.zero_le _, fun i => ?_, fun e => (by omega), fun e => (by omega)⟩, fun e => by cases e⟩
    have := h4.prom i
    omega
theorem EnR.bel (h : EnR W w g N q o S k won vA vn) : Below W.heap.size W w := by obtain ⟨_, _, _, h, _⟩ := h; exact h.bel
theorem EnR.startCore {col : Nat → Nat} {r : Ro} {x : Gh} (h1 : OwR W w col g N q.n r) (h2 : EnP q r x o S k) (h3 : EnV w col q x won vA vn) (hS : S ≤ 1000) (hn : q.n ≤ 12) (aA : Option Addr) (ac : Nat) (l : List UInt8) (hl : l.length ≤ 100) (hv : Fr w col aA l.length l) : Calls Try.prog 21 #[.pointer (some ⟨g, 0, none⟩), .int .i64 (o : Int), .slice aA l.length ac] w fun e w' => (∃ (bn : Nat) (bd E : Int), e = .returned (.tuple #[.agg #[.int .u64 (bn : Int), .int .i64 bd], .int .i64 E])) ∧ Hid (∃ ln, EnT W w' g N q o (S + 1) k 0 won vA vn ln) := by
  refine (h1.start (o : Int) aA _ ac l hv).mono ?_
  rintro e w' ⟨⟨bn, bd, rfl, _, _⟩, hs⟩
  obtain ⟨col', p1, p2⟩ := hs.out
  have hnn := h1.rm.nn
  have hseen := h2.low.seen o
  obtain ⟨g1, g2⟩ := Rnd.start (M := 60) (v := l) h2.row h2.oi (by omega) hl (by omega) h2.cap
  refine ⟨⟨bn, bd, _, rfl⟩, Lib.hid ⟨_, col', _, x, r.nextB o, decide (60 ≤ k), p1, (Ro.start_q _ _ _).trans h2.q, ⟨g1, .inr (by omega), ⟨x, (h2.pi.start (o : Int) l).monoL (fun _ _ => trivial), Gh.Ext.refl x⟩, fun e => ?_⟩, h2.low.start _ _, ?_, fun e => decide_eq_true e, fun e => ?_, rfl⟩⟩
  · have hk := of_decide_eq_true e
    exact Cov.start h2.pi.ok h2.row h2.oi (by omega) hl (by omega) fun i => by have := h2.cap i; have := h2.seen; omega
  · have := h2.seen
    show k + 1 ≤ (r.node o).seen + 1
    omega
  · obtain ⟨u, hu, hf⟩ := h3 e
    exact ⟨u, hu, hf.cl p2⟩
theorem EnR.startAny (h : EnR W w g N q o S k won vA vn) (hS : S ≤ 1000) (hn : q.n ≤ 12) (aA : Option Addr) (ac : Nat) (l : List UInt8) (hl : l.length ≤ 100) (hv : ∀ col r, OwR W w col g N q.n r → Fr w col aA l.length l) : Calls Try.prog 21 #[.pointer (some ⟨g, 0, none⟩), .int .i64 (o : Int), .slice aA l.length ac] w fun e w' => (∃ (bn : Nat) (bd E : Int), e = .returned (.tuple #[.agg #[.int .u64 (bn : Int), .int .i64 bd], .int .i64 E])) ∧ Hid (∃ ln, EnT W w' g N q o (S + 1) k 0 won vA vn ln) := by
  obtain ⟨col, r, x, h1, h2, h3⟩ := h
  exact EnR.startCore h1 h2 h3 hS hn aA ac l hl (hv col r h1)
theorem EnT.bel {ln : Nat} (h : EnT W w g N q o S k j won vA vn ln) : Below W.heap.size W w := by obtain ⟨_, _, _, _, _, h, _⟩ := h; exact h.bel
theorem EnT.len {ln : Nat} (h : EnT W w g N q o S k j won vA vn ln) : (Calls Try.prog 19 #[.pointer (some ⟨g, 0, none⟩)] w fun e w' => e = .returned (.int .i64 (ln : Int)) ∧ w = w') := by
  obtain ⟨col, r, x0, b, top, h1, h2, h3, h4, h5, h6, h7, rfl⟩ := h
  exact h1.len
theorem EnT.take {ln : Nat} (h : EnT W w g N q o S k j won vA vn ln) : Calls Try.prog 22 #[.pointer (some ⟨g, 0, none⟩), .int .i64 0] w fun e w' => (∃ E, e = .returned (.bool E)) ∧ Hid (∃ ln', EnT W w' g N q o S k (j + 1) won vA vn ln') := by
  obtain ⟨col, r, x0, b, top, h1, h2, h3, h4, h5, h6, h7, rfl⟩ := h
  refine (h1.take 0).mono ?_
  rintro e w' ⟨rfl, hs⟩
  obtain ⟨col', p1, p2⟩ := hs.out
  exact ⟨⟨_, rfl⟩, Lib.hid ⟨_, col', _, x0, b, top, p1, (Ro.take_q _ _).trans h2, h3.take, h4.take 0, h5, h6, fun e => by obtain ⟨u, hu, hf⟩ := h7 e; exact ⟨u, hu, hf.cl p2⟩, rfl⟩⟩
theorem EnT.end_ {ln : Nat} (h : EnT W w g N q o S k j won vA vn ln) (he : 48 < j ∨ ln = 0) : EnR W w g N q o S (k + 1) won vA vn := by
  obtain ⟨col, r, x0, b, top, h1, h2, h3, h4, h5, h6, h7, rfl⟩ := h
  obtain ⟨e1, e2, e3⟩ := h3.end_ (he.imp id List.eq_nil_of_length_eq_zero)
  obtain ⟨x, hp, hx⟩ := h3.pi
  refine ⟨col, r, x, h1, ⟨hp, h2, e1, h4, h3.rd.rnd.oi, Nat.le_trans h5 h3.rd.own, fun i => ?_, fun hk => e2 (h6 (by omega)), fun _ j' hj i => ?_⟩, fun e => ?_⟩
  · have := h3.rd.cap i; have := h3.rd.own; omega
  · have := h3.rd.cap i; have := e3 j' hj; omega
  · obtain ⟨u, hu, hf⟩ := h7 e
    exact ⟨u, hu.ext hx, hf⟩
/-- Behind the first node's rounds the other one's begin. -/
theorem EnR.other (h : EnR W w g N q o S k won vA vn) (hk : 0 < k) (o' : Nat) (ho : o' < q.n) : EnR W w g N q o' S 0 won vA vn := by
  obtain ⟨col, r, x, h1, h2, h3⟩ := h
  have hnn := h1.rm.nn
  exact ⟨col, r, x, h1, ⟨h2.pi, h2.q, h2.row, h2.low, by omega, Nat.zero_le _, fun i => h2.all hk o' (by omega) i, fun e => (by omega), fun e => (by omega)⟩, h3⟩
/-- Learned. -/
theorem EnR.learned (h : EnR W w g N q o S k won vA vn) : Calls Try.prog 13 #[.pointer (some ⟨g, 0, none⟩), .int .i64 (o : Int)] w fun e w' => ∃ A n c ok, e = .returned (.tuple #[.slice A n c, .bool ok]) ∧ Hid (60 < k → ok = true) ∧ Hid (EnR W w' g N q o S k won vA vn) ∧ Hid (ok = true → EnR W w' g N q o S k true A n) ∧ Hid (ok = true → won = true → ∀ c', Calls Try.prog 14 #[.slice vA vn c', .slice A n c] w' fun e w'' => e = .returned (.bool true) ∧ w' = w'') ∧ Hid (Below W.heap.size W w') := by
  obtain ⟨col, r, x, h1, h2, h3⟩ := h
  refine (h1.learned (o : Int)).mono ?_
  rintro e w' ⟨A, c, rfl, hs⟩
  have hh : r.has (o : Int) = true := Ro.has_iff.2 ⟨by omega, by rw [Int.toNat_natCast]; exact h2.oi⟩
  have hl : r.learned (o : Int) = ((r.node o).learned, (r.node o).knows) := by unfold Ro.learned; rw [if_pos hh, Int.toNat_natCast]
  have hx := hs.out
  rw [hl] at hx ⊢
  have h1' := h1.below hx.1
  have h3' : EnV w' col q x won vA vn := fun e => by obtain ⟨u, hu, hf⟩ := h3 e; exact ⟨u, hu, hf.below hx.1⟩
  refine ⟨A, _, c, _, rfl, Lib.hid h2.kn, Lib.hid ⟨col, r, x, h1', h2, h3'⟩, Lib.hid fun e => ⟨col, r, x, h1', h2, fun _ => ⟨_, ?_, hx.2.1⟩⟩, Lib.hid fun e1 e2 c' => ?_, Lib.hid h1'.bel⟩
  · have := h2.pi.lrn o e
    rw [h2.q] at this
    exact this
  · obtain ⟨u, hu, hf⟩ := h3' e2
    have hc := h2.pi.lrn o e1
    rw [← h2.q] at hu
    have he := Chosen.one h2.pi hu hc
    refine (same_any vA A vn _ c' c _ _ u (r.node o).learned w' hf.rd hx.2.1.rd).mono ?_
    rintro e w'' ⟨rfl, rfl⟩
    exact ⟨by rw [he]; simp, rfl⟩
end
end Go.Proofs.Ytjapmolmgfaocaa
