/- Layer 10, plain: a proposer: what it was told, what it proposed, what is chosen. No program is named here. -/
import Derived.Test.YthkkkldkpdkabaaSesP
import Derived.Test.YthkkkldkpdkabaaQuN
import Derived.Test.YthkkkldkpdkabaaBlt
namespace Go.Proofs.Ythkkkldkpdkabaa

def Bl.eqB (a b : Bl) : Bool := decide (a.n = b.n) && decide (a.node = b.node)
/-- The vote that binds in a slot: its node, its ballot, its value. -/
structure Tl where
  node : Nat
  bal : Bl
  val : List UInt8
/-- What was proposed in a slot, and who accepted it. -/
structure Pz where
  val : List UInt8
  acc : Nat
structure Pp where
  q : Qm
  bal : Bl
  base : Nat
  prom : Nat
  told : List (Nat × Tl)
  top : Nat
  props : List (Nat × Pz)
  pre : Nat

def Pp.new (q : Qm) (b : Bl) (s : Nat) : Pp := ⟨q, b, s, 0, [], 0, [], s - 1⟩
/-- May a node promise with these votes: none below lo, each above the one ahead of it? -/
def mayL (b : Bl) : Nat → List Vt → Bool
  | _, [] => true
  | lo, v :: r => decide (lo ≤ v.slot) && (v.bal.right && (Bl.less v.bal b && (decide (v.val.length ≤ 100) && mayL b (v.slot + 1) r)))
def okV (b : Bl) (lo : Nat) (v : Vt) : Bool := decide (lo ≤ v.slot) && (v.bal.right && (Bl.less v.bal b && decide (v.val.length ≤ 100)))
theorem mayL_cons (b : Bl) (lo : Nat) (v : Vt) (r : List Vt) : mayL b lo (v :: r) = (okV b lo v && mayL b (v.slot + 1) r) := by
  show (decide (lo ≤ v.slot) && (v.bal.right && (Bl.less v.bal b && (decide (v.val.length ≤ 100) && mayL b (v.slot + 1) r)))) = _
  unfold okV
  simp only [Bool.and_assoc]
/-- Does a node's vote go ahead of what binds? -/
def wins (t : Option Tl) (node : Nat) (v : Vt) : Bool :=
  match t with
  | none => true
  | some t => Bl.less t.bal v.bal || (Bl.eqB t.bal v.bal && decide (node < t.node))
def Pp.hear (p : Pp) (node : Nat) (v : Vt) : Pp :=
  if wins (getK p.told v.slot) node v then { p with told := putK v.slot ⟨node, v.bal, v.val⟩ p.told, top := max p.top v.slot } else p
def Pp.hears (p : Pp) (node : Nat) (l : List Vt) : Pp := l.foldl (fun p v => p.hear node v) p
def Pp.isNode (p : Pp) (n : Int) : Bool := decide (0 ≤ n) && decide (n < p.q.nodes)
def Pp.promise (p : Pp) (n : Int) (l : List Vt) : Int × Pp :=
  if p.isNode n = false then (2, p) else if mayL p.bal p.base l = false then (91, p) else if p.prom.testBit n.toNat then (0, p) else
    (0, { p with prom := p.prom ||| 2 ^ n.toNat }.hears n.toNat l)
def Pp.ready (p : Pp) : Bool := p.q.isQ false p.prom
def Pp.must (p : Pp) (s : Nat) : Option (List UInt8) := (getK p.told s).map (·.val)
def Pp.propose (p : Pp) (s : Nat) (own : List UInt8) : Int × Vt × Pp :=
  if p.ready = false then (100, ⟨0, Bl.zero, []⟩, p) else if s < p.base then (2, ⟨0, Bl.zero, []⟩, p) else
    match getK p.props s with
    | some z => (0, ⟨s, p.bal, z.val⟩, p)
    | none => match p.must s with
      | some v => (0, ⟨s, p.bal, v⟩, { p with props := putK s ⟨v, 0⟩ p.props })
      | none => if 100 < own.length then (3, ⟨0, Bl.zero, []⟩, p) else (0, ⟨s, p.bal, own⟩, { p with props := putK s ⟨own, 0⟩ p.props })
def Pp.isChosen (p : Pp) (s : Nat) : Bool :=
  match getK p.props s with
  | none => false
  | some z => p.q.isQ true z.acc
def Pp.climb (p : Pp) : Nat → Nat → Nat
  | 0, x => x
  | f + 1, x => if p.isChosen (x + 1) then p.climb f (x + 1) else x
def Pp.accepted (p : Pp) (n : Int) (s : Nat) : Int × Pp :=
  if p.isNode n = false then (2, p) else match getK p.props s with
    | none => (4, p)
    | some z =>
      let p' := { p with props := putK s ⟨z.val, z.acc ||| 2 ^ n.toNat⟩ p.props }
      (0, { p' with pre := p'.climb (p'.props.length + 1) p'.pre })
def Pp.chosen (p : Pp) (s : Nat) : Option (List UInt8) :=
  match getK p.props s with
  | none => none
  | some z => if p.q.isQ true z.acc then some z.val else none

structure Pp.Ok (p : Pp) : Prop where
  right : p.q.right = 0
  bal : p.bal.right = true
  baln : p.bal.n < 18446744073709551616
  base : 0 < p.base ∧ p.base < 18446744073709551616
  prom : p.prom < 2 ^ p.q.n
  tsrt : SrtK p.told
  told : ∀ e ∈ p.told, p.base ≤ e.1 ∧ e.1 < 18446744073709551616 ∧ e.2.node < p.q.n ∧ e.2.bal.right = true ∧ e.2.bal.n < 18446744073709551616 ∧ e.2.val.length ≤ 100
  top : p.top < 18446744073709551616
  psrt : SrtK p.props
  props : ∀ e ∈ p.props, p.base ≤ e.1 ∧ e.1 < 18446744073709551616 ∧ e.2.acc < 2 ^ p.q.n ∧ e.2.val.length ≤ 100
  pre : p.base ≤ p.pre + 1 ∧ p.pre < 18446744073709551616

theorem Qm.n_le (q : Qm) (h : q.right = 0) : 1 ≤ q.n ∧ q.n ≤ 12 ∧ q.nodes = (q.n : Int) := by
  have := q.right_cases h
  unfold Qm.n
  omega
theorem pow_n (q : Qm) (h : q.right = 0) : 2 ^ q.n ≤ 4096 := by
  have := (q.n_le h).2.1
  exact Nat.pow_le_pow_right (n := 2) (by decide) this
theorem or_lt {a k n : Nat} (h : a < 2 ^ n) (hk : k < n) : a ||| 2 ^ k < 2 ^ n := Nat.or_lt_two_pow h (Nat.pow_lt_pow_right (by decide) hk)
section
variable {β : Type}
theorem getK_ins (k : Nat) (x : Nat × β) : ∀ L : List (Nat × β), (∀ p ∈ L, p.1 ≠ x.1) → getK (insK x L) k = if k = x.1 then some x.2 else getK L k
  | [], _ => by
    unfold insK getK
    by_cases h : k = x.1
    · subst h; simp
    · rw [if_neg h]
      have : (x.1 == k) = false := by simpa using fun e => h e.symm
      simp [this]
  | y :: r, hn => by
    unfold insK
    split
    · unfold getK
      by_cases h : k = x.1
      · subst h; simp
      · rw [if_neg h]
        have : (x.1 == k) = false := by simpa using fun e => h e.symm
        simp [List.find?_cons, this]
    · have ih := getK_ins k x r (fun p hp => hn p (List.mem_cons_of_mem _ hp))
      have hy := hn y (List.mem_cons_self ..)
      unfold getK at *
      simp only [List.find?_cons]
      by_cases h2 : y.1 = k
      · have h3 : ¬ k = x.1 := fun e => hy (h2.trans e)
        have : (y.1 == k) = true := by simpa using h2
        rw [if_neg h3]
        simp [this]
      · have : (y.1 == k) = false := by simpa using h2
        simp only [this]
        exact ih
theorem delK_ne (k : Nat) (L : List (Nat × β)) : ∀ p ∈ delK k L, p.1 ≠ k := fun p hp => by
  unfold delK at hp
  simpa using (List.mem_filter.1 hp).2
theorem getK_del (k j : Nat) : ∀ L : List (Nat × β), getK (delK k L) j = if j = k then none else getK L j
  | [] => by unfold getK delK; simp
  | y :: r => by
    have ih := getK_del k j r
    unfold getK delK at *
    simp only [List.filter_cons]
    by_cases h1 : y.1 = k
    · have e1 : (!(y.1 == k)) = false := by simp [h1]
      rw [e1]
      simp only [Bool.false_eq_true, ↓reduceIte]
      rw [ih]
      by_cases h2 : j = k
      · rw [if_pos h2, if_pos h2]
      · rw [if_neg h2, if_neg h2]
        have : (y.1 == j) = false := by simpa using fun e => h2 (e.symm.trans h1)
        simp [this]
    · have e1 : (!(y.1 == k)) = true := by simp [h1]
      rw [e1]
      simp only [↓reduceIte, List.find?_cons]
      by_cases h2 : y.1 = j
      · have h3 : ¬ j = k := fun e => h1 (h2.trans e)
        have : (y.1 == j) = true := by simpa using h2
        rw [if_neg h3]
        simp [this]
      · have : (y.1 == j) = false := by simpa using h2
        simp only [this]
        exact ih
theorem getK_put (k : Nat) (v : β) (L : List (Nat × β)) (j : Nat) : getK (putK k v L) j = if j = k then some v else getK L j := by
  unfold putK
  rw [getK_ins j (k, v) _ (fun p hp => delK_ne k L p hp)]
  dsimp only
  split
  · rfl
  · rename_i h
    rw [getK_del, if_neg h]
theorem SrtK.put {L : List (Nat × β)} (h : SrtK L) (k : Nat) (v : β) : SrtK (putK k v L) := (h.del k).ins (fun p hp => delK_ne k L p hp)
theorem putK_mem {k : Nat} {v : β} {L : List (Nat × β)} {p : Nat × β} (h : p ∈ putK k v L) : p = (k, v) ∨ p ∈ L ∧ p.1 ≠ k := by
  unfold putK at h
  rcases (insK_mem _ _ _).1 h with h | h
  · exact .inl h
  · exact .inr ⟨(List.mem_filter.1 h).1, delK_ne k L p h⟩
theorem putK_len (k : Nat) (v : β) (L : List (Nat × β)) : (putK k v L).length ≤ L.length + 1 := by
  unfold putK
  rw [insK_len]
  have : (delK k L).length ≤ L.length := List.length_filter_le _ _
  omega
theorem putK_has (k : Nat) (v : β) (L : List (Nat × β)) : (k, v) ∈ putK k v L := (insK_mem _ _ _).2 (.inl rfl)
theorem getK_of_mem {L : List (Nat × β)} (hs : SrtK L) {p : Nat × β} (h : p ∈ L) : getK L p.1 = some p.2 := by
  induction L with
  | nil => cases h
  | cons y r ih =>
    unfold SrtK at hs
    rw [List.pairwise_cons] at hs
    unfold getK at *
    simp only [List.find?_cons]
    rcases List.mem_cons.1 h with rfl | h
    · simp
    · have := hs.1 p h
      have e : (y.1 == p.1) = false := by simpa using (by omega : ¬ y.1 = p.1)
      simp only [e]
      exact ih hs.2 h
theorem SrtK.uniq {L : List (Nat × β)} (hs : SrtK L) {p q : Nat × β} (hp : p ∈ L) (hq : q ∈ L) (h : p.1 = q.1) : p = q := by
  have h1 := getK_of_mem hs hp
  have h2 := getK_of_mem hs hq
  rw [h, h2] at h1
  injection h1 with h1
  exact Prod.ext h h1.symm
end

theorem Pp.Ok.new {q : Qm} {b : Bl} {s : Nat} (hq : q.right = 0) (hb : b.right = true) (hn : b.n < 18446744073709551616) (h0 : 0 < s) (h1 : s < 18446744073709551616) : (Pp.new q b s).Ok :=
  ⟨hq, hb, hn, ⟨h0, h1⟩, Nat.two_pow_pos _, List.Pairwise.nil, fun _ h => (List.not_mem_nil h).elim, (by show (0 : Nat) < _; omega), List.Pairwise.nil, fun _ h => (List.not_mem_nil h).elim, ⟨(by show s ≤ s - 1 + 1; omega), (by show s - 1 < _; omega)⟩⟩
theorem Pp.Ok.hear {p : Pp} (h : p.Ok) {node : Nat} {v : Vt} (hn : node < p.q.n) (hs : p.base ≤ v.slot ∧ v.slot < 18446744073709551616) (hb : v.bal.right = true) (hbn : v.bal.n < 18446744073709551616) (hl : v.val.length ≤ 100) : (p.hear node v).Ok := by
  unfold Pp.hear
  split
  · refine ⟨h.right, h.bal, h.baln, h.base, h.prom, h.tsrt.put _ _, fun e he => ?_, by show max _ _ < _; have := h.top; omega, h.psrt, h.props, h.pre⟩
    rcases putK_mem he with rfl | ⟨he, _⟩
    · exact ⟨hs.1, hs.2, hn, hb, hbn, hl⟩
    · exact h.told e he
  · exact h
theorem Pp.hear_same (p : Pp) (node : Nat) (v : Vt) : (p.hear node v).q = p.q ∧ (p.hear node v).bal = p.bal ∧ (p.hear node v).base = p.base ∧ (p.hear node v).prom = p.prom ∧ (p.hear node v).props = p.props ∧ (p.hear node v).pre = p.pre := by
  unfold Pp.hear
  split <;> exact ⟨rfl, rfl, rfl, rfl, rfl, rfl⟩
theorem Pp.hears_same (node : Nat) : ∀ (l : List Vt) (p : Pp), (p.hears node l).q = p.q ∧ (p.hears node l).bal = p.bal ∧ (p.hears node l).base = p.base ∧ (p.hears node l).prom = p.prom ∧ (p.hears node l).props = p.props ∧ (p.hears node l).pre = p.pre
  | [], _ => ⟨rfl, rfl, rfl, rfl, rfl, rfl⟩
  | v :: r, p => by
    have h1 := Pp.hears_same node r (p.hear node v)
    have h2 := p.hear_same node v
    have e : p.hears node (v :: r) = (p.hear node v).hears node r := rfl
    rw [e]
    exact ⟨h1.1.trans h2.1, h1.2.1.trans h2.2.1, h1.2.2.1.trans h2.2.2.1, h1.2.2.2.1.trans h2.2.2.2.1, h1.2.2.2.2.1.trans h2.2.2.2.2.1, h1.2.2.2.2.2.trans h2.2.2.2.2.2⟩
/-- What may be promised: each vote of it. -/
theorem mayL_each (b : Bl) : ∀ (l : List Vt) (lo : Nat), mayL b lo l = true → ∀ v ∈ l, lo ≤ v.slot ∧ v.bal.right = true ∧ Bl.less v.bal b = true ∧ v.val.length ≤ 100
  | [], _, _ => fun v h => by cases h
  | x :: r, lo, h => fun v hv => by
    rw [mayL_cons] at h
    unfold okV at h
    simp only [Bool.and_eq_true, decide_eq_true_eq] at h
    obtain ⟨⟨h1, h2, h3, h4⟩, h5⟩ := h
    rcases List.mem_cons.1 hv with rfl | hv
    · exact ⟨h1, h2, h3, h4⟩
    · have := mayL_each b r _ h5 v hv
      exact ⟨by omega, this.2⟩
theorem mayL_srt (b : Bl) : ∀ (l : List Vt) (lo : Nat), mayL b lo l = true → l.Pairwise fun u v => u.slot < v.slot
  | [], _, _ => List.Pairwise.nil
  | x :: r, lo, h => by
    rw [mayL_cons] at h
    simp only [Bool.and_eq_true] at h
    refine List.Pairwise.cons (fun v hv => ?_) (mayL_srt b r _ h.2)
    have := (mayL_each b r _ h.2 v hv).1
    omega
def Vt.Num (v : Vt) : Prop := v.slot < 18446744073709551616 ∧ v.bal.n < 18446744073709551616
theorem Pp.Ok.hears {node : Nat} : ∀ (l : List Vt) {p : Pp}, p.Ok → node < p.q.n → (∀ v ∈ l, p.base ≤ v.slot ∧ v.bal.right = true ∧ v.val.length ≤ 100 ∧ v.Num) → (p.hears node l).Ok
  | [], _, h, _, _ => h
  | v :: r, p, h, hn, hv => by
    have e : p.hears node (v :: r) = (p.hear node v).hears node r := rfl
    rw [e]
    have h0 := hv v (List.mem_cons_self ..)
    have hs := p.hear_same node v
    refine Pp.Ok.hears r (h.hear hn ⟨h0.1, h0.2.2.2.1⟩ h0.2.1 h0.2.2.2.2 h0.2.2.1) (by rw [hs.1]; exact hn) (fun u hu => ?_)
    rw [hs.2.2.1]
    exact hv u (List.mem_cons_of_mem _ hu)
theorem Pp.isNode_iff {p : Pp} (h : p.q.right = 0) (n : Int) : p.isNode n = true ↔ 0 ≤ n ∧ n.toNat < p.q.n := by
  have := (p.q.n_le h).2.2
  unfold Pp.isNode
  simp only [Bool.and_eq_true, decide_eq_true_eq]
  omega
theorem Pp.Ok.promise {p : Pp} (h : p.Ok) (n : Int) (l : List Vt) (hl : ∀ v ∈ l, v.Num) : (p.promise n l).2.Ok := by
  unfold Pp.promise
  split
  · exact h
  split
  · exact h
  split
  · exact h
  rename_i h1 h2 _
  have hi := (Pp.isNode_iff h.right n).1 (by simpa using h1)
  have hm : mayL p.bal p.base l = true := by simpa using h2
  refine Pp.Ok.hears l (p := { p with prom := p.prom ||| 2 ^ n.toNat }) ⟨h.right, h.bal, h.baln, h.base, or_lt h.prom hi.2, h.tsrt, h.told, h.top, h.psrt, h.props, h.pre⟩ hi.2 (fun v hv => ?_)
  have := mayL_each _ _ _ hm v hv
  exact ⟨this.1, this.2.1, this.2.2.2, hl v hv⟩
theorem Pp.Ok.putp {p : Pp} (h : p.Ok) {s : Nat} {z : Pz} (hs : p.base ≤ s ∧ s < 18446744073709551616) (hz : z.acc < 2 ^ p.q.n ∧ z.val.length ≤ 100) : Pp.Ok { p with props := putK s z p.props } :=
  ⟨h.right, h.bal, h.baln, h.base, h.prom, h.tsrt, h.told, h.top, h.psrt.put _ _, fun e he => by
    rcases putK_mem he with rfl | ⟨he, _⟩
    · exact ⟨hs.1, hs.2, hz⟩
    · exact h.props e he, h.pre⟩
theorem Pp.must_len {p : Pp} (h : p.Ok) {s : Nat} {v : List UInt8} (hm : p.must s = some v) : v.length ≤ 100 := by
  unfold Pp.must at hm
  obtain ⟨t, ht, rfl⟩ := Option.map_eq_some_iff.1 hm
  exact (h.told _ (getK_mem ht)).2.2.2.2.2
theorem Pp.Ok.propose {p : Pp} (h : p.Ok) {s : Nat} (hs : s < 18446744073709551616) (own : List UInt8) : (p.propose s own).2.2.Ok := by
  unfold Pp.propose
  split
  · exact h
  split
  · exact h
  rename_i h2
  split
  · exact h
  split
  · rename_i v hm
    exact h.putp ⟨by omega, hs⟩ ⟨Nat.two_pow_pos _, p.must_len h hm⟩
  · split
    · exact h
    · exact h.putp ⟨by omega, hs⟩ ⟨Nat.two_pow_pos _, by show own.length ≤ 100; omega⟩
theorem Pp.isChosen_lt {p : Pp} (h : p.Ok) {s : Nat} (hc : p.isChosen s = true) : p.base ≤ s ∧ s < 18446744073709551616 ∧ ∃ z, (s, z) ∈ p.props := by
  unfold Pp.isChosen at hc
  split at hc
  · cases hc
  · rename_i z hz
    have := h.props _ (getK_mem hz)
    exact ⟨this.1, this.2.1, z, getK_mem hz⟩
/-- How many more slots there are above x. -/
def above (L : List (Nat × Pz)) (x : Nat) : Nat := (L.filter fun e => decide (x < e.1)).length
theorem above_le (L : List (Nat × Pz)) (x : Nat) : above L x ≤ L.length := List.length_filter_le _ _
theorem above_lt {L : List (Nat × Pz)} {x : Nat} {z : Pz} (h : (x + 1, z) ∈ L) : above L (x + 1) < above L x := by
  unfold above
  induction L with
  | nil => cases h
  | cons y r ih =>
    have hle : ∀ r : List (Nat × Pz), (r.filter fun e => decide (x + 1 < e.1)).length ≤ (r.filter fun e => decide (x < e.1)).length := fun r => by
      induction r with
      | nil => simp
      | cons e r ih =>
        simp only [List.filter_cons]
        by_cases h1 : x + 1 < e.1
        · rw [decide_eq_true h1, decide_eq_true (show x < e.1 by omega)]; simp; exact ih
        · rw [decide_eq_false h1]
          by_cases h2 : x < e.1
          · rw [decide_eq_true h2]; simp; omega
          · rw [decide_eq_false h2]; simpa using ih
    simp only [List.filter_cons]
    rcases List.mem_cons.1 h with rfl | h
    · rw [decide_eq_false (show ¬ x + 1 < x + 1 by omega), decide_eq_true (show x < x + 1 by omega)]
      simp
      have := hle r
      omega
    · have := ih h
      by_cases h1 : x + 1 < y.1
      · rw [decide_eq_true h1, decide_eq_true (show x < y.1 by omega)]; simp; exact this
      · rw [decide_eq_false h1]
        by_cases h2 : x < y.1
        · rw [decide_eq_true h2]; simp; omega
        · rw [decide_eq_false h2]; simpa using this
theorem Pp.climb_spec {p : Pp} (h : p.Ok) : ∀ (f x : Nat), above p.props x < f → x ≤ p.climb f x ∧ p.isChosen (p.climb f x + 1) = false ∧ ∀ s, x < s → s ≤ p.climb f x → p.isChosen s = true
  | 0, x, hf => by omega
  | f + 1, x, hf => by
    unfold Pp.climb
    split
    · rename_i hc
      obtain ⟨_, _, z, hz⟩ := p.isChosen_lt h hc
      have := above_lt hz
      obtain ⟨h1, h2, h3⟩ := Pp.climb_spec h f (x + 1) (by omega)
      refine ⟨by omega, h2, fun s hs hs2 => ?_⟩
      by_cases e : s = x + 1
      · rw [e]; exact hc
      · exact h3 s (by omega) hs2
    · rename_i hc
      exact ⟨Nat.le_refl _, by simpa using hc, fun s h1 h2 => by omega⟩
theorem Pp.climb_eq {p : Pp} (h : p.Ok) {f x y : Nat} (hf : above p.props x < f) (hxy : x ≤ y) (hc : ∀ s, x < s → s ≤ y → p.isChosen s = true) (he : p.isChosen (y + 1) = false) : p.climb f x = y := by
  obtain ⟨h1, h2, h3⟩ := Pp.climb_spec h f x hf
  by_cases hlt : p.climb f x < y
  · have := hc (p.climb f x + 1) (by omega) (by omega)
    rw [h2] at this
    cases this
  · by_cases hgt : y < p.climb f x
    · have := h3 (y + 1) (by omega) (by omega)
      rw [he] at this
      cases this
    · omega
theorem Pp.climb_lt {p : Pp} (h : p.Ok) (f : Nat) : p.climb f p.pre < 18446744073709551616 ∧ p.base ≤ p.climb f p.pre + 1 := by
  have key : ∀ (f x : Nat), x < 18446744073709551616 → p.base ≤ x + 1 → p.climb f x < 18446744073709551616 ∧ p.base ≤ p.climb f x + 1 := by
    intro f
    induction f with
    | zero => exact fun x h1 h2 => ⟨h1, h2⟩
    | succ f ih =>
      intro x h1 h2
      unfold Pp.climb
      split
      · rename_i hc
        have := p.isChosen_lt h hc
        exact ih (x + 1) this.2.1 (by omega)
      · exact ⟨h1, h2⟩
  exact key f _ h.pre.2 h.pre.1
theorem Pp.Ok.accepted {p : Pp} (h : p.Ok) (n : Int) (s : Nat) : (p.accepted n s).2.Ok := by
  unfold Pp.accepted
  split
  · exact h
  rename_i h1
  have hi := (Pp.isNode_iff h.right n).1 (by simpa using h1)
  split
  · exact h
  rename_i z hz
  have hm := h.props _ (getK_mem hz)
  have h2 : Pp.Ok { p with props := putK s ⟨z.val, z.acc ||| 2 ^ n.toNat⟩ p.props } := h.putp ⟨hm.1, hm.2.1⟩ ⟨or_lt hm.2.2.1 hi.2, hm.2.2.2⟩
  have h3 := Pp.climb_lt h2 ((putK s ⟨z.val, z.acc ||| 2 ^ n.toNat⟩ p.props).length + 1)
  exact ⟨h2.right, h2.bal, h2.baln, h2.base, h2.prom, h2.tsrt, h2.told, h2.top, h2.psrt, h2.props, h3.2, h3.1⟩
theorem Pp.promise_same (p : Pp) (n : Int) (l : List Vt) : (p.promise n l).2.q = p.q ∧ (p.promise n l).2.bal = p.bal ∧ (p.promise n l).2.base = p.base ∧ (p.promise n l).2.props = p.props ∧ (p.promise n l).2.pre = p.pre := by
  unfold Pp.promise
  split
  · exact ⟨rfl, rfl, rfl, rfl, rfl⟩
  split
  · exact ⟨rfl, rfl, rfl, rfl, rfl⟩
  split
  · exact ⟨rfl, rfl, rfl, rfl, rfl⟩
  have := Pp.hears_same n.toNat l { p with prom := p.prom ||| 2 ^ n.toNat }
  exact ⟨this.1, this.2.1, this.2.2.1, this.2.2.2.2.1, this.2.2.2.2.2⟩
end Go.Proofs.Ythkkkldkpdkabaa
