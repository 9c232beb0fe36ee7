/- Of the proofs of layer 4, merged: ProP, SynP. -/
import Derived.Test.YtjapmolmgfaocaaM1SesP
import Derived.Test.YtjapmolmgfaocaaMQuP
import Derived.Test.YtjapmolmgfaocaaM1Blt

/- Layer 10, plain: a proposer: what it was told, what it proposed, what is chosen. No program is named here. -/
namespace Go.Proofs.Ytjapmolmgfaocaa

def Bl.eqB (a b : Bl) : Bool := decide (a.n = b.n) && decide (a.node = b.node)
/-- The vote that binds in a slot: its node, its ballot, its value. -/
structure Tl where
  node : Nat
  bal : Bl
  val : List UInt8
/-- What was proposed in a slot, and who accepted it. -/
structure Pz where
  val : List UInt8
  acc : Nat
structure Pp where
  q : Qm
  bal : Bl
  base : Nat
  prom : Nat
  told : List (Nat × Tl)
  top : Nat
  props : List (Nat × Pz)
  pre : Nat

def Pp.new (q : Qm) (b : Bl) (s : Nat) : Pp := ⟨q, b, s, 0, [], 0, [], s - 1⟩
/-- May a node promise with these votes: none below lo, each above the one ahead of it? -/
def mayL (b : Bl) : Nat → List Vt → Bool
  | _, [] => true
  | lo, v :: r => decide (lo ≤ v.slot) && (v.bal.right && (Bl.less v.bal b && (decide (v.val.length ≤ 100) && mayL b (v.slot + 1) r)))
def okV (b : Bl) (lo : Nat) (v : Vt) : Bool := decide (lo ≤ v.slot) && (v.bal.right && (Bl.less v.bal b && decide (v.val.length ≤ 100)))
theorem mayL_cons (b : Bl) (lo : Nat) (v : Vt) (r : List Vt) : mayL b lo (v :: r) = (okV b lo v && mayL b (v.slot + 1) r) := by
  show (decide (lo ≤ v.slot) && (v.bal.right && (Bl.less v.bal b && (decide (v.val.length ≤ 100) && mayL b (v.slot + 1) r)))) = _
  unfold okV
  simp only [Bool.and_assoc]
/-- Does a node's vote go ahead of what binds? -/
def wins (t : Option Tl) (node : Nat) (v : Vt) : Bool :=
  match t with
  | none => true
  | some t => Bl.less t.bal v.bal || (Bl.eqB t.bal v.bal && decide (node < t.node))
def Pp.hear (p : Pp) (node : Nat) (v : Vt) : Pp :=
  if wins (getK p.told v.slot) node v then { p with told := putK v.slot ⟨node, v.bal, v.val⟩ p.told, top := max p.top v.slot } else p
def Pp.hears (p : Pp) (node : Nat) (l : List Vt) : Pp := l.foldl (fun p v => p.hear node v) p
def Pp.isNode (p : Pp) (n : Int) : Bool := decide (0 ≤ n) && decide (n < p.q.nodes)
def Pp.promise (p : Pp) (n : Int) (l : List Vt) : Int × Pp :=
  if p.isNode n = false then (2, p) else if mayL p.bal p.base l = false then (91, p) else if p.prom.testBit n.toNat then (0, p) else
    (0, { p with prom := p.prom ||| 2 ^ n.toNat }.hears n.toNat l)
def Pp.ready (p : Pp) : Bool := p.q.isQ false p.prom
def Pp.must (p : Pp) (s : Nat) : Option (List UInt8) := (getK p.told s).map (·.val)
def Pp.propose (p : Pp) (s : Nat) (own : List UInt8) : Int × Vt × Pp :=
  if p.ready = false then (100, ⟨0, Bl.zero, []⟩, p) else if s < p.base then (2, ⟨0, Bl.zero, []⟩, p) else
    match getK p.props s with
    | some z => (0, ⟨s, p.bal, z.val⟩, p)
    | none => match p.must s with
      | some v => (0, ⟨s, p.bal, v⟩, { p with props := putK s ⟨v, 0⟩ p.props })
      | none => if 100 < own.length then (3, ⟨0, Bl.zero, []⟩, p) else (0, ⟨s, p.bal, own⟩, { p with props := putK s ⟨own, 0⟩ p.props })
def Pp.isChosen (p : Pp) (s : Nat) : Bool :=
  match getK p.props s with
  | none => false
  | some z => p.q.isQ true z.acc
def Pp.climb (p : Pp) : Nat → Nat → Nat
  | 0, x => x
  | f + 1, x => if p.isChosen (x + 1) then p.climb f (x + 1) else x
def Pp.accepted (p : Pp) (n : Int) (s : Nat) : Int × Pp :=
  if p.isNode n = false then (2, p) else match getK p.props s with
    | none => (4, p)
    | some z =>
      let p' := { p with props := putK s ⟨z.val, z.acc ||| 2 ^ n.toNat⟩ p.props }
      (0, { p' with pre := p'.climb (p'.props.length + 1) p'.pre })
def Pp.chosen (p : Pp) (s : Nat) : Option (List UInt8) :=
  match getK p.props s with
  | none => none
  | some z => if p.q.isQ true z.acc then some z.val else none

structure Pp.Ok (p : Pp) : Prop where
  right : p.q.right = 0
  bal : p.bal.right = true
  baln : p.bal.n < 18446744073709551616
  base : 0 < p.base ∧ p.base < 18446744073709551616
  prom : p.prom < 2 ^ p.q.n
  tsrt : SrtK p.told
  told : ∀ e ∈ p.told, p.base ≤ e.1 ∧ e.1 < 18446744073709551616 ∧ e.2.node < p.q.n ∧ e.2.bal.right = true ∧ e.2.bal.n < 18446744073709551616 ∧ e.2.val.length ≤ 100
  top : p.top < 18446744073709551616
  psrt : SrtK p.props
  props : ∀ e ∈ p.props, p.base ≤ e.1 ∧ e.1 < 18446744073709551616 ∧ e.2.acc < 2 ^ p.q.n ∧ e.2.val.length ≤ 100
  pre : p.base ≤ p.pre + 1 ∧ p.pre < 18446744073709551616

theorem Qm.n_le (q : Qm) (h : q.right = 0) : 1 ≤ q.n ∧ q.n ≤ 12 ∧ q.nodes = (q.n : Int) := by
  have := q.right_cases h
  unfold Qm.n
  omega
theorem pow_n (q : Qm) (h : q.right = 0) : 2 ^ q.n ≤ 4096 := by
  have := (q.n_le h).2.1
  exact Nat.pow_le_pow_right (n := 2) (by decide) this
theorem or_lt {a k n : Nat} (h : a < 2 ^ n) (hk : k < n) : a ||| 2 ^ k < 2 ^ n := Nat.or_lt_two_pow h (Nat.pow_lt_pow_right (by decide) hk)
section
variable {β : Type}
theorem getK_ins (k : Nat) (x : Nat × β) : ∀ L : List (Nat × β), (∀ p ∈ L, p.1 ≠ x.1) → getK (insK x L) k = if k = x.1 then some x.2 else getK L k
  | [], _ => by
    unfold insK getK
    by_cases h : k = x.1
    · subst h; simp
    · rw [if_neg h]
      have : (x.1 == k) = false := by simpa using fun e => h e.symm
      simp [this]
  | y :: r, hn => by
    unfold insK
    split
    · unfold getK
      by_cases h : k = x.1
      · subst h; simp
      · rw [if_neg h]
        have : (x.1 == k) = false := by simpa using fun e => h e.symm
        simp [List.find?_cons, this]
    · have ih := getK_ins k x r (fun p hp => hn p (List.mem_cons_of_mem _ hp))
      have hy := hn y (List.mem_cons_self ..)
      unfold getK at *
      simp only [List.find?_cons]
      by_cases h2 : y.1 = k
      · have h3 : ¬ k = x.1 := fun e => hy (h2.trans e)
        have : (y.1 == k) = true := by simpa using h2
        rw [if_neg h3]
        simp [this]
      · have : (y.1 == k) = false := by simpa using h2
        simp only [this]
        exact ih
theorem delK_ne (k : Nat) (L : List (Nat × β)) : ∀ p ∈ delK k L, p.1 ≠ k := fun p hp => by
  unfold delK at hp
  simpa using (List.mem_filter.1 hp).2
theorem getK_del (k j : Nat) : ∀ L : List (Nat × β), getK (delK k L) j = if j = k then none else getK L j
  | [] => by unfold getK delK; simp
  | y :: r => by
    have ih := getK_del k j r
    unfold getK delK at *
    simp only [List.filter_cons]
    by_cases h1 : y.1 = k
    · have e1 : (!(y.1 == k)) = false := by simp [h1]
      rw [e1]
      simp only [Bool.false_eq_true, ↓reduceIte]
      rw [ih]
      by_cases h2 : j = k
      · rw [if_pos h2, if_pos h2]
      · rw [if_neg h2, if_neg h2]
        have : (y.1 == j) = false := by simpa using fun e => h2 (e.symm.trans h1)
        simp [this]
    · have e1 : (!(y.1 == k)) = true := by simp [h1]
      rw [e1]
      simp only [↓reduceIte, List.find?_cons]
      by_cases h2 : y.1 = j
      · have h3 : ¬ j = k := fun e => h1 (h2.trans e)
        have : (y.1 == j) = true := by simpa using h2
        rw [if_neg h3]
        simp [this]
      · have : (y.1 == j) = false := by simpa using h2
        simp only [this]
        exact ih
theorem getK_put (k : Nat) (v : β) (L : List (Nat × β)) (j : Nat) : getK (putK k v L) j = if j = k then some v else getK L j := by
  unfold putK
  rw [getK_ins j (k, v) _ (fun p hp => delK_ne k L p hp)]
  dsimp only
  split
  · rfl
  · rename_i h
    rw [getK_del, if_neg h]
theorem SrtK.put {L : List (Nat × β)} (h : SrtK L) (k : Nat) (v : β) : SrtK (putK k v L) := (h.del k).ins (fun p hp => delK_ne k L p hp)
theorem putK_mem {k : Nat} {v : β} {L : List (Nat × β)} {p : Nat × β} (h : p ∈ putK k v L) : p = (k, v) ∨ p ∈ L ∧ p.1 ≠ k := by
  unfold putK at h
  rcases (insK_mem _ _ _).1 h with h | h
  · exact .inl h
  · exact .inr ⟨(List.mem_filter.1 h).1, delK_ne k L p h⟩
theorem putK_len (k : Nat) (v : β) (L : List (Nat × β)) : (putK k v L).length ≤ L.length + 1 := by
  unfold putK
  rw [insK_len]
  have : (delK k L).length ≤ L.length := List.length_filter_le _ _
  omega
theorem putK_has (k : Nat) (v : β) (L : List (Nat × β)) : (k, v) ∈ putK k v L := (insK_mem _ _ _).2 (.inl rfl)
theorem getK_of_mem {L : List (Nat × β)} (hs : SrtK L) {p : Nat × β} (h : p ∈ L) : getK L p.1 = some p.2 := by
  induction L with
  | nil => cases h
  | cons y r ih =>
    unfold SrtK at hs
    rw [List.pairwise_cons] at hs
    unfold getK at *
    simp only [List.find?_cons]
    rcases List.mem_cons.1 h with rfl | h
    · simp
    · have := hs.1 p h
      have e : (y.1 == p.1) = false := by simpa using (by omega : ¬ y.1 = p.1)
      simp only [e]
      exact ih hs.2 h
theorem SrtK.uniq {L : List (Nat × β)} (hs : SrtK L) {p q : Nat × β} (hp : p ∈ L) (hq : q ∈ L) (h : p.1 = q.1) : p = q := by
  have h1 := getK_of_mem hs hp
  have h2 := getK_of_mem hs hq
  rw [h, h2] at h1
  injection h1 with h1
  exact Prod.ext h h1.symm
end

theorem Pp.Ok.new {q : Qm} {b : Bl} {s : Nat} (hq : q.right = 0) (hb : b.right = true) (hn : b.n < 18446744073709551616) (h0 : 0 < s) (h1 : s < 18446744073709551616) : (Pp.new q b s).Ok :=
  ⟨hq, hb, hn, ⟨h0, h1⟩, Nat.two_pow_pos _, List.Pairwise.nil, fun _ h => (List.not_mem_nil h).elim, (by show (0 : Nat) < _; omega), List.Pairwise.nil, fun _ h => (List.not_mem_nil h).elim, ⟨(by show s ≤ s - 1 + 1; omega), (by show s - 1 < _; omega)⟩⟩
theorem Pp.Ok.hear {p : Pp} (h : p.Ok) {node : Nat} {v : Vt} (hn : node < p.q.n) (hs : p.base ≤ v.slot ∧ v.slot < 18446744073709551616) (hb : v.bal.right = true) (hbn : v.bal.n < 18446744073709551616) (hl : v.val.length ≤ 100) : (p.hear node v).Ok := by
  unfold Pp.hear
  split
  · refine ⟨h.right, h.bal, h.baln, h.base, h.prom, h.tsrt.put _ _, fun e he => ?_, by show max _ _ < _; have := h.top; omega, h.psrt, h.props, h.pre⟩
    rcases putK_mem he with rfl | ⟨he, _⟩
    · exact ⟨hs.1, hs.2, hn, hb, hbn, hl⟩
    · exact h.told e he
  · exact h
theorem Pp.hear_same (p : Pp) (node : Nat) (v : Vt) : (p.hear node v).q = p.q ∧ (p.hear node v).bal = p.bal ∧ (p.hear node v).base = p.base ∧ (p.hear node v).prom = p.prom ∧ (p.hear node v).props = p.props ∧ (p.hear node v).pre = p.pre := by
  unfold Pp.hear
  split <;> exact ⟨rfl, rfl, rfl, rfl, rfl, rfl⟩
theorem Pp.hears_same (node : Nat) : ∀ (l : List Vt) (p : Pp), (p.hears node l).q = p.q ∧ (p.hears node l).bal = p.bal ∧ (p.hears node l).base = p.base ∧ (p.hears node l).prom = p.prom ∧ (p.hears node l).props = p.props ∧ (p.hears node l).pre = p.pre
  | [], _ => ⟨rfl, rfl, rfl, rfl, rfl, rfl⟩
  | v :: r, p => by
    have h1 := Pp.hears_same node r (p.hear node v)
    have h2 := p.hear_same node v
    have e : p.hears node (v :: r) = (p.hear node v).hears node r := rfl
    rw [e]
    exact ⟨h1.1.trans h2.1, h1.2.1.trans h2.2.1, h1.2.2.1.trans h2.2.2.1, h1.2.2.2.1.trans h2.2.2.2.1, h1.2.2.2.2.1.trans h2.2.2.2.2.1, h1.2.2.2.2.2.trans h2.2.2.2.2.2⟩
/-- What may be promised: each vote of it. -/
theorem mayL_each (b : Bl) : ∀ (l : List Vt) (lo : Nat), mayL b lo l = true → ∀ v ∈ l, lo ≤ v.slot ∧ v.bal.right = true ∧ Bl.less v.bal b = true ∧ v.val.length ≤ 100
  | [], _, _ => fun v h => by cases h
  | x :: r, lo, h => fun v hv => by
    rw [mayL_cons] at h
    unfold okV at h
    simp only [Bool.and_eq_true, decide_eq_true_eq] at h
    obtain ⟨⟨h1, h2, h3, h4⟩, h5⟩ := h
    rcases List.mem_cons.1 hv with rfl | hv
    · exact ⟨h1, h2, h3, h4⟩
    · have := mayL_each b r _ h5 v hv
      exact ⟨by omega, this.2⟩
theorem mayL_srt (b : Bl) : ∀ (l : List Vt) (lo : Nat), mayL b lo l = true → l.Pairwise fun u v => u.slot < v.slot
  | [], _, _ => List.Pairwise.nil
  | x :: r, lo, h => by
    rw [mayL_cons] at h
    simp only [Bool.and_eq_true] at h
    refine List.Pairwise.cons (fun v hv => ?_) (mayL_srt b r _ h.2)
    have := (mayL_each b r _ h.2 v hv).1
    omega
def Vt.Num (v : Vt) : Prop := v.slot < 18446744073709551616 ∧ v.bal.n < 18446744073709551616
theorem Pp.Ok.hears {node : Nat} : ∀ (l : List Vt) {p : Pp}, p.Ok → node < p.q.n → (∀ v ∈ l, p.base ≤ v.slot ∧ v.bal.right = true ∧ v.val.length ≤ 100 ∧ v.Num) → (p.hears node l).Ok
  | [], _, h, _, _ => h
  | v :: r, p, h, hn, hv => by
    have e : p.hears node (v :: r) = (p.hear node v).hears node r := rfl
    rw [e]
    have h0 := hv v (List.mem_cons_self ..)
    have hs := p.hear_same node v
    refine Pp.Ok.hears r (h.hear hn ⟨h0.1, h0.2.2.2.1⟩ h0.2.1 h0.2.2.2.2 h0.2.2.1) (by rw [hs.1]; exact hn) (fun u hu => ?_)
    rw [hs.2.2.1]
    exact hv u (List.mem_cons_of_mem _ hu)
theorem Pp.isNode_iff {p : Pp} (h : p.q.right = 0) (n : Int) : p.isNode n = true ↔ 0 ≤ n ∧ n.toNat < p.q.n := by
  have := (p.q.n_le h).2.2
  unfold Pp.isNode
  simp only [Bool.and_eq_true, decide_eq_true_eq]
  omega
theorem Pp.Ok.promise {p : Pp} (h : p.Ok) (n : Int) (l : List Vt) (hl : ∀ v ∈ l, v.Num) : (p.promise n l).2.Ok := by
  unfold Pp.promise
  split
  · exact h
  split
  · exact h
  split
  · exact h
  rename_i h1 h2 _
  have hi := (Pp.isNode_iff h.right n).1 (by simpa using h1)
  have hm : mayL p.bal p.base l = true := by simpa using h2
  refine Pp.Ok.hears l (p := { p with prom := p.prom ||| 2 ^ n.toNat }) ⟨h.right, h.bal, h.baln, h.base, or_lt h.prom hi.2, h.tsrt, h.told, h.top, h.psrt, h.props, h.pre⟩ hi.2 (fun v hv => ?_)
  have := mayL_each _ _ _ hm v hv
  exact ⟨this.1, this.2.1, this.2.2.2, hl v hv⟩
theorem Pp.Ok.putp {p : Pp} (h : p.Ok) {s : Nat} {z : Pz} (hs : p.base ≤ s ∧ s < 18446744073709551616) (hz : z.acc < 2 ^ p.q.n ∧ z.val.length ≤ 100) : Pp.Ok { p with props := putK s z p.props } :=
  ⟨h.right, h.bal, h.baln, h.base, h.prom, h.tsrt, h.told, h.top, h.psrt.put _ _, fun e he => by
    rcases putK_mem he with rfl | ⟨he, _⟩
    · exact ⟨hs.1, hs.2, hz⟩
    · exact h.props e he, h.pre⟩
theorem Pp.must_len {p : Pp} (h : p.Ok) {s : Nat} {v : List UInt8} (hm : p.must s = some v) : v.length ≤ 100 := by
  unfold Pp.must at hm
  obtain ⟨t, ht, rfl⟩ := Option.map_eq_some_iff.1 hm
  exact (h.told _ (getK_mem ht)).2.2.2.2.2
theorem Pp.Ok.propose {p : Pp} (h : p.Ok) {s : Nat} (hs : s < 18446744073709551616) (own : List UInt8) : (p.propose s own).2.2.Ok := by
  unfold Pp.propose
  split
  · exact h
  split
  · exact h
  rename_i h2
  split
  · exact h
  split
  · rename_i v hm
    exact h.putp ⟨by omega, hs⟩ ⟨Nat.two_pow_pos _, p.must_len h hm⟩
  · split
    · exact h
    · exact h.putp ⟨by omega, hs⟩ ⟨Nat.two_pow_pos _, by show own.length ≤ 100; omega⟩
theorem Pp.isChosen_lt {p : Pp} (h : p.Ok) {s : Nat} (hc : p.isChosen s = true) : p.base ≤ s ∧ s < 18446744073709551616 ∧ ∃ z, (s, z) ∈ p.props := by
  unfold Pp.isChosen at hc
  split at hc
  · cases hc
  · rename_i z hz
    have := h.props _ (getK_mem hz)
    exact ⟨this.1, this.2.1, z, getK_mem hz⟩
/-- How many more slots there are above x. -/
def above (L : List (Nat × Pz)) (x : Nat) : Nat := (L.filter fun e => decide (x < e.1)).length
theorem above_le (L : List (Nat × Pz)) (x : Nat) : above L x ≤ L.length := List.length_filter_le _ _
theorem above_lt {L : List (Nat × Pz)} {x : Nat} {z : Pz} (h : (x + 1, z) ∈ L) : above L (x + 1) < above L x := by
  unfold above
  induction L with
  | nil => cases h
  | cons y r ih =>
    have hle : ∀ r : List (Nat × Pz), (r.filter fun e => decide (x + 1 < e.1)).length ≤ (r.filter fun e => decide (x < e.1)).length := fun r => by
      induction r with
      | nil => simp
      | cons e r ih =>
        simp only [List.filter_cons]
        by_cases h1 : x + 1 < e.1
        · rw [decide_eq_true h1, decide_eq_true (show x < e.1 by omega)]; simp; exact ih
        · rw [decide_eq_false h1]
          by_cases h2 : x < e.1
          · rw [decide_eq_true h2]; simp; omega
          · rw [decide_eq_false h2]; simpa using ih
    simp only [List.filter_cons]
    rcases List.mem_cons.1 h with rfl | h
    · rw [decide_eq_false (show ¬ x + 1 < x + 1 by omega), decide_eq_true (show x < x + 1 by omega)]
      simp
      have := hle r
      omega
    · have := ih h
      by_cases h1 : x + 1 < y.1
      · rw [decide_eq_true h1, decide_eq_true (show x < y.1 by omega)]; simp; exact this
      · rw [decide_eq_false h1]
        by_cases h2 : x < y.1
        · rw [decide_eq_true h2]; simp; omega
        · rw [decide_eq_false h2]; simpa using this
theorem Pp.climb_spec {p : Pp} (h : p.Ok) : ∀ (f x : Nat), above p.props x < f → x ≤ p.climb f x ∧ p.isChosen (p.climb f x + 1) = false ∧ ∀ s, x < s → s ≤ p.climb f x → p.isChosen s = true
  | 0, x, hf => by omega
  | f + 1, x, hf => by
    unfold Pp.climb
    split
    · rename_i hc
      obtain ⟨_, _, z, hz⟩ := p.isChosen_lt h hc
      have := above_lt hz
      obtain ⟨h1, h2, h3⟩ := Pp.climb_spec h f (x + 1) (by omega)
      refine ⟨by omega, h2, fun s hs hs2 => ?_⟩
      by_cases e : s = x + 1
      · rw [e]; exact hc
      · exact h3 s (by omega) hs2
    · rename_i hc
      exact ⟨Nat.le_refl _, by simpa using hc, fun s h1 h2 => by omega⟩
theorem Pp.climb_eq {p : Pp} (h : p.Ok) {f x y : Nat} (hf : above p.props x < f) (hxy : x ≤ y) (hc : ∀ s, x < s → s ≤ y → p.isChosen s = true) (he : p.isChosen (y + 1) = false) : p.climb f x = y := by
  obtain ⟨h1, h2, h3⟩ := Pp.climb_spec h f x hf
  by_cases hlt : p.climb f x < y
  · have := hc (p.climb f x + 1) (by omega) (by omega)
    rw [h2] at this
    cases this
  · by_cases hgt : y < p.climb f x
    · have := h3 (y + 1) (by omega) (by omega)
      rw [he] at this
      cases this
    · omega
theorem Pp.climb_lt {p : Pp} (h : p.Ok) (f : Nat) : p.climb f p.pre < 18446744073709551616 ∧ p.base ≤ p.climb f p.pre + 1 := by
  have key : ∀ (f x : Nat), x < 18446744073709551616 → p.base ≤ x + 1 → p.climb f x < 18446744073709551616 ∧ p.base ≤ p.climb f x + 1 := by
    intro f
    induction f with
    | zero => exact fun x h1 h2 => ⟨h1, h2⟩
    | succ f ih =>
      intro x h1 h2
      unfold Pp.climb
      split
      · rename_i hc
        have := p.isChosen_lt h hc
        exact ih (x + 1) this.2.1 (by omega)
      · exact ⟨h1, h2⟩
  exact key f _ h.pre.2 h.pre.1
theorem Pp.Ok.accepted {p : Pp} (h : p.Ok) (n : Int) (s : Nat) : (p.accepted n s).2.Ok := by
  unfold Pp.accepted
  split
  · exact h
  rename_i h1
  have hi := (Pp.isNode_iff h.right n).1 (by simpa using h1)
  split
  · exact h
  rename_i z hz
  have hm := h.props _ (getK_mem hz)
  have h2 : Pp.Ok { p with props := putK s ⟨z.val, z.acc ||| 2 ^ n.toNat⟩ p.props } := h.putp ⟨hm.1, hm.2.1⟩ ⟨or_lt hm.2.2.1 hi.2, hm.2.2.2⟩
  have h3 := Pp.climb_lt h2 ((putK s ⟨z.val, z.acc ||| 2 ^ n.toNat⟩ p.props).length + 1)
  exact ⟨h2.right, h2.bal, h2.baln, h2.base, h2.prom, h2.tsrt, h2.told, h2.top, h2.psrt, h2.props, h3.2, h3.1⟩
theorem Pp.promise_same (p : Pp) (n : Int) (l : List Vt) : (p.promise n l).2.q = p.q ∧ (p.promise n l).2.bal = p.bal ∧ (p.promise n l).2.base = p.base ∧ (p.promise n l).2.props = p.props ∧ (p.promise n l).2.pre = p.pre := by
  unfold Pp.promise
  split
  · exact ⟨rfl, rfl, rfl, rfl, rfl⟩
  split
  · exact ⟨rfl, rfl, rfl, rfl, rfl⟩
  split
  · exact ⟨rfl, rfl, rfl, rfl, rfl⟩
  have := Pp.hears_same n.toNat l { p with prom := p.prom ||| 2 ^ n.toNat }
  exact ⟨this.1, this.2.1, this.2.2.1, this.2.2.2.2.1, this.2.2.2.2.2⟩
end Go.Proofs.Ytjapmolmgfaocaa

/- Layer 11, plain: nodes that promise, vote and propose, by letters that lie in a row. No program is named here. -/
namespace Go.Proofs.Ytjapmolmgfaocaa

/-- A letter. -/
structure Ml where
  kind : Nat
  frm : Nat
  dst : Nat
  bal : Bl
  votes : List Vt
/-- A node: what lasts (prom vote seen), and the rest. -/
structure Nd where
  prom : Bl
  vote : Vt
  seen : Nat
  pro : Option Pp
  bal : Bl
  own : List UInt8
  learned : List UInt8
  knows : Bool
structure Ro where
  q : Qm
  nodes : List Nd
  row : List Ml
def Vt.none_ : Vt := ⟨0, Bl.zero, []⟩
def Nd.zero : Nd := ⟨Bl.zero, Vt.none_, 0, none, Bl.zero, [], [], false⟩
def Ml.zero : Ml := ⟨0, 0, 0, Bl.zero, []⟩
def Ro.new (q : Qm) : Ro := ⟨q, List.replicate q.n Nd.zero, []⟩
def Ro.node (r : Ro) (i : Nat) : Nd := r.nodes.getD i Nd.zero
def Ro.setN (r : Ro) (i : Nat) (n : Nd) : Ro := { r with nodes := r.nodes.set i n }
def Ro.send (r : Ro) (m : Ml) : Ro := if 200 ≤ r.row.length then r else { r with row := r.row ++ [m] }
/-- A letter to each of the first k nodes. -/
def Ro.sends (r : Ro) : Nat → Nat → Nat → Bl → List Vt → Ro
  | 0, _, _, _, _ => r
  | k + 1, f, kd, b, vs => (r.sends k f kd b vs).send ⟨kd, f, k, b, vs⟩
def Ro.has (r : Ro) (a : Int) : Bool := decide (0 ≤ a) && decide (a < r.nodes.length)
def Nd.start (n : Nd) (q : Qm) (b : Bl) (v : List UInt8) : Nd := { n with seen := b.n, bal := b, own := v, pro := some (Pp.new q b 1) }
def Ro.start (r : Ro) (a : Int) (v : List UInt8) : Int × Bl × Ro :=
  if r.has a = false then (2, Bl.zero, r) else if 100 < v.length then (2, Bl.zero, r) else if (r.node a.toNat).seen = 4611686018427387904 then (5, Bl.zero, r) else
    (0, ⟨(r.node a.toNat).seen + 1, a⟩, (r.setN a.toNat ((r.node a.toNat).start r.q ⟨(r.node a.toNat).seen + 1, a⟩ v)).sends r.nodes.length a.toNat 1 ⟨(r.node a.toNat).seen + 1, a⟩ [])
def Nd.promise (n : Nd) (b : Bl) : Bool × Nd :=
  if Bl.less b n.prom then (false, { n with seen := max n.seen b.n }) else (true, { n with seen := max n.seen b.n, prom := b })
def Nd.votes (n : Nd) : List Vt := if n.vote.slot = 1 then [n.vote] else []
/-- A letter 2 comes: the vote to ask for, if there is one. -/
def Nd.gather (n : Nd) (m : Ml) : Option Vt × Nd :=
  match n.pro with
  | none => (none, n)
  | some p => if Bl.eqB n.bal m.bal = false then (none, n) else if p.ready then (none, n) else
    let x := (p.promise m.frm m.votes).2.propose 1 n.own
    (if x.1 = 0 then some x.2.1 else none, { n with pro := some x.2.2 })
/-- A letter 4 comes. -/
def Nd.count (n : Nd) (m : Ml) : Nd :=
  match n.pro with
  | none => n
  | some p => if Bl.eqB n.bal m.bal = false then n else
    match (p.accepted m.frm 1).2.chosen 1 with
    | none => { n with pro := some (p.accepted m.frm 1).2 }
    | some v => { n with pro := some (p.accepted m.frm 1).2, learned := v, knows := true }
def Ro.arrive (r : Ro) (m : Ml) : Ro :=
  if m.kind = 1 then
    if ((r.node m.dst).promise m.bal).1 then (r.setN m.dst ((r.node m.dst).promise m.bal).2).send ⟨2, m.dst, m.frm, m.bal, ((r.node m.dst).promise m.bal).2.votes⟩ else r.setN m.dst ((r.node m.dst).promise m.bal).2
  else if m.kind = 2 then
    match ((r.node m.dst).gather m).1 with
    | some v => (r.setN m.dst ((r.node m.dst).gather m).2).sends r.nodes.length m.dst 3 m.bal [v]
    | none => r.setN m.dst ((r.node m.dst).gather m).2
  else if m.kind = 3 then
    if ((r.node m.dst).promise m.bal).1 then (r.setN m.dst { ((r.node m.dst).promise m.bal).2 with vote := m.votes.headD Vt.none_ }).send ⟨4, m.dst, m.frm, m.bal, []⟩ else r.setN m.dst ((r.node m.dst).promise m.bal).2
  else if m.kind = 4 then r.setN m.dst ((r.node m.dst).count m)
  else r
def Ro.is (r : Ro) (a : Int) : Bool := decide (0 ≤ a) && decide (a < r.row.length)
def Ro.at_ (r : Ro) (a : Int) : Ml := r.row.getD a.toNat Ml.zero
def Ro.cut (r : Ro) (k : Nat) : Ro := { r with row := r.row.eraseIdx k }
def Ro.take (r : Ro) (a : Int) : Bool × Ro := if r.is a then (true, (r.cut a.toNat).arrive (r.at_ a)) else (false, r)
def Ro.drop (r : Ro) (a : Int) : Bool × Ro := if r.is a then (true, r.cut a.toNat) else (false, r)
def Ro.twice (r : Ro) (a : Int) : Bool × Ro := if r.is a then (if 200 ≤ r.row.length then (false, r) else (true, r.send (r.at_ a))) else (false, r)
def Nd.crash (n : Nd) : Nd := ⟨n.prom, n.vote, n.seen, none, Bl.zero, [], [], false⟩
def Ro.crash (r : Ro) (a : Int) : Int × Ro := if r.has a then (0, r.setN a.toNat (r.node a.toNat).crash) else (2, r)

/-! ### what always holds -/
def lastN : Nat := 4611686018427387904
structure Bl.Fine (b : Bl) (n : Nat) : Prop where
  n0 : 0 < b.n
  n1 : b.n ≤ 4611686018427387904
  lo : 0 ≤ b.node
  hi : b.node < n
structure Vt.One (v : Vt) (n : Nat) : Prop where
  slot : v.slot = 1
  bal : v.bal.Fine n
  len : v.val.length ≤ 100
structure Ml.Ok (m : Ml) (n : Nat) : Prop where
  kind : 1 ≤ m.kind ∧ m.kind ≤ 4
  frm : m.frm < n
  dst : m.dst < n
  bal : m.bal.Fine n
  one : m.votes.length ≤ 1
  votes : ∀ v ∈ m.votes, v.One n
  three : m.kind = 3 → m.votes ≠ []
structure Nd.Ok (x : Nd) (q : Qm) : Prop where
  seen : x.seen ≤ 4611686018427387904
  prom : x.prom = Bl.zero ∨ x.prom.Fine q.n
  vote : x.vote = Vt.none_ ∨ x.vote.One q.n
  pro : ∀ p, x.pro = some p → p.Ok ∧ p.q = q ∧ p.bal = x.bal ∧ p.base = 1 ∧ (∀ e ∈ p.told, e.1 = 1) ∧ (∀ e ∈ p.props, e.1 = 1)
  nopro : x.pro = none → x.bal = Bl.zero
  own : x.own.length ≤ 100
  len : x.learned.length ≤ 100
structure Ro.Ok (r : Ro) : Prop where
  right : r.q.right = 0
  len : r.nodes.length = r.q.n
  nodes : ∀ x ∈ r.nodes, x.Ok r.q
  most : r.row.length ≤ 200
  row : ∀ m ∈ r.row, m.Ok r.q.n

theorem Bl.Fine.right {b : Bl} {n : Nat} (h : b.Fine n) (hn : n ≤ 12) : b.right = true := (Bl.right_iff b).2 ⟨h.n0, h.lo, by have := h.hi; omega⟩
theorem Bl.Fine.ok {b : Bl} {n : Nat} (h : b.Fine n) (hn : n ≤ 12) : b.Ok := ⟨by have := h.n1; omega, by have := h.lo; omega, by have := h.hi; omega⟩
theorem Nd.Ok.promOk {x : Nd} {q : Qm} (h : x.Ok q) (hq : q.n ≤ 12) : x.prom.Ok := by
  rcases h.prom with e | e
  · rw [e]; exact Bl.zero_ok
  · exact e.ok hq
theorem Nd.Ok.zero (q : Qm) : Nd.zero.Ok q := ⟨Nat.zero_le _, .inl rfl, .inl rfl, fun p h => (by cases h), fun _ => rfl, Nat.zero_le _, Nat.zero_le _⟩
theorem Ro.Ok.new {q : Qm} (h : q.right = 0) : (Ro.new q).Ok := ⟨h, by unfold Ro.new; simp, fun x hx => (by rw [List.eq_of_mem_replicate hx]; exact Nd.Ok.zero q), Nat.zero_le _, fun m hm => (List.not_mem_nil hm).elim⟩
theorem Ro.node_mem {r : Ro} {i : Nat} (h : i < r.nodes.length) : r.node i ∈ r.nodes := by
  unfold Ro.node
  rw [List.getD_eq_getElem?_getD, List.getElem?_eq_getElem h]
  exact List.getElem_mem h
theorem Ro.node_get {r : Ro} {i : Nat} (h : i < r.nodes.length) : r.node i = r.nodes[i] := by
  unfold Ro.node
  rw [List.getD_eq_getElem?_getD, List.getElem?_eq_getElem h]
  rfl
theorem Ro.node_set (r : Ro) {i : Nat} (n : Nd) (h : i < r.nodes.length) (j : Nat) : (r.setN i n).node j = if j = i then n else r.node j := by
  unfold Ro.node Ro.setN
  dsimp only
  rw [List.getD_eq_getElem?_getD, List.getD_eq_getElem?_getD, List.getElem?_set]
  split
  · rename_i e
    subst e
    first | (rw [if_pos rfl, if_pos h]; rfl) | (rw [if_pos h, if_pos rfl]; rfl) | (rw [if_pos rfl]; rfl)
  · rename_i e
    rw [if_neg (fun e2 => e e2.symm)]
theorem Ro.Ok.setN {r : Ro} (h : r.Ok) {i : Nat} {n : Nd} (hn : n.Ok r.q) : (r.setN i n).Ok :=
  ⟨h.right, by unfold Ro.setN; dsimp only; rw [List.length_set]; exact h.len, fun x hx => by
    rcases List.mem_or_eq_of_mem_set hx with hx | rfl
    · exact h.nodes x hx
    · exact hn, h.most, h.row⟩
theorem Ro.Ok.send {r : Ro} (h : r.Ok) {m : Ml} (hm : m.Ok r.q.n) : (r.send m).Ok := by
  unfold Ro.send
  split
  · exact h
  · refine ⟨h.right, h.len, h.nodes, by rw [List.length_append]; simp; omega, fun x hx => ?_⟩
    rcases List.mem_append.1 hx with hx | hx
    · exact h.row x hx
    · rw [List.mem_singleton.1 hx]; exact hm
theorem Ro.send_same (r : Ro) (m : Ml) : (r.send m).q = r.q ∧ (r.send m).nodes = r.nodes := by unfold Ro.send; split <;> exact ⟨rfl, rfl⟩
theorem Ro.sends_same (r : Ro) (k f kd : Nat) (b : Bl) (vs : List Vt) : (r.sends k f kd b vs).q = r.q ∧ (r.sends k f kd b vs).nodes = r.nodes := by
  induction k with
  | zero => exact ⟨rfl, rfl⟩
  | succ k ih =>
    unfold Ro.sends
    have := Ro.send_same (r.sends k f kd b vs) ⟨kd, f, k, b, vs⟩
    exact ⟨this.1.trans ih.1, this.2.trans ih.2⟩
theorem Ro.Ok.sends {r : Ro} (h : r.Ok) {k f kd : Nat} {b : Bl} {vs : List Vt} (hk : k ≤ r.q.n) (hm : ∀ i, i < r.q.n → (⟨kd, f, i, b, vs⟩ : Ml).Ok r.q.n) : (r.sends k f kd b vs).Ok := by
  induction k with
  | zero => exact h
  | succ k ih =>
    unfold Ro.sends
    refine (ih (by omega)).send ?_
    rw [(Ro.sends_same r k f kd b vs).1]
    exact hm k (by omega)
theorem Ro.Ok.cut {r : Ro} (h : r.Ok) (k : Nat) : (r.cut k).Ok :=
  ⟨h.right, h.len, h.nodes, Nat.le_trans (List.eraseIdx_sublist r.row k).length_le h.most, fun m hm => h.row m ((List.eraseIdx_sublist r.row k).subset hm)⟩
theorem Ro.has_iff {r : Ro} {a : Int} : r.has a = true ↔ 0 ≤ a ∧ a.toNat < r.nodes.length := by
  unfold Ro.has
  simp only [Bool.and_eq_true, decide_eq_true_eq]
  omega
theorem Ro.is_iff {r : Ro} {a : Int} : r.is a = true ↔ 0 ≤ a ∧ a.toNat < r.row.length := by
  unfold Ro.is
  simp only [Bool.and_eq_true, decide_eq_true_eq]
  omega
theorem Ro.at_mem {r : Ro} {a : Int} (h : r.is a = true) : r.at_ a ∈ r.row := by
  have := (Ro.is_iff.1 h).2
  unfold Ro.at_
  rw [List.getD_eq_getElem?_getD, List.getElem?_eq_getElem this]
  exact List.getElem_mem this
theorem Nd.Ok.promise {x : Nd} {q : Qm} (h : x.Ok q) {b : Bl} (hb : b.Fine q.n) : (x.promise b).2.Ok q := by
  unfold Nd.promise
  have := hb.n1
  have := h.seen
  split
  · exact ⟨by show max _ _ ≤ _; omega, h.prom, h.vote, h.pro, h.nopro, h.own, h.len⟩
  · exact ⟨by show max _ _ ≤ _; omega, .inr hb, h.vote, h.pro, h.nopro, h.own, h.len⟩
/-- One key at most: a row of at most one. -/
theorem one_key {β : Type} {L : List (Nat × β)} (hs : SrtK L) (h1 : ∀ e ∈ L, e.1 = 1) : L.length ≤ 1 := by
  match L, hs, h1 with
  | [], _, _ => simp
  | [_], _, _ => simp
  | a :: b :: r, hs, h1 =>
    unfold SrtK at hs
    rw [List.pairwise_cons] at hs
    have h2 := hs.1 b (List.mem_cons_self ..)
    have h3 := h1 a (List.mem_cons_self ..)
    have h4 := h1 b (List.mem_cons_of_mem _ (List.mem_cons_self ..))
    omega
theorem Pp.hears_told (node : Nat) : ∀ (l : List Vt) (p : Pp), (∀ e ∈ p.told, e.1 = 1) → (∀ v ∈ l, v.slot = 1) → ∀ e ∈ (p.hears node l).told, e.1 = 1
  | [], _, h, _ => h
  | v :: r, p, h, hv => by
    have e : p.hears node (v :: r) = (p.hear node v).hears node r := rfl
    rw [e]
    refine Pp.hears_told node r _ (fun e he => ?_) fun u hu => hv u (List.mem_cons_of_mem _ hu)
    unfold Pp.hear at he
    split at he
    · rcases putK_mem he with rfl | ⟨he, _⟩
      · exact hv v (List.mem_cons_self ..)
      · exact h e he
    · exact h e he
theorem Pp.promise_told {p : Pp} {n : Int} {l : List Vt} (h : ∀ e ∈ p.told, e.1 = 1) (hv : ∀ v ∈ l, v.slot = 1) : ∀ e ∈ (p.promise n l).2.told, e.1 = 1 := by
  unfold Pp.promise
  split
  · exact h
  split
  · exact h
  split
  · exact h
  · exact Pp.hears_told _ l _ h hv
theorem Pp.propose_told {p : Pp} {s : Nat} {own : List UInt8} : (p.propose s own).2.2.told = p.told ∧ (p.propose s own).2.2.q = p.q ∧ (p.propose s own).2.2.bal = p.bal ∧ (p.propose s own).2.2.base = p.base ∧ (p.propose s own).2.2.prom = p.prom := by
  unfold Pp.propose
  split
  · exact ⟨rfl, rfl, rfl, rfl, rfl⟩
  split
  · exact ⟨rfl, rfl, rfl, rfl, rfl⟩
  split
  · exact ⟨rfl, rfl, rfl, rfl, rfl⟩
  split
  · exact ⟨rfl, rfl, rfl, rfl, rfl⟩
  split <;> exact ⟨rfl, rfl, rfl, rfl, rfl⟩
theorem Pp.propose_props {p : Pp} {own : List UInt8} (h : ∀ e ∈ p.props, e.1 = 1) : ∀ e ∈ (p.propose 1 own).2.2.props, e.1 = 1 := by
  unfold Pp.propose
  split
  · exact h
  split
  · exact h
  split
  · exact h
  split
  · intro e he
    rcases putK_mem he with rfl | ⟨he, _⟩
    · rfl
    · exact h e he
  split
  · exact h
  · intro e he
    rcases putK_mem he with rfl | ⟨he, _⟩
    · rfl
    · exact h e he
theorem Pp.propose_val {p : Pp} (h : p.Ok) {own : List UInt8} (ho : own.length ≤ 100) (h0 : (p.propose 1 own).1 = 0) : (p.propose 1 own).2.1.slot = 1 ∧ (p.propose 1 own).2.1.bal = p.bal ∧ (p.propose 1 own).2.1.val.length ≤ 100 := by
  unfold Pp.propose at h0 ⊢
  split at h0
  · cases h0
  rename_i h1
  rw [if_neg h1]
  split at h0
  · cases h0
  rename_i h2
  rw [if_neg h2]
  split at h0
  · rename_i z hz
    exact ⟨rfl, rfl, (h.props _ (getK_mem hz)).2.2.2⟩
  · rename_i hz
    split at h0
    · rename_i v hm
      exact ⟨rfl, rfl, p.must_len h hm⟩
    · rename_i hm
      rw [if_neg (by omega)]
      exact ⟨rfl, rfl, ho⟩
theorem Pp.accepted_same (p : Pp) (n : Int) (s : Nat) : (p.accepted n s).2.told = p.told ∧ (p.accepted n s).2.q = p.q ∧ (p.accepted n s).2.bal = p.bal ∧ (p.accepted n s).2.base = p.base ∧ (p.accepted n s).2.prom = p.prom := by
  unfold Pp.accepted
  split
  · exact ⟨rfl, rfl, rfl, rfl, rfl⟩
  split <;> exact ⟨rfl, rfl, rfl, rfl, rfl⟩
theorem Pp.accepted_props {p : Pp} {n : Int} (h : ∀ e ∈ p.props, e.1 = 1) : ∀ e ∈ (p.accepted n 1).2.props, e.1 = 1 := by
  unfold Pp.accepted
  split
  · exact h
  split
  · exact h
  · intro e he
    rcases putK_mem he with rfl | ⟨he, _⟩
    · rfl
    · exact h e he
theorem Nd.Ok.gather {x : Nd} {q : Qm} (h : x.Ok q) {m : Ml} (hm : m.Ok q.n) : (x.gather m).2.Ok q := by
  unfold Nd.gather
  split
  · exact h
  rename_i p hp
  obtain ⟨h1, h2, h3, h4, h5, h6⟩ := h.pro p hp
  split
  · exact h
  split
  · exact h
  have hs := Pp.promise_same p m.frm m.votes
  have hok : (p.promise m.frm m.votes).2.Ok := h1.promise _ _ fun v hv => by
    have := hm.votes v hv
    exact ⟨by rw [this.slot]; omega, by have := this.bal.n1; omega⟩
  refine ⟨h.seen, h.prom, h.vote, fun p' hp' => ?_, fun hn => (by cases hn), h.own, h.len⟩
  injection hp' with hp'
  subst hp'
  have ht := Pp.propose_told (p := (p.promise m.frm m.votes).2) (s := 1) (own := x.own)
  refine ⟨hok.propose (by omega) _, by rw [ht.2.1, hs.1, h2], by rw [ht.2.2.1, hs.2.1, h3], by rw [ht.2.2.2.1, hs.2.2.1, h4], ?_, ?_⟩
  · rw [ht.1]; exact Pp.promise_told h5 fun v hv => (hm.votes v hv).slot
  · refine Pp.propose_props ?_
    rw [hs.2.2.2.1]; exact h6
theorem Nd.gather_vote {x : Nd} {q : Qm} (h : x.Ok q) {m : Ml} (hm : m.Ok q.n) {v : Vt} (hv : (x.gather m).1 = some v) : v.slot = 1 ∧ v.bal = m.bal ∧ v.val.length ≤ 100 := by
  unfold Nd.gather at hv
  split at hv
  · cases hv
  rename_i p hp
  obtain ⟨h1, h2, h3, h4, h5, h6⟩ := h.pro p hp
  split at hv
  · cases hv
  rename_i he
  split at hv
  · cases hv
  have hs := Pp.promise_same p m.frm m.votes
  have hok : (p.promise m.frm m.votes).2.Ok := h1.promise _ _ fun v hv => by
    have := hm.votes v hv
    exact ⟨by rw [this.slot]; omega, by have := this.bal.n1; omega⟩
  dsimp only at hv
  split at hv
  · rename_i h0
    injection hv with hv
    subst hv
    have := Pp.propose_val hok h.own h0
    refine ⟨this.1, ?_, this.2.2⟩
    rw [this.2.1, hs.2.1, h3]
    unfold Bl.eqB at he
    simp only [Bool.not_eq_false, Bool.and_eq_true, decide_eq_true_eq] at he
    exact Bl.ext_ he.1 he.2
  · cases hv
theorem Pp.chosen_len {p : Pp} (h : p.Ok) {s : Nat} {v : List UInt8} (hv : p.chosen s = some v) : v.length ≤ 100 := by
  unfold Pp.chosen at hv
  split at hv
  · cases hv
  rename_i z hz
  split at hv
  · injection hv with hv
    subst hv
    exact (h.props _ (getK_mem hz)).2.2.2
  · cases hv
theorem Nd.Ok.count {x : Nd} {q : Qm} (h : x.Ok q) (m : Ml) : (x.count m).Ok q := by
  unfold Nd.count
  split
  · exact h
  rename_i p hp
  obtain ⟨h1, h2, h3, h4, h5, h6⟩ := h.pro p hp
  split
  · exact h
  have hs := Pp.accepted_same p m.frm 1
  have hp2 : ∀ p', some (p.accepted m.frm 1).2 = some p' → p'.Ok ∧ p'.q = q ∧ p'.bal = x.bal ∧ p'.base = 1 ∧ (∀ e ∈ p'.told, e.1 = 1) ∧ (∀ e ∈ p'.props, e.1 = 1) := fun p' e => by
    injection e with e
    subst e
    exact ⟨h1.accepted _ _, by rw [hs.2.1, h2], by rw [hs.2.2.1, h3], by rw [hs.2.2.2.1, h4], by rw [hs.1]; exact h5, Pp.accepted_props h6⟩
  split
  · exact ⟨h.seen, h.prom, h.vote, hp2, fun hn => (by cases hn), h.own, h.len⟩
  · rename_i v hv
    exact ⟨h.seen, h.prom, h.vote, hp2, fun hn => (by cases hn), h.own, Pp.chosen_len (h1.accepted _ _) hv⟩
theorem Nd.votes_ok {x : Nd} {q : Qm} (h : x.Ok q) : x.votes.length ≤ 1 ∧ ∀ v ∈ x.votes, v.One q.n := by
  unfold Nd.votes
  split
  · rename_i hs
    refine ⟨by simp, fun v hv => ?_⟩
    rw [List.mem_singleton.1 hv]
    rcases h.vote with e | e
    · rw [e] at hs; cases hs
    · exact e
  · exact ⟨by simp, fun v hv => (List.not_mem_nil hv).elim⟩
theorem Ro.Ok.n12 {r : Ro} (h : r.Ok) : r.q.n ≤ 12 := (r.q.n_le h.right).2.1
theorem Ro.Ok.arrive {r : Ro} (h : r.Ok) {m : Ml} (hm : m.Ok r.q.n) : (r.arrive m).Ok := by
  have hd : m.dst < r.nodes.length := by rw [h.len]; exact hm.dst
  have hN := h.nodes _ (Ro.node_mem hd)
  have hP := hN.promise hm.bal
  unfold Ro.arrive
  split
  · split
    · have hv := Nd.votes_ok hP
      exact (h.setN hP).send ⟨⟨by show 1 ≤ 2; omega, by show 2 ≤ 4; omega⟩, hm.dst, hm.frm, hm.bal, hv.1, hv.2, fun e => by cases e⟩
    · exact h.setN hP
  split
  · have hG := hN.gather hm
    split
    · rename_i v hv
      have hv' := Nd.gather_vote hN hm hv
      refine (h.setN hG).sends (Nat.le_of_eq h.len) fun i hi => ⟨⟨by show 1 ≤ 3; omega, by show 3 ≤ 4; omega⟩, hm.dst, hi, hm.bal, by show 1 ≤ 1; omega, fun u hu => ?_, fun _ e => by cases e⟩
      rw [List.mem_singleton.1 hu]
      exact ⟨hv'.1, by rw [hv'.2.1]; exact hm.bal, hv'.2.2⟩
    · exact h.setN hG
  split
  · rename_i h3
    split
    · refine (h.setN (n := { ((r.node m.dst).promise m.bal).2 with vote := m.votes.headD Vt.none_ }) ⟨hP.seen, hP.prom, ?_, hP.pro, hP.nopro, hP.own, hP.len⟩).send ⟨⟨by show 1 ≤ 4; omega, by show 4 ≤ 4; omega⟩, hm.dst, hm.frm, hm.bal, Nat.zero_le _, fun u hu => (List.not_mem_nil hu).elim, fun e => by cases e⟩
      cases hvs : m.votes with
      | nil => exact .inl rfl
      | cons v l => exact .inr (hm.votes v (by rw [hvs]; exact List.mem_cons_self ..))
    · exact h.setN hP
  split
  · exact h.setN (hN.count m)
  · exact h
theorem Ro.Ok.take {r : Ro} (h : r.Ok) (a : Int) : (r.take a).2.Ok := by
  unfold Ro.take
  split
  · rename_i hi
    exact (h.cut _).arrive (h.row _ (Ro.at_mem hi))
  · exact h
theorem Ro.Ok.drop {r : Ro} (h : r.Ok) (a : Int) : (r.drop a).2.Ok := by
  unfold Ro.drop
  split
  · exact h.cut _
  · exact h
theorem Ro.Ok.twice {r : Ro} (h : r.Ok) (a : Int) : (r.twice a).2.Ok := by
  unfold Ro.twice
  split
  · rename_i hi
    split
    · exact h
    · exact h.send (h.row _ (Ro.at_mem hi))
  · exact h
theorem Nd.Ok.crash {x : Nd} {q : Qm} (h : x.Ok q) : x.crash.Ok q := ⟨h.seen, h.prom, h.vote, fun p e => (by cases e), fun _ => rfl, Nat.zero_le _, Nat.zero_le _⟩
theorem Ro.Ok.crash {r : Ro} (h : r.Ok) (a : Int) : (r.crash a).2.Ok := by
  unfold Ro.crash
  split
  · rename_i hi
    exact h.setN (h.nodes _ (Ro.node_mem (Ro.has_iff.1 hi).2)).crash
  · exact h
theorem Nd.Ok.start {x : Nd} {q : Qm} (h : x.Ok q) (hq : q.right = 0) {b : Bl} (hb : b.Fine q.n) {v : List UInt8} (hv : v.length ≤ 100) : (x.start q b v).Ok q := by
  have h12 := (q.n_le hq).2.1
  refine ⟨hb.n1, h.prom, h.vote, fun p e => ?_, fun e => (by cases e), hv, h.len⟩
  injection e with e
  subst e
  exact ⟨Pp.Ok.new hq (hb.right h12) (by have := hb.n1; omega) (by omega) (by omega), rfl, rfl, rfl, fun e he => (List.not_mem_nil he).elim, fun e he => (List.not_mem_nil he).elim⟩
theorem Ro.Ok.start {r : Ro} (h : r.Ok) (a : Int) (v : List UInt8) : (r.start a v).2.2.Ok := by
  unfold Ro.start
  split
  · exact h
  rename_i h1
  split
  · exact h
  rename_i h2
  split
  · exact h
  rename_i h3
  have hi := Ro.has_iff.1 (by simpa using h1)
  have hN := h.nodes _ (Ro.node_mem hi.2)
  have hs := hN.seen
  have hl := h.len
  have hf : (⟨(r.node a.toNat).seen + 1, a⟩ : Bl).Fine r.q.n := ⟨by show 0 < _ + 1; omega, by show _ + 1 ≤ 4611686018427387904; omega, hi.1, by show a < _; omega⟩
  refine (h.setN (hN.start h.right hf (by omega))).sends (Nat.le_of_eq hl) fun i hk => ⟨⟨by show 1 ≤ 1; omega, by show 1 ≤ 4; omega⟩, by show a.toNat < r.q.n; omega, hk, hf, Nat.zero_le _, fun u hu => (List.not_mem_nil hu).elim, fun e => by cases e⟩
end Go.Proofs.Ytjapmolmgfaocaa
