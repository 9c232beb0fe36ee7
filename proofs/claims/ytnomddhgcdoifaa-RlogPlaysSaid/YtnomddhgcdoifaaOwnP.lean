/- What ref00.Own does to memory, plainly: lists that lie apart, written over, then appended to. No program is named here: 'e' is the bytes' type, 'e2' the slices'. -/
import Derived.Test.YtnomddhgcdoifaaAppend
namespace Go.Proofs.Ytnomddhgcdoifaa
open Go.RowKit

/-- Two rows of different element types share no block. -/
theorem own_types_ne {w : World} {b1 b2 e1 e2 s1 s2 n1 n2 : Nat} {v1 v2 : Value} {x1 x2 : List Value} (h1 : w.ownsRow b1 e1 s1 v1 n1 x1) (h2 : w.ownsRow b2 e2 s2 v2 n2 x2) (hne : e1 ≠ e2) : v1.ownBlock = none ∨ v1.ownBlock ≠ v2.ownBlock := by
  rcases h1.2 with ⟨rfl, _⟩ | ⟨g1, c1, cur1, rfl, _, hh1, _⟩
  · exact .inl rfl
  · rcases h2.2 with ⟨rfl, _⟩ | ⟨g2, c2, cur2, rfl, _, hh2, _⟩
    · exact .inr (by simp [Value.ownBlock])
    · refine .inr fun he => ?_
      have : g1 = g2 := by simpa [Value.ownBlock] using he
      subst this
      rw [hh1] at hh2
      injection hh2 with hh2
      injection hh2 with _ h
      exact hne h

/-- Two slices of the call's own lie in different blocks (or one of them is nil). -/
def Apart (v u : Value) : Prop := ∀ g, v.ownBlock = some g → u.ownBlock ≠ some g
theorem Apart.symm {v u : Value} (h : Apart v u) : Apart u v := fun g hu hv => h g hv hu
theorem Apart.or {v u : Value} (h : Apart v u) : v.ownBlock = none ∨ v.ownBlock ≠ u.ownBlock := by
  cases hv : v.ownBlock with
  | none => exact .inl rfl
  | some g => exact .inr fun e => h g hv e.symm
theorem Apart.of_types {w : World} {b1 b2 e1 e2 s1 s2 n1 n2 : Nat} {v1 v2 : Value} {x1 x2 : List Value} (h1 : w.ownsRow b1 e1 s1 v1 n1 x1) (h2 : w.ownsRow b2 e2 s2 v2 n2 x2) (hne : e1 ≠ e2) : Apart v1 v2 := by
  intro g hg hu
  rcases own_types_ne h1 h2 hne with h | h
  · rw [h] at hg; cases hg
  · exact h (hg.trans hu.symm)
theorem Apart.nil (u : Value) : Apart (.slice none 0 0) u := fun g h => by simp [Value.ownBlock] at h
/-- What an append gives back lies apart from whatever was apart before. -/
theorem Apart.app {w w' : World} {base e size n m : Nat} {v v' u : Value} {xs news : List Value} (ha : App w w' base e size v v' n m xs news) (h : Apart v u) (hu : ∀ g, u.ownBlock = some g → g < w.heap.size) : Apart v' u := by
  intro g hg hug
  rcases ha.block with h' | h'
  · rw [h'] at hg; exact h g hg hug
  · rw [h'] at hg
    have := hu g hug
    injection hg with hg
    omega

section
variable {w w' : World} {base e e2 K : Nat} {lv : Value} {vals : List Value}

/-- The lists as they lie: the row of slices, each slice with its bytes. -/
structure Lies (w : World) (base e e2 : Nat) (lv : Value) (vals : List Value) (L : Nat → List UInt8) : Prop where
  row : w.ownsRow base e2 1 lv vals.length vals
  each : ∀ (i : Nat) (v : Value), vals[i]? = some v → w.ownsRow base e 1 v (L i).length (u8s (L i))

def AllApart (vals : List Value) : Prop := ∀ (i j : Nat) (v u : Value), i ≠ j → vals[i]? = some v → vals[j]? = some u → Apart v u

def upd (L : Nat → List UInt8) (i : Nat) (x : List UInt8) : Nat → List UInt8 := fun j => if j = i then x else L j
theorem upd_same (L : Nat → List UInt8) (i : Nat) (x : List UInt8) : upd L i x i = x := by simp [upd]
theorem upd_other (L : Nat → List UInt8) (i j : Nat) (x : List UInt8) (h : j ≠ i) : upd L i x j = L j := by simp [upd, h]

/-- One byte of one list is written. -/
theorem Lies.store {L : Nat → List UInt8} (h : Lies w base e e2 lv vals L) (hne : e ≠ e2) (hap : AllApart vals) {i g n cap k : Nat} (hi : vals[i]? = some (.slice (some ⟨g, 0, none⟩) n cap)) (x : UInt8) :
    Lies (w.setCell ⟨g, k, none⟩ (.int .u8 (x.toNat : Int))) base e e2 lv vals (upd L i ((L i).set k x)) := by
  have hv := h.each i _ hi
  have hn : (L i).length = n := by
    have := hv.1
    rcases hv.2 with ⟨h', _⟩ | ⟨g', cap', cur, hv', _⟩
    · cases h'
    · injection hv' with _ h2 _; exact h2.symm
  rw [hn] at hv
  obtain ⟨h1, h2⟩ := hv.stored k (.int .u8 (x.toNat : Int))
  refine ⟨h.row.kept h2 ?_, fun j v hj => ?_⟩
  · exact own_types_ne h.row hv (Ne.symm hne)
  · by_cases hji : j = i
    · subst hji
      rw [hi] at hj
      obtain rfl := Option.some.inj hj
      rw [upd_same, List.length_set, hn, ← u8s_set]
      exact h1
    · rw [upd_other _ _ _ _ hji]
      exact (h.each j v hj).kept h2 (hap j i v _ hji hj hi).or

theorem Lies.below {L : Nat → List UInt8} (h : Lies w base e e2 lv vals L) (hb : Below w.heap.size w w') : Lies w' base e e2 lv vals L :=
  ⟨own_below h.row hb fun k hk => (h.row.lt k hk).2, fun i v hi => own_below (h.each i v hi) hb fun k hk => ((h.each i v hi).lt k hk).2⟩

theorem Lies.congr {L L' : Nat → List UInt8} (h : Lies w base e e2 lv vals L) (he : ∀ i, i < vals.length → L i = L' i) : Lies w base e e2 lv vals L' :=
  ⟨h.row, fun i v hi => by rw [← he i (List.getElem?_eq_some_iff.1 hi).1]; exact h.each i v hi⟩

/-- The bytes that are written. -/
def fb (j k : Nat) : UInt8 := UInt8.ofNat (j * 31 + k % 7)
def gb (j k : Nat) : UInt8 := UInt8.ofNat (200 + j * 5 + k)
theorem fb_val (j k : Nat) : ((fb j k).toNat : Int) = ((j : Int) * 31 + (k : Int) % 7) % 256 := by
  unfold fb; rw [UInt8.toNat_ofNat']; omega
theorem gb_val (j k : Nat) : ((gb j k).toNat : Int) = (200 + (j : Int) * 5 + (k : Int)) % 256 := by
  unfold gb; rw [UInt8.toNat_ofNat']; omega
def F (j n : Nat) : List UInt8 := (List.range n).map (fb j)
def G (j n : Nat) : List UInt8 := (List.range n).map (gb j)
theorem F_len (j n : Nat) : (F j n).length = n := by simp [F]
theorem G_len (j n : Nat) : (G j n).length = n := by simp [G]
theorem F_at (j n k : Nat) (h : k < n) : (F j n)[k]? = some (fb j k) := by simp [F, h]
theorem G_at (j n k : Nat) (h : k < n) : (G j n)[k]? = some (gb j k) := by simp [G, h]
theorem G_succ (j n : Nat) : G j (n + 1) = G j n ++ [gb j n] := by simp [G, List.range_succ]

/-- The first k bytes of list i are written. -/
def Done (i k : Nat) (l : List UInt8) : Prop := ∀ j, j < k → j < l.length → l[j]? = some (fb i j)
theorem Done.zero (i : Nat) (l : List UInt8) : Done i 0 l := fun _ h => absurd h (by omega)
theorem Done.step {i k : Nat} {l : List UInt8} (h : Done i k l) : Done i (k + 1) (l.set k (fb i k)) := by
  intro j hj hl
  rw [List.length_set] at hl
  by_cases hjk : j = k
  · subst hjk; rw [List.getElem?_set_self hl]
  · rw [List.getElem?_set_ne (Ne.symm hjk)]; exact h j (by omega) hl
theorem Done.all {i : Nat} {l : List UInt8} (h : Done i l.length l) : l = F i l.length := by
  apply List.ext_getElem?
  intro j
  by_cases hj : j < l.length
  · rw [h j hj hj, F_at i _ j hj]
  · rw [List.getElem?_eq_none (by omega), List.getElem?_eq_none (by rw [F_len]; omega)]

/-- The second loop's state: the lists are written over; 'xs' are the first ones with four bytes more each; the slice 'lg' holds them. -/
structure Long (w : World) (base e e2 : Nat) (lv : Value) (vals : List Value) (ns : Nat → Nat) (lg : Value) (xs : List Value) : Prop where
  lies : Lies w base e e2 lv vals fun i => F i (ns i)
  long : w.ownsRow base e2 1 lg xs.length xs
  more : ∀ (j : Nat) (x : Value), xs[j]? = some x → w.ownsRow base e 1 x (ns j + 4) (u8s (F j (ns j) ++ G j 4))
  lgap : Apart lg lv
  xv : ∀ (j k : Nat) (x v : Value), j ≠ k → xs[j]? = some x → vals[k]? = some v → Apart x v
  xx : AllApart xs

/-- Within one round of it: x has k of the four bytes. -/
structure Grows (w : World) (base e e2 : Nat) (lv : Value) (vals : List Value) (ns : Nat → Nat) (lg : Value) (xs : List Value) (k : Nat) (x : Value) : Prop where
  st : Long w base e e2 lv vals ns lg xs
  own : w.ownsRow base e 1 x (ns xs.length + k) (u8s (F xs.length (ns xs.length) ++ G xs.length k))
  apv : ∀ (j : Nat) (v : Value), j ≠ xs.length → vals[j]? = some v → Apart x v
  apx : ∀ (j : Nat) (u : Value), xs[j]? = some u → Apart x u

variable {ns : Nat → Nat} {lg x : Value} {xs : List Value} {k : Nat}

theorem Grows.start (h : Long w base e e2 lv vals ns lg xs) (hap : AllApart vals) {v : Value} (hv : vals[xs.length]? = some v) : Grows w base e e2 lv vals ns lg xs 0 v :=
  ⟨h, by have := h.lies.each _ _ hv; simpa [F_len, G] using this,
    fun j u hj hu => hap _ _ _ _ (Ne.symm hj) hv hu,
    fun j u hu => (h.xv j xs.length u v (by have := (List.getElem?_eq_some_iff.1 hu).1; omega) hu hv).symm⟩

/-- A new block beside all of it. -/
theorem Long.below (h : Long w base e e2 lv vals ns lg xs) (hb : Below w.heap.size w w') : Long w' base e e2 lv vals ns lg xs :=
  ⟨h.lies.below hb, own_below h.long hb fun k hk => (h.long.lt k hk).2, fun j x hx => own_below (h.more j x hx) hb fun k hk => ((h.more j x hx).lt k hk).2, h.lgap, h.xv, h.xx⟩
theorem Grows.below (h : Grows w base e e2 lv vals ns lg xs k x) (hb : Below w.heap.size w w') : Grows w' base e e2 lv vals ns lg xs k x :=
  ⟨h.st.below hb, own_below h.own hb fun k hk => (h.own.lt k hk).2, h.apv, h.apx⟩

/-- One byte more. -/
theorem Grows.step (h : Grows w base e e2 lv vals ns lg xs k x) (hne : e ≠ e2) {x' : Value}
    (ha : App w w' base e 1 x x' (ns xs.length + k) 1 (u8s (F xs.length (ns xs.length) ++ G xs.length k)) [.int .u8 ((gb xs.length k).toNat : Int)]) : Grows w' base e e2 lv vals ns lg xs (k + 1) x' := by
  have hlt : ∀ {b et s n : Nat} {v : Value} {ys : List Value}, w.ownsRow b et s v n ys → ∀ g, v.ownBlock = some g → g < w.heap.size := fun h g hg => (h.lt g hg).2
  refine ⟨⟨⟨ha.other h.st.lies.row (own_types_ne h.st.lies.row h.own (Ne.symm hne)), fun i v hi => ?_⟩, ha.other h.st.long (own_types_ne h.st.long h.own (Ne.symm hne)), fun j u hu => ha.other (h.st.more j u hu) (h.apx j u hu).symm.or, h.st.lgap, h.st.xv, h.st.xx⟩, ?_, fun j v hj hv => (h.apv j v hj hv).app ha (hlt (h.st.lies.each j v hv)), fun j u hu => (h.apx j u hu).app ha (hlt (h.st.more j u hu))⟩
  · by_cases hi' : i = xs.length
    · subst hi'
      refine ha.shorter (h.st.lies.each _ _ hi) (by rw [F_len]; omega) ?_ h.own
      rw [Nat.mul_one, F_len, u8s_append]
      have hl : (u8s (F xs.length (ns xs.length))).length = ns xs.length := by rw [u8s_len, F_len]
      have ht := List.take_left (l₁ := u8s (F xs.length (ns xs.length))) (l₂ := u8s (G xs.length k))
      rw [hl] at ht
      exact ht
    · exact ha.other (h.st.lies.each i v hi) (h.apv i v hi' hi).symm.or
  · have ho := ha.own
    rw [G_succ, ← List.append_assoc, u8s_append (F _ _ ++ G _ _)]
    exact ho

/-- The round's end: the slice goes behind the others. -/
theorem Grows.finish (h : Grows w base e e2 lv vals ns lg xs 4 x) (hne : e ≠ e2) {lg' : Value} (ha : App w w' base e2 1 lg lg' xs.length 1 xs [x]) : Long w' base e e2 lv vals ns lg' (xs ++ [x]) := by
  have hlt : ∀ {b et s n : Nat} {v : Value} {ys : List Value}, w.ownsRow b et s v n ys → ∀ g, v.ownBlock = some g → g < w.heap.size := fun h g hg => (h.lt g hg).2
  have hx : ∀ (j : Nat) (u : Value), (xs ++ [x])[j]? = some u → xs[j]? = some u ∨ (j = xs.length ∧ u = x) := by
    intro j u hu
    by_cases hj : j < xs.length
    · rw [List.getElem?_append_left hj] at hu; exact .inl hu
    · rw [List.getElem?_append_right (by omega)] at hu
      have : j - xs.length = 0 := by
        by_cases h0 : j - xs.length = 0
        · exact h0
        · rw [List.getElem?_eq_none (by simp; omega)] at hu; cases hu
      rw [this] at hu
      exact .inr ⟨by omega, by simpa using hu.symm⟩
  refine ⟨⟨ha.other h.st.lies.row h.st.lgap.symm.or, fun i v hi => ha.other (h.st.lies.each i v hi) (own_types_ne (h.st.lies.each i v hi) h.st.long hne)⟩, by rw [List.length_append]; exact ha.own, fun j u hu => ?_, h.st.lgap.app ha (hlt h.st.lies.row), fun j k u v hjk hu hv => ?_, fun i j u v hij hu hv => ?_⟩
  · rcases hx j u hu with hu | ⟨rfl, rfl⟩
    · exact ha.other (h.st.more j u hu) (own_types_ne (h.st.more j u hu) h.st.long hne)
    · exact ha.other h.own (own_types_ne h.own h.st.long hne)
  · rcases hx j u hu with hu | ⟨rfl, rfl⟩
    · exact h.st.xv j k u v hjk hu hv
    · exact h.apv k v (Ne.symm hjk) hv
  · rcases hx i u hu with hu' | ⟨rfl, rfl⟩
    · rcases hx j v hv with hv' | ⟨rfl, rfl⟩
      · exact h.st.xx i j u v hij hu' hv'
      · exact (h.apx i u hu').symm
    · rcases hx j v hv with hv' | ⟨rfl, rfl⟩
      · exact h.apx j v hv'
      · exact absurd rfl hij
end
end Go.Proofs.Ytnomddhgcdoifaa
