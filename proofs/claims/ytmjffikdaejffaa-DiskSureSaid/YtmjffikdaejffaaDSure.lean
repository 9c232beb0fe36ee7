/- DiskSure, what lies in memory: the disk, the row of what was written first, the rows of what was written later. -/
import Derived.Test.YtmjffikdaejffaaDSureP
import Derived.Test.YtmjffikdaejffaaFam
namespace Go.Proofs.Ytmjffikdaejffaa
open Go.RowKit

theorem Held.sub {w : World} {X F : Nat → Prop} {A : Option Addr} {n c : Nat} {l : List UInt8} (h : Held w X A n c l) (hs : ∀ k, F k → X k) : Held w F A n c l := ⟨h.own, fun k e hf => h.apart k e (hs k hf)⟩

/-- The disk, and all that may turn (X). -/
structure Has (W w : World) (F X : Nat → Prop) (g : Nat) (d : Dk) : Prop where
  mine : Mine W w F g d
  sub : ∀ k, F k → X k
  ge : ∀ k, X k → W.heap.size ≤ k
  lt : ∀ k, X k → k < w.heap.size
section
variable {W w w' : World} {F F' X X' : Nat → Prop} {g gw : Nat} {d d' : Dk} {cs : Array Value} {rs : List (List UInt8)} {t : TypeId}
theorem Has.below (h : Has W w F X g d) (hb : Below w.heap.size w w') : Has W w' F X g d := ⟨h.mine.below hb, h.sub, h.ge, fun k hk => Nat.lt_of_lt_of_le (h.lt k hk) hb.size⟩
/-- The disk turns: what may turn is more, by what it has made. -/
theorem Has.step (h : Has W w F X g d) (hp : PD w' F' g d') (hm : Mv F F' w w') : Has W w' F' (fun k => X k ∨ F' k) g d' ∧ Mv X (fun k => X k ∨ F' k) w w' := by
  have hnew : ∀ k, F' k → X k ∨ w.heap.size ≤ k := fun k hk => (hm.new k hk).imp (h.sub k) id
  refine ⟨⟨h.mine.step hp hm, fun k hk => .inr hk, ?_, ?_⟩, ⟨hm.kp.mono h.sub, ?_⟩⟩
  · rintro k (hk | hk)
    · exact h.ge k hk
    · rcases hnew k hk with h1 | h1
      · exact h.ge k h1
      · have := h.mine.2.2.size; omega
  · rintro k (hk | hk)
    · exact Nat.lt_of_lt_of_le (h.lt k hk) hm.kp.size
    · exact hp.lt k hk
  · rintro k (hk | hk)
    · exact .inl hk
    · exact hnew k hk
/-- Something else of what may turn turns. -/
theorem Has.kp (h : Has W w F X g d) {K : Nat → Prop} (hk : Kp K w w') (hd : ∀ k, F k → ¬ K k) (hK : ∀ k, K k → X k) : Has W w' F X g d :=
  ⟨h.mine.kp hk hd fun k hh => h.ge k (hK k hh), h.sub, h.ge, fun k hh => Nat.lt_of_lt_of_le (h.lt k hh) hk.size⟩

/-- A row's slices, each of 32 bytes of its own, apart from all that may turn. -/
def Rows32 (w : World) (X : Nat → Prop) (vs : List Value) (ls : List (List UInt8)) : Prop := ∀ i, i < ls.length → ∃ A c, vs[i]? = some (.slice A 32 c) ∧ Held w X A 32 c (ls.getD i [])
theorem Rows32.step {vs : List Value} {ls : List (List UInt8)} (h : Rows32 w X vs ls) (hm : Mv X X' w w') : Rows32 w' X' vs ls := fun i hi => by
  obtain ⟨A, c, h1, h2⟩ := h i hi
  exact ⟨A, c, h1, h2.step hm⟩
theorem Rows32.below {vs : List Value} {ls : List (List UInt8)} (h : Rows32 w X vs ls) (hb : Below w.heap.size w w') : Rows32 w' X vs ls := fun i hi => by
  obtain ⟨A, c, h1, h2⟩ := h i hi
  exact ⟨A, c, h1, h2.below hb⟩
theorem Rows32.nil (vs : List Value) : Rows32 w X vs [] := fun i hi => absurd hi (by simp)
theorem Rows32.set_ {vs : List Value} {ls : List (List UInt8)} {A : Option Addr} {c : Nat} {l : List UInt8} (h : Rows32 w X vs ls) (hv : ls.length < vs.length) (hh : Held w X A 32 c l) : Rows32 w X (vs.set ls.length (.slice A 32 c)) (ls ++ [l]) := fun i hi => by
  rw [List.length_append, List.length_singleton] at hi
  by_cases e : i < ls.length
  · obtain ⟨A', c', h1, h2⟩ := h i e
    have e2 : (ls ++ [l]).getD i [] = ls.getD i [] := by simp [List.getD, List.getElem?_append_left e]
    exact ⟨A', c', by rw [List.getElem?_set_ne (by omega)]; exact h1, by rw [e2]; exact h2⟩
  · obtain rfl : i = ls.length := by omega
    exact ⟨A, c, List.getElem?_set_self hv, by simpa [List.getD] using hh⟩
theorem Rows32.push {vs : List Value} {ls : List (List UInt8)} {A : Option Addr} {c : Nat} {l : List UInt8} (h : Rows32 w X vs ls) (hv : vs.length = ls.length) (hh : Held w X A 32 c l) : Rows32 w X (vs ++ [.slice A 32 c]) (ls ++ [l]) := fun i hi => by
  rw [List.length_append, List.length_singleton] at hi
  by_cases e : i < ls.length
  · obtain ⟨A', c', h1, h2⟩ := h i e
    have e2 : (ls ++ [l]).getD i [] = ls.getD i [] := by simp [List.getD, List.getElem?_append_left e]
    exact ⟨A', c', by rw [List.getElem?_append_left (by omega)]; exact h1, by rw [e2]; exact h2⟩
  · obtain rfl : i = ls.length := by omega
    exact ⟨A, c, by rw [← hv]; simp, by simpa [List.getD] using hh⟩

/-- The first loop. -/
def First (W w : World) (g gw : Nat) (d : Dk) (cs : List Value) (rs : List (List UInt8)) : Prop :=
  ∃ F X, Has W w F X g d ∧ X gw ∧ ¬ F gw ∧ Bk w gw 38 cs.toArray ∧ cs.length = 8 ∧ Rows32 w X cs rs
theorem First.below {cs : List Value} (h : First W w g gw d cs rs) (hb : Below w.heap.size w w') : First W w' g gw d cs rs := by
  obtain ⟨F, X, h1, h2, h3, h4, h5, h6⟩ := h
  exact ⟨F, X, h1.below hb, h2, h3, h4.below hb h4.lt, h5, h6.below hb⟩
/-- One row more, laid in its place. -/
theorem First.lay {cs : List Value} {A : Option Addr} {c : Nat} {r : List UInt8} (h : First W w g gw d cs rs) (h8 : rs.length < 8) (ho : w'.ownsRow w.heap.size 5 1 (.slice A 32 c) 32 (u8s r)) (hb : Below w.heap.size w w') :
    First W (w'.setCell ⟨gw, rs.length, none⟩ (.slice A 32 c)) g gw d (cs.set rs.length (.slice A 32 c)) (rs ++ [r]) ∧ ∃ F, Mine W (w'.setCell ⟨gw, rs.length, none⟩ (.slice A 32 c)) F g d ∧ Held (w'.setCell ⟨gw, rs.length, none⟩ (.slice A 32 c)) F A 32 c r := by
  obtain ⟨F, X, h1, h2, h3, h4, h5, h6⟩ := h
  have hk : Kp (fun k => k = gw) w' (w'.setCell ⟨gw, rs.length, none⟩ (.slice A 32 c)) := Kp.set_ (F := fun k => k = gw) (p := ⟨gw, rs.length, none⟩) rfl _
  have hX : Mv X X w' (w'.setCell ⟨gw, rs.length, none⟩ (.slice A 32 c)) := Mv.of (hk.mono fun k e => e ▸ h2)
  have hh : Held w' X A 32 c r := Held.make (e := h1.lt) ho
  have h1' := (h1.below hb).kp hk (fun k hf e => h3 (e ▸ hf)) (fun k e => e ▸ h2)
  have h4' := (h4.below hb h4.lt).set_ rs.length (.slice A 32 c)
  refine ⟨⟨F, X, h1', h2, h3, by simpa using h4', by simpa using h5, ((h6.below hb).step hX).set_ (by omega) (hh.step hX)⟩, F, h1'.mine, (hh.step hX).sub h1.sub⟩
/-- The disk turns. -/
theorem First.turn {cs : List Value} (h1 : Has W w F X g d) (h2 : X gw) (h3 : ¬ F gw) (h4 : Bk w gw 38 cs.toArray) (h5 : cs.length = 8) (h6 : Rows32 w X cs rs) (hp : PD w' F' g d') (hm : Mv F F' w w') : First W w' g gw d' cs rs := by
  obtain ⟨k1, k2⟩ := h1.step hp hm
  exact ⟨F', _, k1, .inl h2, fun hf => by
    rcases hm.new gw hf with h | h
    · exact h3 h
    · have := h4.lt; omega, h4.kp hm.kp h3, h5, h6.step k2⟩
theorem First.put {cs : List Value} {A : Option Addr} {c : Nat} {r : List UInt8} (h : First W w g gw d cs rs) (hf : Fill d rs) (h8 : rs.length < 8) (hr : r.length = 32) (ho : w'.ownsRow w.heap.size 5 1 (.slice A 32 c) 32 (u8s r)) (hb : Below w.heap.size w w') :
    Calls Try.prog 15 #[.pointer (some ⟨g, 0, none⟩), .int .i64 ((rs.length : Nat) : Int), .slice A 32 c] (w'.setCell ⟨gw, rs.length, none⟩ (.slice A 32 c)) fun e w2 => e = .returned (.int .i64 0) ∧ First W w2 g gw (d.write rs.length r).2 (cs.set rs.length (.slice A 32 c)) (rs ++ [r]) := by
  obtain ⟨⟨F, X, h1, h2, h3, h4, h5, h6⟩, _⟩ := h.lay h8 ho hb
  obtain ⟨A', c', e, hh⟩ := h6 rs.length (by simp)
  have h5' : cs.length = 8 := by simpa using h5
  rw [List.getElem?_set_self (by omega)] at e
  have e2 : (rs ++ [r]).getD rs.length [] = r := by simp [List.getD]
  rw [e2] at hh
  obtain ⟨rfl, rfl⟩ : A = A' ∧ c = c' := by
    injection e with e
    injection e with e1 _ e3
    exact ⟨e1, e3⟩
  have hh' := hh.sub h1.sub
  have hw := write_any g d F rs.length A 32 c r _ (by omega) (by have := hf.wl; omega) hh'.rd hh'.ap h1.mine.1
  rw [(hf.write h8 hr).1] at hw
  refine hw.mono ?_
  rintro e w2 ⟨rfl, F', hp, hm⟩
  exact ⟨rfl, First.turn h1 h2 h3 h4 h5 h6 hp hm⟩

/-- A block of another type of cells is no row's. -/
theorem own_bk {t2 : TypeId} {ys : Array Value} {b e s n : Nat} {v : Value} {xs : List Value} (h : w.ownsRow b e s v n xs) (hb : Bk w gw t2 ys) (hne : e ≠ t2) : v.ownBlock ≠ some gw := fun hk => by
  rcases h.2 with ⟨rfl, _⟩ | ⟨q, cap, cur, rfl, _, hh, _⟩
  · simp [Value.ownBlock] at hk
  · have e1 : q = gw := by simpa [Value.ownBlock] using hk
    subst e1
    unfold Bk at hb
    rw [hb] at hh
    injection hh with hh
    injection hh with _ hh _
    exact hne hh.symm

/-- A row of what was written to one sector. -/
structure One (w : World) (F X : Nat → Prop) (v : Value) (vals : List Value) (ls : List (List UInt8)) : Prop where
  row : w.ownsRow 0 37 1 v vals.length vals
  foot : ∀ k, v.ownBlock = some k → X k ∧ ¬ F k
  len : vals.length = ls.length
  rows : Rows32 w X vals ls
theorem One.below {v : Value} {vals : List Value} {ls : List (List UInt8)} (h : One w F X v vals ls) (hb : Below w.heap.size w w') : One w' F X v vals ls :=
  ⟨own_below h.row hb fun k e => (h.row.lt k e).2, h.foot, h.len, h.rows.below hb⟩
/-- Something else turns. -/
theorem One.kp {v : Value} {vals : List Value} {ls : List (List UInt8)} {K : Nat → Prop} (h : One w F X v vals ls) (hk : Kp K w w') (hn : ∀ k, v.ownBlock = some k → ¬ K k) (hm : Mv X X' w w') (hF : ∀ k, F' k → F k ∨ w.heap.size ≤ k) (hX : ∀ k, X k → X' k) : One w' F' X' v vals ls :=
  ⟨own_kp h.row hk hn, fun k e => ⟨hX k (h.foot k e).1, fun hf => by
    rcases hF k hf with h1 | h1
    · exact (h.foot k e).2 h1
    · have := (h.row.lt k e).2; omega⟩, h.len, h.rows.step hm⟩

/-- The second loop. -/
structure Second (W w : World) (F X : Nat → Prop) (g gw gp : Nat) (d : Dk) (cs ps : List Value) (rs : List (List UInt8)) (V : Nat → List Value) (L : Nat → List (List UInt8)) : Prop where
  has : Has W w F X g d
  xw : X gw
  fw : ¬ F gw
  bw : Bk w gw 38 cs.toArray
  lw : cs.length = 8
  rows : Rows32 w X cs rs
  xp : X gp
  fp : ¬ F gp
  bp : Bk w gp 43 ps.toArray
  lp : ps.length = 8
  one : ∀ (a : Nat) (v : Value), ps[a]? = some v → One w F X v (V a) (L a)
  apart : ∀ (a b : Nat) (v u : Value), a ≠ b → ps[a]? = some v → ps[b]? = some u → Apart v u
theorem Second.below {gp : Nat} {cs ps : List Value} {V : Nat → List Value} {L : Nat → List (List UInt8)} (h : Second W w F X g gw gp d cs ps rs V L) (hb : Below w.heap.size w w') : Second W w' F X g gw gp d cs ps rs V L :=
  ⟨h.has.below hb, h.xw, h.fw, h.bw.below hb h.bw.lt, h.lw, h.rows.below hb, h.xp, h.fp, h.bp.below hb h.bp.lt, h.lp, fun a v hv => (h.one a v hv).below hb, h.apart⟩
/-- The disk turns. -/
theorem Second.turn {gp : Nat} {cs ps : List Value} {V : Nat → List Value} {L : Nat → List (List UInt8)} (h : Second W w F X g gw gp d cs ps rs V L) (hp : PD w' F' g d') (hm : Mv F F' w w') : Second W w' F' (fun k => X k ∨ F' k) g gw gp d' cs ps rs V L := by
  obtain ⟨k1, k2⟩ := h.has.step hp hm
  have hn : ∀ q, q < w.heap.size → ¬ F q → ¬ F' q := fun q hq hf hf' => by
    rcases hm.new q hf' with h1 | h1
    · exact hf h1
    · omega
  exact ⟨k1, .inl h.xw, hn _ h.bw.lt h.fw, h.bw.kp hm.kp h.fw, h.lw, h.rows.step k2, .inl h.xp, hn _ h.bp.lt h.fp, h.bp.kp hm.kp h.fp, h.lp, fun a v hv => (h.one a v hv).kp hm.kp (fun k e => ((h.one a v hv).foot k e).2) k2 hm.new (fun k hk => .inl hk), h.apart⟩
/-- The start: eight rows of nothing. -/
theorem Second.start {cs : List Value} (h1 : Has W w F X g d) (h2 : X gw) (h3 : ¬ F gw) (h4 : Bk w gw 38 cs.toArray) (h5 : cs.length = 8) (h6 : Rows32 w X cs rs) {ys : Array Value} (hys : ys = (List.replicate 8 (Value.slice none 0 0)).toArray) :
    Second W (w.alloc (.cells ys 43)) F (fun k => X k ∨ k = w.heap.size) g gw w.heap.size d cs (List.replicate 8 (Value.slice none 0 0)) rs (fun _ => []) (fun _ => []) := by
  subst hys
  have hb := (Below.refl w.heap.size w).alloc (Nat.le_refl _) (.cells (List.replicate 8 (Value.slice none 0 0)).toArray 43)
  have hh := h1.below hb
  have hmv : Mv X (fun k => X k ∨ k = w.heap.size) w (w.alloc (.cells (List.replicate 8 (Value.slice none 0 0)).toArray 43)) := ⟨Kp.alloc _ _ _, fun k h => h.imp id fun e => by omega⟩
  have hv : ∀ (a : Nat) (v : Value), (List.replicate 8 (Value.slice none 0 0))[a]? = some v → v = .slice none 0 0 := fun a v hv => by
    rw [List.getElem?_replicate] at hv
    split at hv
    · injection hv with hv; exact hv.symm
    · cases hv
  refine ⟨⟨hh.mine, fun k h => .inl (h1.sub k h), ?_, ?_⟩, .inl h2, h3, h4.below hb h4.lt, h5, h6.step hmv, .inr rfl, fun hf => by have := h1.mine.1.lt _ hf; omega, Bk.new w _ _, rfl, ?_, ?_⟩
  · rintro k (h | rfl)
    · exact h1.ge k h
    · exact h1.mine.2.2.size
  · rintro k (h | rfl)
    · exact hh.lt k h
    · simp
  · intro a v h
    rw [hv a v h]
    exact ⟨World.ownsRow_nil _ _ _ _, by intro k hk; simp [Value.ownBlock] at hk, rfl, Rows32.nil _⟩
  · intro a b v u _ h _ k hk
    rw [hv a v h] at hk
    simp [Value.ownBlock] at hk
/-- One more of one sector. -/
theorem Second.push {gp a n : Nat} {w1 w2 : World} {cs ps : List Value} {V : Nat → List Value} {L : Nat → List (List UInt8)} {v v' : Value} {A : Option Addr} {c : Nat} {b : List UInt8} (h : Second W w F X g gw gp d cs ps rs V L) (hv : ps[a]? = some v)
    (hh : Held w X A 32 c b) (hb : Below w.heap.size w w1) (hn : n = (V a).length) (ha : App w1 w2 0 37 1 v v' n 1 (V a) [.slice A 32 c]) :
    ∃ X', Second W (w2.setCell ⟨gp, a, none⟩ v') F X' g gw gp d cs (ps.set a v') rs (fun i => if i = a then V i ++ [.slice A 32 c] else V i) (more L a b) := by
  subst hn
  have h0 := h.below hb
  have o0 := h0.one a v hv
  have ha8 : a < ps.length := (List.getElem?_eq_some_iff.1 hv).1
  have hk : Kp (fun k => v.ownBlock = some k) w1 w2 := Kp.of_row ha.grow fun _ e => e
  have hX : Mv X (fun k => X k ∨ v'.ownBlock = some k) w1 w2 := ⟨hk.mono fun k e => (o0.foot k e).1, by
    rintro k (h1 | h1)
    · exact .inl h1
    · rcases ha.block with e | e
      · rw [e] at h1; exact .inl (o0.foot k h1).1
      · rw [e] at h1; injection h1 with h1; exact .inr (by omega)⟩
  have hnw : v.ownBlock ≠ some gw := own_bk o0.row h0.bw (by decide)
  have hnp : v.ownBlock ≠ some gp := own_bk o0.row h0.bp (by decide)
  have hFv : ∀ k, v'.ownBlock = some k → ¬ F k := fun k e hf => by
    rcases ha.block with e2 | e2
    · rw [e2] at e; exact (o0.foot k e).2 hf
    · rw [e2] at e; injection e with e; have := h0.has.mine.1.lt k hf; omega
  have hap : ∀ (i : Nat) (u : Value), i ≠ a → ps[i]? = some u → Apart v' u := fun i u hi hu => by
    refine (h.apart a i v u (Ne.symm hi) hv hu).app ha fun k e => ((h0.one i u hu).row.lt k e).2
  have hlt : ∀ k, v'.ownBlock = some k → k < w2.heap.size := fun k e => (ha.own.lt k e).2
  -- behind the append
  have g1 : Has W w2 F (fun k => X k ∨ v'.ownBlock = some k) g d := by
    have g0 := h0.has.kp hk (fun k hf e => (o0.foot k e).2 hf) (fun k e => (o0.foot k e).1)
    refine ⟨g0.mine, fun k hf => .inl (g0.sub k hf), ?_, ?_⟩
    · rintro k (h1 | h1)
      · exact g0.ge k h1
      · rcases hX.new k (.inr h1) with h2 | h2
        · exact g0.ge k h2
        · have := h0.has.mine.2.2.size; omega
    · rintro k (h1 | h1)
      · exact g0.lt k h1
      · exact hlt k h1
  have g2 := h0.bw.kp hk (fun e => hnw e)
  have g3 := h0.bp.kp hk (fun e => hnp e)
  have g4 : One w2 F (fun k => X k ∨ v'.ownBlock = some k) v' (V a ++ [.slice A 32 c]) (L a ++ [b]) :=
    ⟨by rw [List.length_append]; exact ha.own, fun k e => ⟨.inr e, hFv k e⟩, by rw [List.length_append, List.length_append, o0.len]; rfl, (o0.rows.step hX).push o0.len ((hh.below hb).step hX)⟩
  -- behind the store
  have s1 : Kp (fun k => k = gp) w2 (w2.setCell ⟨gp, a, none⟩ v') := Kp.set_ (F := fun k => k = gp) (p := ⟨gp, a, none⟩) rfl v'
  have s2 : Mv (fun k => X k ∨ v'.ownBlock = some k) (fun k => X k ∨ v'.ownBlock = some k) w2 (w2.setCell ⟨gp, a, none⟩ v') := Mv.of (s1.mono fun k e => .inl (e ▸ h.xp))
  have hne : gw ≠ gp := fun e => by
    have e1 := h.bw
    have e2 := h.bp
    rw [e] at e1
    unfold Bk at e1 e2
    rw [e1] at e2
    injection e2 with e2
    injection e2 with _ e2 _
    revert e2
    decide
  refine ⟨_, g1.kp s1 (fun k hf e => h.fp (e ▸ hf)) (fun k e => .inl (e ▸ h.xp)), .inl h.xw, h.fw, g2.kp s1 hne, h.lw, (h0.rows.step hX).step s2, .inl h.xp, h.fp, by simpa using g3.set_ a v', by simpa using h.lp, ?_, ?_⟩
  · intro i u hu
    by_cases hi : i = a
    · subst hi
      rw [List.getElem?_set_self ha8] at hu
      injection hu with hu
      subst hu
      rw [if_pos rfl, more_same]
      exact g4.kp s1 (fun k e e2 => own_bk g4.row g3 (by decide) (e2 ▸ e)) s2 (fun k hf => .inl hf) (fun k hk => hk)
    · rw [List.getElem?_set_ne (Ne.symm hi)] at hu
      rw [if_neg hi, more_other L a b hi]
      have o1 := (h0.one i u hu).kp hk (fun k e e2 => h.apart a i v u (Ne.symm hi) hv hu k e2 e) hX (fun k hf => .inl hf) (fun k hk => .inl hk)
      exact o1.kp s1 (fun k e e2 => own_bk o1.row g3 (by decide) (e2 ▸ e)) s2 (fun k hf => .inl hf) (fun k hk => hk)
  · intro i j x u hij hx hu
    by_cases hi : i = a
    · subst hi
      rw [List.getElem?_set_self ha8] at hx
      rw [List.getElem?_set_ne hij] at hu
      injection hx with hx
      subst hx
      exact hap j u (Ne.symm hij) hu
    · rw [List.getElem?_set_ne (Ne.symm hi)] at hx
      by_cases hj : j = a
      · subst hj
        rw [List.getElem?_set_self ha8] at hu
        injection hu with hu
        subst hu
        exact (hap i x hi hx).symm
      · rw [List.getElem?_set_ne (Ne.symm hj)] at hu
        exact h.apart i j x u hij hx hu
theorem Second.write {gp a n : Nat} {cs ps : List Value} {V : Nat → List Value} {L : Nat → List (List UInt8)} {A : Option Addr} {c : Nat} {b : List UInt8} (h : Second W w F X g gw gp d cs ps rs V L) (hu : Ups d rs L n) (hn : n ≤ 1000) (ha : a < 8) (hb : b.length = 32) (hh : Held w X A 32 c b) :
    Calls Try.prog 15 #[.pointer (some ⟨g, 0, none⟩), .int .i64 (a : Int), .slice A 32 c] w fun e w2 => e = .returned (.int .i64 0) ∧ ∃ F' X', Second W w2 F' X' g gw gp (d.write a b).2 cs ps rs V L ∧ Held w2 X' A 32 c b := by
  have hh' := hh.sub h.has.sub
  have hw := write_any g d F a A 32 c b w (by omega) (by have := hu.wl; omega) hh'.rd hh'.ap h.has.mine.1
  rw [(hu.write ha hb).1] at hw
  refine hw.mono ?_
  rintro e w2 ⟨rfl, F', hp, hm⟩
  exact ⟨rfl, F', _, h.turn hp hm, hh.step (h.has.step hp hm).2⟩
theorem Second.crash {gp n : Nat} {cs ps : List Value} {V : Nat → List Value} {L : Nat → List (List UInt8)} {A : Option Addr} {m c : Nat} {ks : List Int} (h : Second W w F X g gw gp d cs ps rs V L) (hu : Ups d rs L n) (hn : n ≤ 1000) (hm : m ≤ 9223372036854775807) (hk : RdI W W.heap.size A m ks) :
    ∃ S, Sures S rs L ∧ Calls Try.prog 17 #[.pointer (some ⟨g, 0, none⟩), .slice A m c] w fun e w2 => e = .returned (.tuple #[]) ∧ ∃ F' X', Second W w2 F' X' g gw gp (calm S) cs ps rs V L := by
  refine ⟨_, hu.crash ks, (crash_any g d F A m c ks w hm (by have := hu.wl; omega) (rdi_apart h.has.mine hk).1 (rdi_apart h.has.mine hk).2 h.has.mine.1).mono ?_⟩
  rintro e w2 ⟨rfl, F', hp, hmv⟩
  exact ⟨rfl, F', _, h.turn hp hmv⟩

/-- Bytes that are read: where they lie. -/
theorem Held.at32 {A : Option Addr} {c : Nat} {l : List UInt8} (h : Held w X A 32 c l) : ∃ b o, A = some ⟨b, o, none⟩ ∧ b < w.heap.size ∧ ∀ p, p < 32 → w.cell? ⟨b, o + p, none⟩ = some (.int .u8 (((l.getD p 0).toNat : Nat) : Int)) := by
  obtain ⟨h1, h2⟩ := h.rd
  obtain ⟨b, o, e, hb, hc⟩ := h2 (by omega)
  refine ⟨b, o, e, hb, fun p hp => ?_⟩
  rw [hc p (by omega)]
  simp [List.getD, show p < l.length by omega]
def ReadS (w : World) (F : Nat → Prop) (l : List UInt8) (e : Ending) (w' : World) : Prop := ∃ A c, e = .returned (.tuple #[.slice A 32 c, .int .i64 0]) ∧ Held w' F A 32 c l ∧ Below w.heap.size w w'
theorem Second.read {gp i : Nat} {cs ps : List Value} {V : Nat → List Value} {L : Nat → List (List UInt8)} {S : List (List UInt8)} (h : Second W w F X g gw gp (calm S) cs ps rs V L) (hS : Sures S rs L) (hi : i < 8) :
    Calls Try.prog 18 #[.pointer (some ⟨g, 0, none⟩), .int .i64 (i : Int)] w (ReadS w F (S.getD i [])) := by
  refine (calm_read_any g S F i (by rw [hS.len]; exact hi) W w h.has.mine).mono ?_
  rintro e w' ⟨A, n, c, rfl, hh, hb⟩
  have hn : n = 32 := by rw [← hh.len]; exact hS.rows i hi
  subst hn
  exact ⟨A, c, rfl, hh, hb⟩
/-- Where was[i] lies. -/
theorem Second.was {gp i : Nat} {cs ps : List Value} {V : Nat → List Value} {L : Nat → List (List UInt8)} (h : Second W w F X g gw gp d cs ps rs V L) (hr : rs.length = 8) (hi : i < 8) :
    ∃ b o c, w.cell? ⟨gw, i, none⟩ = some (.slice (some ⟨b, o, none⟩) 32 c) ∧ ∀ p, p < 32 → w.cell? ⟨b, o + p, none⟩ = some (.int .u8 ((((rs.getD i []).getD p 0).toNat : Nat) : Int)) := by
  obtain ⟨A, c, h1, h2⟩ := h.rows i (by omega)
  obtain ⟨b, o, rfl, _, h3⟩ := h2.at32
  exact ⟨b, o, c, by rw [h.bw.cell]; simpa using h1, h3⟩
/-- Where puts[i] lies. -/
theorem Second.puts {gp i : Nat} {cs ps : List Value} {V : Nat → List Value} {L : Nat → List (List UInt8)} (h : Second W w F X g gw gp d cs ps rs V L) (hi : i < 8) :
    ∃ A c, w.cell? ⟨gp, i, none⟩ = some (.slice A (L i).length c) ∧ ∀ t, t < (L i).length → ∃ q, A = some ⟨q, 0, none⟩ ∧ ∃ b o c, w.cell? ⟨q, t, none⟩ = some (.slice (some ⟨b, o, none⟩) 32 c) ∧ ∀ p, p < 32 → w.cell? ⟨b, o + p, none⟩ = some (.int .u8 (((((L i).getD t []).getD p 0).toNat : Nat) : Int)) := by
  have hv : ps[i]? = some (ps[i]'(by rw [h.lp]; exact hi)) := List.getElem?_eq_getElem _
  generalize ps[i]'(by rw [h.lp]; exact hi) = v at hv
  have h1 := h.one i v hv
  have hrow := h1.row
  rw [h1.len] at hrow
  obtain ⟨A, c, rfl, _⟩ := own_shape hrow
  refine ⟨A, c, by rw [h.bp.cell]; simpa using hv, fun t ht => ?_⟩
  obtain ⟨q, c', e, _, _⟩ := own_some hrow (by omega)
  obtain ⟨rfl, rfl⟩ : A = some ⟨q, 0, none⟩ ∧ c = c' := by injection e with e1 _ e3; exact ⟨e1, e3⟩
  obtain ⟨A2, c2, h2, h3⟩ := h1.rows t ht
  obtain ⟨b, o, rfl, _, h4⟩ := h3.at32
  exact ⟨q, rfl, b, o, c2, (hrow.cellAt t (by omega)).trans h2, h4⟩
theorem getD_of {a b : List UInt8} {p : Nat} (h : a[p]? = b[p]?) : a.getD p 0 = b.getD p 0 := by unfold List.getD; rw [h]
theorem Sures.ok {S : List (List UInt8)} {L : Nat → List (List UInt8)} (h : Sures S rs L) {i p : Nat} (hi : i < 8) (hp : p < 32) : (S.getD i []).getD p 0 = (rs.getD i []).getD p 0 ∨ ∃ t, t < (L i).length ∧ (S.getD i []).getD p 0 = ((L i).getD t []).getD p 0 := by
  rcases h.has i p hi hp with h1 | ⟨b, hb, h1⟩
  · exact .inl (getD_of h1)
  · obtain ⟨t, ht, rfl⟩ := List.mem_iff_getElem.1 hb
    refine .inr ⟨t, ht, ?_⟩
    have e : (L i).getD t [] = (L i)[t] := by simp [List.getD, ht]
    rw [e]
    exact getD_of h1
end
end Go.Proofs.Ytmjffikdaejffaa
