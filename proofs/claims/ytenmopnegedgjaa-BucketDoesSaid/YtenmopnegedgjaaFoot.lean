/- What a call may have turned: the blocks of a set, and what is new. No program is named here. -/
import Derived.Test.YtenmopnegedgjaaAppend
import Derived.Test.YtenmopnegedgjaaBk
import Derived.Deep.MidRow
namespace Go.Proofs.Ytenmopnegedgjaa
open Go.RowKit

/-- Of what was there only blocks of F may have turned. -/
structure Kp (F : Nat → Prop) (w w' : World) : Prop where
  os : w'.os = w.os
  tape : w'.tape = w.tape
  output : w'.output = w.output
  size : w.heap.size ≤ w'.heap.size
  block : ∀ k, k < w.heap.size → ¬ F k → w'.heap[k]? = w.heap[k]?
/-- An object had the blocks F, and has the blocks F' now: old ones of its own, or new ones. -/
structure Mv (F F' : Nat → Prop) (w w' : World) : Prop where
  kp : Kp F w w'
  new : ∀ k, F' k → F k ∨ w.heap.size ≤ k

section
variable {F F' G H : Nat → Prop} {a b c w w' : World}
theorem Kp.refl (F : Nat → Prop) (w : World) : Kp F w w := ⟨rfl, rfl, rfl, Nat.le_refl _, fun _ _ _ => rfl⟩
theorem Kp.mono (h : Kp F w w') (hs : ∀ k, F k → G k) : Kp G w w' := ⟨h.os, h.tape, h.output, h.size, fun k hk hg => h.block k hk fun hf => hg (hs k hf)⟩
theorem Kp.trans' (h : Kp F a b) (k : Kp G b c) (hG : ∀ i, G i → F i ∨ a.heap.size ≤ i) : Kp F a c :=
  ⟨k.os.trans h.os, k.tape.trans h.tape, k.output.trans h.output, Nat.le_trans h.size k.size, fun i hi hf =>
    (k.block i (Nat.lt_of_lt_of_le hi h.size) fun hg => by
      rcases hG i hg with h1 | h1
      · exact hf h1
      · omega).trans (h.block i hi hf)⟩
theorem Kp.trans (h : Kp F a b) (k : Kp F b c) : Kp F a c := h.trans' k fun _ hi => .inl hi
theorem Kp.of_row {row : Option Nat} (h : w.grownBy w' row) (hr : ∀ g, row = some g → F g) : Kp F w w' := ⟨h.os, h.tape, h.output, h.size, fun k hk hf => h.block k hk fun e => hf (hr k e.symm)⟩
theorem Kp.of_grown {g : Nat} (h : w.grownBy w' (some g)) (hg : F g) : Kp F w w' := Kp.of_row h fun k e => by injection e with e; subst e; exact hg
theorem Kp.of_below (h : Below w.heap.size w w') : Kp F w w' := ⟨h.os, h.tape, h.output, h.size, fun k hk _ => h.block k hk⟩
theorem Kp.below {B : Nat} (h : Kp F w w') (hF : ∀ k, F k → B ≤ k) (hB : B ≤ w.heap.size) : Below B w w' := ⟨h.os, h.tape, h.output, h.size, fun k hk => h.block k (by omega) fun hf => by have := hF k hf; omega⟩
theorem Kp.none_ (h : Kp (fun _ => False) w w') : Below w.heap.size w w' := h.below (fun _ h => h.elim) (Nat.le_refl _)
theorem Kp.drewN (F : Nat → Prop) (w : World) (q : Nat) : Kp F w (w.drewN q) := ⟨rfl, rfl, rfl, Nat.le_refl _, fun _ _ _ => rfl⟩
theorem Kp.drew (F : Nat → Prop) (w : World) : Kp F w w.drew := ⟨rfl, rfl, rfl, Nat.le_refl _, fun _ _ _ => rfl⟩
theorem Kp.alloc (F : Nat → Prop) (w : World) (o : Obj) : Kp F w (w.alloc o) := Kp.of_below ((Below.refl _ _).alloc (Nat.le_refl _) o)
theorem Kp.set_ {p : Addr} (hp : F p.block) (u : Value) : Kp F w (w.setCell p u) := ⟨rfl, rfl, rfl, by simp [World.setCell], fun k _ hf => Below.heap_setCell w p u k fun e => hf (by rw [e]; exact hp)⟩
theorem Kp.sets {g : Nat} (hp : F g) : ∀ (vs : List Value) (o : Nat) (w : World), Kp F w (w.setCells g o vs)
  | [], _, _ => Kp.refl F _
  | v :: r, o, _ => (Kp.set_ (p := ⟨g, o, none⟩) hp v).trans (Kp.sets hp r (o + 1) _)
theorem Mv.refl (F : Nat → Prop) (w : World) : Mv F F w w := ⟨Kp.refl F w, fun _ h => .inl h⟩
theorem Mv.trans (h : Mv F G a b) (k : Mv G H b c) : Mv F H a c :=
  ⟨h.kp.trans' k.kp h.new, fun i hi => by
    rcases k.new i hi with h1 | h1
    · exact h.new i h1
    · exact .inr (Nat.le_trans h.kp.size h1)⟩
theorem Mv.of (h : Kp F w w') : Mv F F w w' := ⟨h, fun _ h => .inl h⟩
/-- What lies apart from the one lies apart from it later. -/
theorem Mv.apart (h : Mv F F' w w') {G : Nat → Prop} (hG : ∀ k, G k → k < w.heap.size) (hd : ∀ k, F k → ¬ G k) : ∀ k, F' k → ¬ G k := fun k hk hg => by
  rcases h.new k hk with h1 | h1
  · exact hd k h1 hg
  · have := hG k hg; omega
theorem Mv.ge (h : Mv F F' w w') {B : Nat} (hB : B ≤ w.heap.size) (hd : ∀ k, F k → B ≤ k) : ∀ k, F' k → B ≤ k := fun k hk => by
  rcases h.new k hk with h1 | h1
  · exact hd k h1
  · omega
theorem Bk.kp {g : Nat} {t : TypeId} {cs : Array Value} (h : Bk w g t cs) (hk : Kp F w w') (hg : ¬ F g) : Bk w' g t cs := (hk.block g h.lt hg).trans h
theorem own_kp {base e size n : Nat} {v : Value} {xs : List Value} (h : w.ownsRow base e size v n xs) (hk : Kp F w w') (hg : ∀ k, v.ownBlock = some k → ¬ F k) : w'.ownsRow base e size v n xs := by
  refine ⟨h.1, ?_⟩
  rcases h.2 with h' | ⟨g, cap, cur, rfl, hb, hh, r⟩
  · exact .inl h'
  · exact .inr ⟨g, cap, cur, rfl, hb, by rw [hk.block g (Array.getElem?_eq_some_iff.1 hh).1 (hg g rfl)]; exact hh, r⟩
theorem Rd.kp {B n : Nat} {A : Option Addr} {l : List UInt8} (h : Rd w B A n l) (hk : Kp F w w') (hB : B ≤ w.heap.size) (hF : ∀ k, k < B → ¬ F k) : Rd w' B A n l :=
  h.keep fun p hp => World.cell?_of_block (hk.block p.block (by omega) (hF _ hp))
theorem cell_kp {p : Addr} {v : Value} (h : w.cell? p = some v) (hk : Kp F w w') (hg : ¬ F p.block) : w'.cell? p = some v :=
  (World.cell?_of_block (hk.block p.block (World.block_lt_of_cell? w p h) hg)).trans h
theorem range_kp {g o : Nat} {cs : List Value} (h : w.rangeAt g o cs) (hk : Kp F w w') (hg : ¬ F g) : w'.rangeAt g o cs := fun j u hu => cell_kp (h j u hu) hk hg
theorem there_kp {g o n : Nat} (h : w.there g o n) (hk : Kp F w w') (hg : ¬ F g) : w'.there g o n := fun j hj => by
  obtain ⟨u, hu⟩ := Option.isSome_iff_exists.1 (h j hj).1
  have hb := hk.block g (World.block_lt_of_cell? w ⟨g, o + j, none⟩ hu) hg
  exact ⟨by rw [World.cell?_of_block (a := ⟨g, o + j, none⟩) hb]; exact (h j hj).1, by rw [World.frozen?_of_block (a := ⟨g, o + j, none⟩) hb]; exact (h j hj).2⟩
theorem frozen_kp {p : Addr} {v : Value} (h : w.cell? p = some v) (hk : Kp F w w') (hg : ¬ F p.block) : w'.frozen? p = w.frozen? p :=
  World.frozen?_of_block (hk.block p.block (World.block_lt_of_cell? w p h) hg)
end

/-- vs laid over xs from o on. -/
def over (xs : List Value) (o : Nat) (vs : List Value) : List Value := xs.take o ++ (vs ++ xs.drop (o + vs.length))
theorem over_nil (xs : List Value) (o : Nat) : over xs o [] = xs := by unfold over; simp
theorem over_cons (xs : List Value) (o : Nat) (v : Value) (r : List Value) (h : o < xs.length) : over (xs.set o v) (o + 1) r = over xs o (v :: r) := by
  unfold over
  have e1 : (xs.set o v).take (o + 1) = xs.take o ++ [v] := by
    rw [List.take_set, List.take_succ_eq_append_getElem h, List.set_append_right _ _ (by rw [List.length_take]; omega)]
    rw [List.length_take, Nat.min_eq_left (by omega), Nat.sub_self]
    rfl
  have e2 : (xs.set o v).drop (o + 1 + r.length) = xs.drop (o + (v :: r).length) := by
    rw [List.drop_set_of_lt (by omega), List.length_cons]
    congr 1
    omega
  rw [e1, e2]
  simp
theorem over_len (xs : List Value) (o : Nat) (vs : List Value) (h : o + vs.length ≤ xs.length) : (over xs o vs).length = xs.length := by
  unfold over
  rw [List.length_append, List.length_append, List.length_take, List.length_drop]
  omega
theorem over_get (xs : List Value) (o : Nat) (vs : List Value) (h : o + vs.length ≤ xs.length) (j : Nat) : (over xs o vs)[j]? = if o ≤ j ∧ j < o + vs.length then vs[j - o]? else xs[j]? := by
  unfold over
  have hl : (xs.take o).length = o := by rw [List.length_take]; omega
  by_cases h1 : j < o
  · rw [List.getElem?_append_left (by omega), List.getElem?_take_of_lt h1, if_neg (by omega)]
  · rw [List.getElem?_append_right (by omega), hl]
    by_cases h2 : j < o + vs.length
    · rw [List.getElem?_append_left (by omega), if_pos ⟨by omega, h2⟩]
    · rw [List.getElem?_append_right (by omega), List.getElem?_drop, if_neg (by omega)]
      congr 1
      omega

theorem heap_sets (g : Nat) (t : TypeId) : ∀ (vs : List Value) (o : Nat) (w : World) (cs : List Value), w.heap[g]? = some (.cells cs.toArray t (0, 0)) → o + vs.length ≤ cs.length →
    (w.setCells g o vs).heap[g]? = some (.cells (over cs o vs).toArray t (0, 0))
  | [], o, w, cs, h, _ => by rw [over_nil]; exact h
  | v :: r, o, w, cs, h, hl => by
    rw [List.length_cons] at hl
    rw [World.setCells, ← over_cons cs o v r (by omega)]
    refine heap_sets g t r (o + 1) _ (cs.set o v) ?_ (by rw [List.length_set]; omega)
    rw [heap_setCell_same w g o cs.toArray t v h, List.setIfInBounds_toArray]
theorem Bk.sets {w : World} {g : Nat} {t : TypeId} {cs : List Value} (h : Bk w g t cs.toArray) (o : Nat) (vs : List Value) (hl : o + vs.length ≤ cs.length) : Bk (w.setCells g o vs) g t (over cs o vs).toArray := heap_sets g t vs o w cs h hl
theorem own_sets {w : World} {base e size n cap g : Nat} {xs : List Value} (h : w.ownsRow base e size (.slice (some ⟨g, 0, none⟩) n cap) n xs) (o : Nat) (vs : List Value) (hl : o + vs.length ≤ n * size) :
    (w.setCells g o vs).ownsRow base e size (.slice (some ⟨g, 0, none⟩) n cap) n (over xs o vs) := by
  have hx := h.1
  refine ⟨by rw [over_len _ _ _ (by omega)]; exact hx, ?_⟩
  rcases h.2 with ⟨h', _⟩ | ⟨g', cap', cur, hv, hb, hh, hnc, hcm, hcs, ht⟩
  · cases h'
  · injection hv with h1 _ h3
    injection h1 with h1
    injection h1 with h1
    subst h1 h3
    have hle : n * size ≤ cap * size := Nat.mul_le_mul_right _ hnc
    have hlen : cur.toList.length = cap * size := by simpa using hcs
    refine .inr ⟨g, cap, (over cur.toList o vs).toArray, rfl, hb, heap_sets g e vs o w cur.toList hh (by omega), hnc, hcm, ?_, ?_⟩
    · rw [List.size_toArray, over_len _ _ _ (by omega)]; exact hlen
    · apply List.ext_getElem?
      intro j
      rw [← ht] at hx ⊢
      rw [over_get _ _ _ (by omega)]
      by_cases hj : j < n * size
      · rw [List.getElem?_take_of_lt hj, List.getElem?_take_of_lt hj, over_get _ _ _ (by omega)]
      · rw [List.getElem?_eq_none (by rw [List.length_take]; omega), if_neg (by omega), List.getElem?_eq_none (by rw [List.length_take]; omega)]

/-- A part of an owned row, as MidRow's laws want it. -/
theorem own_range {w : World} {base e size n cap g : Nat} {xs : List Value} (h : w.ownsRow base e size (.slice (some ⟨g, 0, none⟩) n cap) n xs) (o : Nat) (vs : List Value) (hv : ∀ j u, vs[j]? = some u → xs[o + j]? = some u) : w.rangeAt g o vs := fun j u hu => by
  have h1 := hv j u hu
  have hx := h.1
  have : o + j < xs.length := (List.getElem?_eq_some_iff.1 h1).1
  rw [h.cellAt (o + j) (by omega), h1]
theorem own_there {w : World} {base e size n cap g : Nat} {xs : List Value} (h : w.ownsRow base e size (.slice (some ⟨g, 0, none⟩) n cap) n xs) (o k : Nat) (hk : o + k ≤ n * size) : w.there g o k := fun j hj => by
  have hx := h.1
  exact ⟨by rw [h.cellAt (o + j) (by omega), List.getElem?_eq_getElem (by omega)]; rfl, h.frozenAt (o + j)⟩
theorem bk_range {w : World} {g : Nat} {t : TypeId} {cs : Array Value} (h : Bk w g t cs) (o : Nat) (vs : List Value) (hv : ∀ j u, vs[j]? = some u → cs[o + j]? = some u) : w.rangeAt g o vs := fun j u hu => by rw [h.cell]; exact hv j u hu
theorem bk_there {w : World} {g : Nat} {t : TypeId} {cs : Array Value} (h : Bk w g t cs) (o k : Nat) (hk : o + k ≤ cs.size) : w.there g o k := fun j hj =>
  ⟨by rw [h.cell, Array.getElem?_eq_getElem (by omega)]; rfl, h.frozen _⟩

section
variable {P : Program} {w : World}
/-- copy, from where to where does not matter: what is read is read ahead. -/
theorem wpList_copy_mid {ops : Array Oper} {rest : List Oper} {o : Oper} {a : Act} {Q : Exit → Act → World → Prop} (hgd : o.guard = none) (d s : Operand) (dT sT : TypeId)
    (ho : o.op = .call { callee := .builtin .copy, args := #[d, s], argTypes := #[dT, sT] }) (elem : TypeId) (hu : P.underlying dT = some (.slice elem)) (hsz : (P.info? elem).map (·.size) = some 1)
    (g off dLen dCap : Nat) (sa : Addr) (sLen sCap : Nat) (hd : a.eval d = .slice (some ⟨g, off, none⟩) dLen dCap) (hs : a.eval s = .slice (some sa) sLen sCap)
    (cs : List Value) (hn : cs.length = Nat.min sLen dLen) (hsrc : ∀ j v, cs[j]? = some v → w.cell? (sa.add j) = some v) (ht : w.there g off cs.length) (h1 : ∀ v ∈ cs, v.oneCell' = true)
    (h : wpList P ops Q rest (a.put o.dst (goInt cs.length)) (w.setCells g off cs)) : wpList P ops Q (o :: rest) a w := by
  refine wpList_plain hgd fun _ hK => ?_
  have hrun := run_copy_cells (P := P) w dT sT o.type elem g off dLen dCap sa sLen sCap cs hu hsz hn hsrc (fun j hj => (ht j hj).1) (fun j hj => (ht j hj).2) h1
  unfold Oper.wp execOp
  simp only [ho, resolve, invoke, builtin, Sem.run_bind, Sem.run_pure, Result.andThen_ok, List.map_toArray, List.map_cons, List.map_nil, hd, hs, hrun]
  exact hK _ _ h
theorem step_copy_mid {ops : Array Oper} {o : Oper} {a : Act} {K : Act → World → Prop} {Q : Exit → Act → World → Prop} {E : Prop} (hgd : o.guard = none) (d s : Operand) (dT sT : TypeId)
    (ho : o.op = .call { callee := .builtin .copy, args := #[d, s], argTypes := #[dT, sT] }) (elem : TypeId) (hu : P.underlying dT = some (.slice elem)) (hsz : (P.info? elem).map (·.size) = some 1)
    (g off dLen dCap : Nat) (sa : Addr) (sLen sCap : Nat) (hd : a.eval d = .slice (some ⟨g, off, none⟩) dLen dCap) (hs : a.eval s = .slice (some sa) sLen sCap)
    (cs : List Value) (hn : cs.length = Nat.min sLen dLen) (hsrc : ∀ j v, cs[j]? = some v → w.cell? (sa.add j) = some v) (ht : w.there g off cs.length) (h1 : ∀ v ∈ cs, v.oneCell' = true)
    (h : K (a.put o.dst (goInt cs.length)) (w.setCells g off cs)) : if Region.wanted o (yielded ops a.tmps) = true then Oper.wp P o a w K Q else E := by
  have hw : Region.wanted o (yielded ops a.tmps) = true := by simp [Region.wanted, hgd]
  rw [if_pos hw]
  have hrun := run_copy_cells (P := P) w dT sT o.type elem g off dLen dCap sa sLen sCap cs hu hsz hn hsrc (fun j hj => (ht j hj).1) (fun j hj => (ht j hj).2) h1
  unfold Oper.wp execOp
  simp only [ho, resolve, invoke, builtin, Sem.run_bind, Sem.run_pure, Result.andThen_ok, List.map_toArray, List.map_cons, List.map_nil, hd, hs, hrun]
  exact h
end
end Go.Proofs.Ytenmopnegedgjaa
