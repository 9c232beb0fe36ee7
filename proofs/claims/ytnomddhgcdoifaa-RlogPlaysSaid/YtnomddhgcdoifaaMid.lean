/- Literals of rows of several cells, clear, append of a whole row. No program is named here. -/
import Derived.Test.YtnomddhgcdoifaaFoot
import Derived.Great.FillDense
import Derived.Laws.Tables
namespace Go.Proofs.Ytnomddhgcdoifaa
open Go.RowKit

theorem fill_over (l : List Value) (off : Nat) (cells : Array Value) (h : off + l.length ≤ cells.size) :
    l.toArray.zipIdx.foldl (fun cs (c, j) => cs.setIfInBounds (off + j) c) cells = (over cells.toList off l).toArray := by
  obtain ⟨h1, h2⟩ := Go.Great.foldl_set off l 0 cells
  have e : l.toArray.zipIdx.foldl (fun cs (c, j) => cs.setIfInBounds (off + j) c) cells = (l.zipIdx 0).foldl (fun cs (x : Value × Nat) => cs.setIfInBounds (off + x.2) x.1) cells := by
    rw [← Array.foldl_toList, Array.toList_zipIdx]
  rw [e]
  apply Array.ext_getElem?
  intro k
  rw [h2 k, show (over cells.toList off l).toArray[k]? = (over cells.toList off l)[k]? from List.getElem?_toArray, over_get _ _ _ (by simpa using h)]
  by_cases hk : off ≤ k ∧ k < off + l.length
  · rw [if_pos (by omega), if_pos hk, Nat.add_zero]
  · rw [if_neg (by omega), if_neg hk, Array.getElem?_toList]

theorem fill_cons (place : Nat → Option (Nat × Nat)) (cells : Array Value) (i : Nat) (v : Value) (rest : List (Nat × Value)) (off : Nat) (hp : place i = some (off, v.cells.size)) (h : off + v.cells.size ≤ cells.size) :
    Instr.fill place cells ((i, v) :: rest) = Instr.fill place (over cells.toList off v.cells.toList).toArray rest := by
  have e := fill_over v.cells.toList off cells (by simpa using h)
  rw [Instr.fill, hp]
  simp only [Array.toArray_toList] at e
  have : ¬ off + v.cells.size > cells.size := by omega
  simp only [ne_eq, not_true_eq_false, decide_false, Bool.false_or, this]
  rw [e]
  rfl

/-- A struct of two fields: the first is one cell. -/
theorem built_pair {P : Program} {t : TypeId} {it : TypeInfo} {fields : Array Field} {z : Value} {s : Nat} (hi : P.info? t = some it) (hu : P.underlying t = some (.struct fields)) (hz : it.zero = some z)
    (hp : fields.toList.mapM (fun f => (P.info? f.type).map fun i => (f.offset, i.size)) = some [(0, 1), (1, s)]) (hzs : z.cells.size = 1 + s) (x : Value) (hx : x.cells = #[x]) (y : Value) (hy : y.cells.size = s) :
    P.built t [(0, x), (1, y)] = some (#[x] ++ y.cells) := by
  have hz' : z.cells.toList.length = 1 + s := by simpa using hzs
  have h1 : (over z.cells.toList 0 [x]).length = 1 + s := by rw [over_len _ _ _ (by simp [hzs]), hz']
  have hyl : y.cells.toList.length = s := by simpa using hy
  have e2 : Instr.fill ([(0, 1), (1, s)].toArray[·]?) z.cells [(0, x), (1, y)] = some (over (over z.cells.toList 0 [x]) 1 y.cells.toList).toArray := by
    rw [fill_cons _ _ 0 x _ 0 (by rw [hx]; rfl) (by rw [hx, hzs]; simp), hx, fill_cons _ _ 1 y _ 1 (by rw [hy]; rfl) (by
      show 1 + y.cells.size ≤ (over z.cells.toList 0 [x]).length
      omega)]
    rfl
  unfold Program.built
  simp only [hi, hu, hz, hp]
  refine e2.trans ?_
  congr 1
  apply Array.ext_getElem?
  intro k
  rw [show (over (over z.cells.toList 0 [x]) 1 y.cells.toList).toArray[k]? = (over (over z.cells.toList 0 [x]) 1 y.cells.toList)[k]? from List.getElem?_toArray, over_get _ _ _ (by omega), Array.getElem?_append]
  by_cases hk : 1 ≤ k ∧ k < 1 + y.cells.toList.length
  · rw [if_pos hk, if_neg (by simp; omega)]
    simp
  · rw [if_neg hk, over_get _ _ _ (by simp; omega)]
    by_cases h0 : k < 1
    · rw [if_pos (by simpa using h0), if_pos (by simpa using h0)]
      obtain rfl : k = 0 := by omega
      simp
    · rw [if_neg (by simpa using h0), if_neg (by simpa using h0)]
      rw [List.getElem?_eq_none (by omega), Array.getElem?_eq_none (by simp; omega)]

theorem run_buildSlice_one {P : Program} {t e : TypeId} {i : TypeInfo} {z : Value} {s : Nat} (ht : P.underlying t = some (.slice e)) (hi : P.info? e = some i) (hz : i.zero = some z) (hs : i.size = s) (hzs : z.cells.size = s) (h0 : 0 < s) (hm : s ≤ 16777216)
    (v : Value) (hv : v.cells.size = s) (W : World) : (Instr.buildSlice t 1 #[(0, v)]).run P W = .ok (.slice (some ⟨W.heap.size, 0, none⟩) 1 1) (W.alloc (.cells v.cells e)) := by
  have hf := Go.Great.fill_whole h0 [v] ((Array.range (1 * s)).map (z.cells[· % z.cells.size]!)) (by intro x hx; simp at hx; subst hx; exact hv) (by simp)
  simp only [List.zipIdx_cons, List.zipIdx_nil, List.map_cons, List.map_nil, List.flatMap_cons, List.flatMap_nil, List.append_nil, Array.toArray_toList] at hf
  have h2 : ¬ (1 * s > 2 ^ 24) := by omega
  have h3 : ¬ (1 * s = 0) := by omega
  unfold Instr.buildSlice
  have hso : (sizeOf e).run P W = .ok s W := by simp [sizeOf, typeInfo, hi, hs]
  have hzo : (zeroValue e).run P W = .ok z W := by simp [zeroValue, typeInfo, hi, hz]
  simp only [Sem.run_bind, run_underlying ht, Result.andThen_ok, hso, if_neg h2, if_neg h3, hzo, Sem.run_pure]
  rw [hf]
  rfl

theorem run_clear_none {P : Program} {t e : TypeId} (ht : P.underlying t = some (.slice e)) (ty : TypeId) (A : Option Addr) (c : Nat) (w : World) : (Builtin.clear_ #[t] ty #[.slice A 0 c]).run P w = .ok (.tuple #[]) w := by
  unfold Builtin.clear_
  cases A <;> simp [run_underlying ht]
theorem run_clear_some {P : Program} {t e : TypeId} {i : TypeInfo} {z : Value} (ht : P.underlying t = some (.slice e)) (hi : P.info? e = some i) (hz : i.zero = some z) (h1 : ∀ u ∈ z.cells, u.oneCell' = true) (ty : TypeId) (g n c : Nat) (h0 : 0 < n) (w : World)
    (hth : w.there g 0 (n * z.cells.size)) : (Builtin.clear_ #[t] ty #[.slice (some ⟨g, 0, none⟩) n c]).run P w = .ok (.tuple #[]) (w.setCells g 0 (Builtin.zeroCells z.cells n).toList) := by
  have hl : (Builtin.zeroCells z.cells n).toList.length = n * z.cells.size := by simp [Builtin.zeroCells]
  have hst := run_storeCells_cells (P := P) g 0 (Builtin.zeroCells z.cells n).toList 0 w (by rw [hl]; intro j hj; simpa using (hth j hj).1) (by rw [hl]; intro j hj; simpa using (hth j hj).2) (by
    intro u hu
    simp only [Builtin.zeroCells, Array.toList_map, List.mem_map] at hu
    obtain ⟨k, hk, rfl⟩ := hu
    have hk' : k < n * z.cells.size := by simpa using hk
    have hpos : 0 < z.cells.size := by
      rcases Nat.eq_zero_or_pos z.cells.size with h | h
      · rw [h, Nat.mul_zero] at hk'; omega
      · exact h
    have hlt := Nat.mod_lt k hpos
    rw [getElem!_pos z.cells _ hlt]
    exact h1 _ (Array.getElem_mem hlt))
  unfold Builtin.clear_
  obtain ⟨m, rfl⟩ : ∃ m, n = m + 1 := ⟨n - 1, by omega⟩
  simp [run_underlying ht, zeroValue, typeInfo, hi, hz, hst, Result.andThen]

theorem own_zero {w : World} {base e size n c : Nat} {A : Option Addr} {xs : List Value} (h : w.ownsRow base e size (.slice A n c) n xs) : w.ownsRow base e size (.slice A 0 c) 0 [] := by
  refine ⟨by simp, ?_⟩
  rcases h.2 with ⟨h', h0⟩ | ⟨g, cap, cur, hv, hb, hh, hnc, hcm, hcs, _⟩
  · subst h0; exact .inl ⟨h', rfl⟩
  · injection hv with e1 _ e3
    subst e1 e3
    exact .inr ⟨g, c, cur, rfl, hb, hh, Nat.zero_le _, hcm, hcs, by simp⟩

/-- clear of a row of the call's own; what follows sees none of it. -/
theorem wpList_clear {P : Program} {w : World} {ops : Array Oper} {rest : List Oper} {o : Oper} {a : Act} {Q : Exit → Act → World → Prop} (hgd : o.guard = none) (s : Operand) (t : TypeId)
    (ho : o.op = .call { callee := .builtin .clear, args := #[s], argTypes := #[t] }) (base e size : Nat) (i : TypeInfo) (z : Value) (ht : P.underlying t = some (.slice e)) (hi : P.info? e = some i) (hz : i.zero = some z) (hzs : z.cells.size = size)
    (h1 : ∀ u ∈ z.cells, u.oneCell' = true) (A : Option Addr) (n c : Nat) (xs : List Value) (hs : a.eval s = .slice A n c) (hown : w.ownsRow base e size (.slice A n c) n xs)
    (h : ∀ w', w'.ownsRow base e size (.slice A 0 c) 0 [] → (∀ F : Nat → Prop, (∀ k, Value.ownBlock (.slice A 0 c) = some k → F k) → Kp F w w') → wpList P ops Q rest (a.put o.dst (.tuple #[])) w') : wpList P ops Q (o :: rest) a w := by
  refine wpList_plain hgd fun _ hK => ?_
  unfold Oper.wp execOp
  simp only [ho, resolve, invoke, builtin, Sem.run_bind, Sem.run_pure, Result.andThen_ok, List.map_toArray, List.map_cons, List.map_nil, hs]
  rcases Nat.eq_zero_or_pos n with h0 | h0
  · subst h0
    rw [run_clear_none ht]
    exact hK _ _ (h w (own_zero hown) fun F _ => Kp.refl F w)
  · obtain ⟨g, rfl⟩ : ∃ g, A = some ⟨g, 0, none⟩ := by
      rcases hown.2 with ⟨_, h'⟩ | ⟨g, cap, cur, hv, _⟩
      · omega
      · injection hv with e1; exact ⟨g, e1⟩
    subst hzs
    have hl : (Builtin.zeroCells z.cells n).toList.length = n * z.cells.size := by simp [Builtin.zeroCells]
    rw [run_clear_some ht hi hz h1 o.type g n c h0 w (own_there hown 0 _ (by omega))]
    exact hK _ _ (h _ (own_zero (own_sets hown 0 _ (by omega))) fun F hF => Kp.sets (hF g rfl) _ _ _)
end Go.Proofs.Ytnomddhgcdoifaa
