/- Layer 12's laws: slots 1, 2, 3 .. learned in their order; rows of entries, each its own. -/
import Derived.Test.YtnomddhgcdoifaaRlV
import Derived.Test.YtnomddhgcdoifaaRlX
import Derived.Test.YtnomddhgcdoifaaRlGl
namespace Go.Proofs.Ytnomddhgcdoifaa
open Go.RowKit

def rowN (val : Nat → List UInt8) (i : Nat) : List En := (List.range i).map fun j => ⟨j + 1, val j⟩
section
variable {val : Nat → List UInt8} {i n a : Nat}
theorem rowN_len (val : Nat → List UInt8) (i : Nat) : (rowN val i).length = i := by simp [rowN]
theorem rowN_get (val : Nat → List UInt8) {i j : Nat} (h : j < (rowN val i).length) : (rowN val i)[j] = ⟨j + 1, val j⟩ := by simp [rowN]
theorem rowN_succ (val : Nat → List UInt8) (i : Nat) : rowN val (i + 1) = rowN val i ++ [⟨i + 1, val i⟩] := by simp [rowN, List.range_succ]
theorem rowN_mem {e : En} : e ∈ rowN val i ↔ ∃ j, j < i ∧ e = ⟨j + 1, val j⟩ := by
  unfold rowN
  simp only [List.mem_map, List.mem_range]
  exact ⟨fun ⟨j, h, e⟩ => ⟨j, h, e.symm⟩, fun ⟨j, h, e⟩ => ⟨j, h, e.symm⟩⟩
theorem rowN_rise (val : Nat → List UInt8) (i : Nat) : Rise (rowN val i) := by
  refine List.pairwise_iff_getElem.2 fun a b ha hb hab => ?_
  rw [rowN_get, rowN_get]
  show a + 1 < b + 1
  omega
theorem rowN_has (x : Nat) : (Rl.mk a (rowN val i)).has x = decide (1 ≤ x ∧ x ≤ i) := by
  rw [Bool.eq_iff_iff]
  unfold Rl.has
  show hasE x (rowN val i) = true ↔ _
  rw [hasE_iff (rowN_rise val i), decide_eq_true_iff]
  constructor
  · rintro ⟨e, he, rfl⟩
    obtain ⟨j, hj, rfl⟩ := rowN_mem.1 he
    show 1 ≤ j + 1 ∧ j + 1 ≤ i
    omega
  · rintro ⟨h1, h2⟩
    exact ⟨⟨x - 1 + 1, val (x - 1)⟩, rowN_mem.2 ⟨x - 1, by omega, rfl⟩, by show x - 1 + 1 = x; omega⟩
theorem rowN_find (h : i ≤ n) : findE (i + 1) (rowN val n) = i := by
  symm
  refine findE_unique (rowN_rise val n) (by rw [rowN_len]; exact h) (fun k hk h1 => ?_) fun k hk h1 => ?_
  · rw [rowN_get]; show k + 1 < i + 1; omega
  · rw [rowN_get]; show i + 1 ≤ k + 1; omega
theorem rowN_learn (hv : (val i).length ≤ 100) (hi : i < 4096) : (Rl.mk 0 (rowN val i)).learn (i + 1) (val i) = (0, ⟨0, rowN val (i + 1)⟩) := by
  have hn : (Rl.mk 0 (rowN val i)).has (i + 1) = false := by rw [rowN_has, decide_eq_false_iff_not]; omega
  rw [learn_new (by omega) (by omega) hv hn (by show 0 < i + 1; omega) (by show (rowN val i).length < 4096; rw [rowN_len]; exact hi)]
  congr 2
  unfold insE
  show (rowN val i).take (findE (i + 1) (rowN val i)) ++ _ = _
  rw [show findE (⟨i + 1, val i⟩ : En).slot (rowN val i) = i from rowN_find (Nat.le_refl _), List.take_of_length_le (by rw [rowN_len]; exact Nat.le_refl _), List.drop_of_length_le (by show (rowN val i).length ≤ i; rw [rowN_len]; exact Nat.le_refl _), rowN_succ]
theorem rowN_run {m : Nat} (h : n ≤ m) : (Rl.mk a (rowN val n)).run 1 m = rowN val n := by
  unfold Rl.run
  show runL 1 m ((rowN val n).drop (findE 1 (rowN val n))) = _
  rw [show findE 1 (rowN val n) = 0 from rowN_find (Nat.zero_le _), List.drop_zero, runL_take m 1 (rowN val n) n h (by rw [rowN_len]; exact Nat.le_refl _) (fun j hj _ => by rw [rowN_get]; show j + 1 = 1 + j; omega) (.inr (.inl (rowN_len _ _).symm)), List.take_of_length_le (by rw [rowN_len]; exact Nat.le_refl _)]
theorem rowN_outs : (Rl.mk 0 (rowN val n)).outs n = rowN val n := by
  unfold Rl.outs rowN
  refine List.map_congr_left fun j hj => ?_
  have hj' : j < n := List.mem_range.1 hj
  have hh : (Rl.mk 0 (rowN val n)).has (0 + 1 + j) = true := by rw [rowN_has, decide_eq_true_iff]; omega
  obtain ⟨h1, h2⟩ := Rl.at_mem hh
  obtain ⟨k, hk, e⟩ := rowN_mem.1 h1
  rw [e] at h2
  have h2 : k + 1 = 0 + 1 + j := h2
  have : k = j := by omega
  subst this
  exact e
end
theorem CatR.kp {w w' : World} {base n : Nat} {v : Value} {es : List Ene} {F : Nat → Prop} (h : CatR w base v n es) (hk : Kp F w w') (hF : ∀ k, F k → k < base) : CatR w' base v n es :=
  ⟨own_kp h.own hk fun k e hf => by have := (h.own.lt k e).1; have := hF k hf; omega, h.fam.kpE hk fun i u hu k e hf => by have := ((h.fam.each i u hu).lt k e).1; have := hF k hf; omega, h.len⟩
theorem CatR.up {w w' : World} {base n : Nat} {v : Value} {es : List Ene} (h : CatR w base v n es) (hb : Below w.heap.size w w') : CatR w' base v n es :=
  ⟨own_below h.own hb fun k e => (h.own.lt k e).2, h.fam.up hb, h.len⟩
/-- The cells of an entry. -/
theorem CatR.cell {w : World} {base n : Nat} {v : Value} {es : List Ene} (h : CatR w base v n es) (i : Nat) (hi : i < n) : ∃ R c, v = .slice (some ⟨R, 0, none⟩) n c ∧ ∃ hi' : i < es.length, w.cell? ⟨R, i * 2, none⟩ = some (.int .u64 (es[i].1.slot : Int)) ∧ w.cell? ⟨R, i * 2 + 1, none⟩ = some (s3W es[i].2) ∧ Rd w w.heap.size es[i].2.1 es[i].2.2.1 es[i].1.val := by
  have hl := h.len
  rcases h.own.2 with ⟨rfl, h0⟩ | ⟨g, cap, cur, rfl, _⟩
  · omega
  · have q := fun j (hj : j < 2) u (hu : (enE es[i])[j]? = some u) => h.own.cells (g := g) rfl (i * 2 + j) u (by rw [enC_at es i j (by omega) hj]; exact hu)
    have q0 := q 0 (by omega) _ rfl
    have q1 := q 1 (by omega) _ rfl
    rw [Addr.add_lit, Nat.zero_add] at q0 q1
    have hb := h.fam.each i (s3W es[i].2) (by simp [show i < es.length by omega])
    have e : (es.map fun e => e.1.val).getD i [] = es[i].1.val := by simp [List.getD, show i < es.length by omega]
    rw [e] at hb
    exact ⟨g, cap, rfl, by omega, q0, q1, (RdF.of_own hb).rd⟩
theorem Fam.one {w : World} {base : Nat} {vals : List Value} {ls : List (List UInt8)} {v : Value} {l : List UInt8} (h : Fam w base vals ls) (hv : w.ownsRow base 5 1 v l.length (u8s l)) (ha : ∀ y ∈ vals, Apart y v) : Fam w base (vals ++ [v]) (ls ++ [l]) := by
  have hl := h.len
  have hap : ∀ (i : Nat) (u : Value), vals[i]? = some u → Apart u v := fun i u hu => ha u (List.mem_of_getElem? hu)
  refine ⟨by simp [hl], fun i u hu => ?_, fun i j u x hij hu hx => ?_⟩
  · rcases append_get hu with ⟨hi, hu⟩ | ⟨rfl, rfl⟩
    · have := h.each i u hu
      have e : (ls ++ [l]).getD i [] = ls.getD i [] := by simp [List.getD, List.getElem?_append_left (show i < ls.length by omega)]
      rw [e]
      exact this
    · have e : (ls ++ [l]).getD vals.length [] = l := by simp [List.getD, hl]
      rw [e]
      exact hv
  · rcases append_get hu with ⟨_, hu'⟩ | ⟨rfl, rfl⟩
    · rcases append_get hx with ⟨_, hx'⟩ | ⟨rfl, rfl⟩
      · exact h.apart i j u x hij hu' hx'
      · exact hap i u hu'
    · rcases append_get hx with ⟨_, hx'⟩ | ⟨rfl, rfl⟩
      · exact (hap j x hx').symm
      · exact absurd rfl hij
/-- Three rows of lists, interleaved. -/
def mix3 (a b c : List Ene) (i : Nat) : List Value := (List.range i).flatMap fun j => [s3W (a.getD j (⟨0, []⟩, (none, 0, 0))).2, s3W (b.getD j (⟨0, []⟩, (none, 0, 0))).2, s3W (c.getD j (⟨0, []⟩, (none, 0, 0))).2]
def mix3l (a b c : List Ene) (i : Nat) : List (List UInt8) := (List.range i).flatMap fun j => [(a.getD j (⟨0, []⟩, (none, 0, 0))).1.val, (b.getD j (⟨0, []⟩, (none, 0, 0))).1.val, (c.getD j (⟨0, []⟩, (none, 0, 0))).1.val]
theorem mix3_len (a b c : List Ene) (i : Nat) : (mix3 a b c i).length = i * 3 := by
  unfold mix3
  rw [flat_len (s := 3) _ (fun _ _ => rfl), List.length_range]
theorem mix3l_len (a b c : List Ene) (i : Nat) : (mix3l a b c i).length = i * 3 := by
  unfold mix3l
  induction i with
  | zero => rfl
  | succ i ih => rw [List.range_succ, List.flatMap_append, List.length_append, ih]; simp; omega
theorem mix3_succ (a b c : List Ene) (i : Nat) : mix3 a b c (i + 1) = mix3 a b c i ++ [s3W (a.getD i (⟨0, []⟩, (none, 0, 0))).2, s3W (b.getD i (⟨0, []⟩, (none, 0, 0))).2, s3W (c.getD i (⟨0, []⟩, (none, 0, 0))).2] := by
  unfold mix3; rw [List.range_succ, List.flatMap_append]; simp
theorem mix3l_succ (a b c : List Ene) (i : Nat) : mix3l a b c (i + 1) = mix3l a b c i ++ [(a.getD i (⟨0, []⟩, (none, 0, 0))).1.val, (b.getD i (⟨0, []⟩, (none, 0, 0))).1.val, (c.getD i (⟨0, []⟩, (none, 0, 0))).1.val] := by
  unfold mix3l; rw [List.range_succ, List.flatMap_append]; simp
/-- The lists of three families, made one behind the other, interleaved, are a family. -/
theorem mix3_fam {w : World} {b0 b1 b2 n : Nat} {u v x : Value} {a b c : List Ene} (ha : CatR w b0 u n a) (hb : CatR w b1 v n b) (hc : CatR w b2 x n c) (h01 : b0 ≤ b1) (h12 : b1 ≤ b2)
    (hA : ∀ (i : Nat) (y : Value), (a.map fun e => s3W e.2)[i]? = some y → ∀ k, y.ownBlock = some k → k < b1) (hB : ∀ (i : Nat) (y : Value), (b.map fun e => s3W e.2)[i]? = some y → ∀ k, y.ownBlock = some k → k < b2) :
    ∀ i, i ≤ n → Fam w b0 (mix3 a b c i) (mix3l a b c i) ∧ (∀ y ∈ mix3 a b c i, ∃ j, j < i ∧ (y = s3W (a.getD j (⟨0, []⟩, (none, 0, 0))).2 ∨ y = s3W (b.getD j (⟨0, []⟩, (none, 0, 0))).2 ∨ y = s3W (c.getD j (⟨0, []⟩, (none, 0, 0))).2))
  | 0, _ => ⟨by simpa [mix3, mix3l] using Fam.nil w b0, fun y hy => by simp [mix3] at hy⟩
  | i + 1, hi => by
    obtain ⟨hf, hm⟩ := mix3_fam ha hb hc h01 h12 hA hB i (by omega)
    have la := ha.len
    have lb := hb.len
    have lc := hc.len
    have ga : ∀ j, j < n → (a.map fun e => s3W e.2)[j]? = some (s3W (a.getD j (⟨0, []⟩, (none, 0, 0))).2) := fun j hj => by simp [List.getD, show j < a.length by omega]
    have gb : ∀ j, j < n → (b.map fun e => s3W e.2)[j]? = some (s3W (b.getD j (⟨0, []⟩, (none, 0, 0))).2) := fun j hj => by simp [List.getD, show j < b.length by omega]
    have gc : ∀ j, j < n → (c.map fun e => s3W e.2)[j]? = some (s3W (c.getD j (⟨0, []⟩, (none, 0, 0))).2) := fun j hj => by simp [List.getD, show j < c.length by omega]
    have ea : ∀ j, j < n → (a.map fun e => e.1.val).getD j [] = (a.getD j (⟨0, []⟩, (none, 0, 0))).1.val := fun j hj => by simp [List.getD, show j < a.length by omega]
    have eb : ∀ j, j < n → (b.map fun e => e.1.val).getD j [] = (b.getD j (⟨0, []⟩, (none, 0, 0))).1.val := fun j hj => by simp [List.getD, show j < b.length by omega]
    have ec : ∀ j, j < n → (c.map fun e => e.1.val).getD j [] = (c.getD j (⟨0, []⟩, (none, 0, 0))).1.val := fun j hj => by simp [List.getD, show j < c.length by omega]
    have oa := fun j (hj : j < n) => (ea j hj) ▸ ha.fam.each j _ (ga j hj)
    have ob := fun j (hj : j < n) => (eb j hj) ▸ hb.fam.each j _ (gb j hj)
    have oc := fun j (hj : j < n) => (ec j hj) ▸ hc.fam.each j _ (gc j hj)
    have xab : ∀ j k, j < n → k < n → Apart (s3W (a.getD j (⟨0, []⟩, (none, 0, 0))).2) (s3W (b.getD k (⟨0, []⟩, (none, 0, 0))).2) := fun j k hj hk q h1 h2 => by
      have := hA j _ (ga j hj) q h1
      have := ((ob k hk).lt q h2).1
      omega
    have xac : ∀ j k, j < n → k < n → Apart (s3W (a.getD j (⟨0, []⟩, (none, 0, 0))).2) (s3W (c.getD k (⟨0, []⟩, (none, 0, 0))).2) := fun j k hj hk q h1 h2 => by
      have := hA j _ (ga j hj) q h1
      have := ((oc k hk).lt q h2).1
      omega
    have xbc : ∀ j k, j < n → k < n → Apart (s3W (b.getD j (⟨0, []⟩, (none, 0, 0))).2) (s3W (c.getD k (⟨0, []⟩, (none, 0, 0))).2) := fun j k hj hk q h1 h2 => by
      have := hB j _ (gb j hj) q h1
      have := ((oc k hk).lt q h2).1
      omega
    have xaa : ∀ j k, j < n → k < n → j ≠ k → Apart (s3W (a.getD j (⟨0, []⟩, (none, 0, 0))).2) (s3W (a.getD k (⟨0, []⟩, (none, 0, 0))).2) := fun j k hj hk h => ha.fam.apart j k _ _ h (ga j hj) (ga k hk)
    have xbb : ∀ j k, j < n → k < n → j ≠ k → Apart (s3W (b.getD j (⟨0, []⟩, (none, 0, 0))).2) (s3W (b.getD k (⟨0, []⟩, (none, 0, 0))).2) := fun j k hj hk h => hb.fam.apart j k _ _ h (gb j hj) (gb k hk)
    have xcc : ∀ j k, j < n → k < n → j ≠ k → Apart (s3W (c.getD j (⟨0, []⟩, (none, 0, 0))).2) (s3W (c.getD k (⟨0, []⟩, (none, 0, 0))).2) := fun j k hj hk h => hc.fam.apart j k _ _ h (gc j hj) (gc k hk)
    have hmem : ∀ y ∈ mix3 a b c i, Apart y (s3W (a.getD i (⟨0, []⟩, (none, 0, 0))).2) ∧ Apart y (s3W (b.getD i (⟨0, []⟩, (none, 0, 0))).2) ∧ Apart y (s3W (c.getD i (⟨0, []⟩, (none, 0, 0))).2) := fun y hy => by
      obtain ⟨j, hj, rfl | rfl | rfl⟩ := hm y hy
      · exact ⟨xaa j i (by omega) (by omega) (by omega), xab j i (by omega) (by omega), xac j i (by omega) (by omega)⟩
      · exact ⟨(xab i j (by omega) (by omega)).symm, xbb j i (by omega) (by omega) (by omega), xbc j i (by omega) (by omega)⟩
      · exact ⟨(xac i j (by omega) (by omega)).symm, (xbc i j (by omega) (by omega)).symm, xcc j i (by omega) (by omega) (by omega)⟩
    rw [mix3_succ, mix3l_succ]
    have s1 := hf.one (oa i (by omega)) fun y hy => (hmem y hy).1
    have s2 := s1.one (own_mono (ob i (by omega)) h01) fun y hy => by
      rcases List.mem_append.1 hy with hy | hy
      · exact (hmem y hy).2.1
      · rw [List.mem_singleton.1 hy]; exact xab i i (by omega) (by omega)
    have s3 := s2.one (own_mono (oc i (by omega)) (Nat.le_trans h01 h12)) fun y hy => by
      rcases List.mem_append.1 hy with hy | hy
      · rcases List.mem_append.1 hy with hy | hy
        · exact (hmem y hy).2.2
        · rw [List.mem_singleton.1 hy]; exact xac i i (by omega) (by omega)
      · rw [List.mem_singleton.1 hy]; exact xbc i i (by omega) (by omega)
    refine ⟨by simpa [List.append_assoc] using s3, fun y hy => ?_⟩
    rcases List.mem_append.1 hy with hy | hy
    · obtain ⟨j, hj, h⟩ := hm y hy
      exact ⟨j, by omega, h⟩
    · simp only [List.mem_cons, List.not_mem_nil, or_false] at hy
      exact ⟨i, by omega, hy⟩
end Go.Proofs.Ytnomddhgcdoifaa
