/- A map with keys of kind uint64 whose elements are read by a reader of one's own. -/
import Derived.Test.YtgippbbbfpkhhaaSesP
import Derived.Test.YtgippbbbfpkhhaaProg
import Derived.Maps.OwnOps
namespace Go.Proofs.Ytgippbbbfpkhhaa
open Go.RowKit Go.Maps

/-- How elements lie: as a value, and as a datum. -/
structure Enco (β : Type) where
  V : β → Value
  D : β → DataW Unit
  R : Value → Option (DataW Unit × List MemPlace)
  rd : ∀ x, R (V x) = some (D x, [])
  inv : ∀ v x ps, R v = some (D x, ps) → v = V x
section
variable {β : Type} (E : Enco β)
def entB (p : Nat × β) : Lit × DataW Unit := (.int .u64 (p.1 : Int), E.D p.2)
def mapB (L : List (Nat × β)) : DataW Unit := .map (L.map (entB E))
theorem insK_mapB (x : Nat × β) : ∀ L : List (Nat × β), (insK x L).map (entB E) = DataW.insert (entB E x) (L.map (entB E))
  | [] => rfl
  | y :: r => by
    unfold insK
    simp only [List.map_cons]
    unfold DataW.insert
    have : (entB E x).1.before (entB E y).1 = decide ((x.1 : Int) < (y.1 : Int)) := rfl
    rw [this]
    by_cases h : x.1 < y.1
    · rw [if_pos h, decide_eq_true (by omega)]; simp
    · rw [if_neg h, decide_eq_false (by omega)]; simp [insK_mapB x r]
theorem entB_key (y : Nat × β) (k : Nat) : (entB E y).1.sameKey (.int .u64 (k : Int)) = (y.1 == k) := by
  show decide (IntKind.u64 = IntKind.u64 ∧ (y.1 : Int) = (k : Int)) = (y.1 == k)
  by_cases h : y.1 = k
  · simp [h]
  · have _ : ¬ (y.1 : Int) = (k : Int) := by omega
    rw [Bool.eq_iff_iff]
    simp only [decide_eq_true_eq, beq_iff_eq]
    omega
theorem delK_mapB (k : Nat) : ∀ L : List (Nat × β), (delK k L).map (entB E) = (L.map (entB E)).filter fun p => !p.1.sameKey (.int .u64 (k : Int))
  | [] => rfl
  | y :: r => by
    have ih := delK_mapB k r
    unfold delK at *
    simp only [List.map_cons, List.filter_cons]
    rw [entB_key]
    cases (y.1 == k) with
    | true => simpa using ih
    | false => simpa using ih
theorem mapB_put (k : Nat) (v : β) (L : List (Nat × β)) : (mapB E L).put (.int .u64 (k : Int)) (E.D v) = mapB E (putK k v L) := by
  unfold mapB putK DataW.put
  rw [insK_mapB, delK_mapB]
  rfl
theorem entB_comp (k : Nat) : ((fun p : Lit × DataW Unit => p.1.sameKey (.int .u64 (k : Int))) ∘ (entB E)) = fun p : Nat × β => p.1 == k := by
  funext p
  exact entB_key E p k
theorem mapB_at (k : Nat) (L : List (Nat × β)) (z : β) : (mapB E L).atKey (.int .u64 (k : Int)) (E.D z) = E.D ((getK L k).getD z) := by
  unfold mapB DataW.atKey getK
  simp only [List.find?_map, entB_comp]
  cases L.find? (fun p => p.1 == k) <;> rfl
theorem mapB_has (k : Nat) (L : List (Nat × β)) : Maps.has (mapB E L) (.int .u64 (k : Int)) = (getK L k).isSome := by
  unfold mapB
  rw [Maps.has_eq]
  unfold getK
  rw [List.any_map, entB_comp, Option.isSome_map, Bool.eq_iff_iff, List.any_eq_true, List.find?_isSome]
theorem mapB_size (L : List (Nat × β)) : Maps.size (mapB E L) = L.length := by unfold mapB; rw [Maps.size_eq]; simp

/-- Block b is a map of these elements. -/
def OwnB (w : World) (b N : Nat) (L : List (Nat × β)) : Prop := w.ownsMap Try.prog 32 E.R b N (mapB E L)
variable {E} {w w' : World} {b N : Nat} {L : List (Nat × β)}
theorem OwnB.lt (h : OwnB E w b N L) : b < w.heap.size := World.ownsMap.lt h
theorem OwnB.kp {F : Nat → Prop} (h : OwnB E w b N L) (hk : Kp F w w') (hf : ¬ F b) : OwnB E w' b N L := by
  have hlt := h.lt
  obtain ⟨es, clock, h1, h2⟩ := h
  exact ⟨es, clock, (hk.block b hlt hf).trans h1, h2⟩
theorem OwnB.drewN (h : OwnB E w b N L) (q : Nat) : OwnB E (w.drewN q) b N L := h.kp (F := fun _ => False) (Kp.drewN _ w q) (fun h => h)
theorem OwnB.tight (h : OwnB E w b N L) : OwnB E w b L.length L := by
  obtain ⟨es, clock, h1, h2, h3, h4⟩ := h
  refine ⟨es, clock, h1, h2, ?_, h4⟩
  have h5 : L.length = Maps.size (mapB E L) := (mapB_size E L).symm
  rw [h5, h4]
  simp [Maps.size, length_sorted]
theorem OwnB.off (h : OwnB E w b N L) {base e size n : Nat} {v : Value} {xs : List Value} (ho : w.ownsRow base e size v n xs) : ∀ k, v.ownBlock = some k → k ≠ b := by
  rintro k e1 rfl
  obtain ⟨es, clock, h1, _⟩ := h
  rcases ho.2 with ⟨rfl, _⟩ | ⟨g', cap, cur, rfl, _, hh, _⟩
  · cases e1
  · simp only [Value.ownBlock, Option.some.injEq] at e1
    subst e1
    rw [h1] at hh
    simp at hh
theorem OwnB.off_bk (h : OwnB E w b N L) {g : Nat} {t : TypeId} {cs : Array Value} (hb : Bk w g t cs) : g ≠ b := by
  rintro rfl
  obtain ⟨es, clock, h1, _⟩ := h
  unfold Bk at hb
  rw [h1] at hb
  simp at hb
theorem u64KeyedB : Keyed Try.prog 32 := int_keyed Try.underlying32
theorem u64KeyB (k : Nat) (h : k < 18446744073709551616) : keyOf Try.prog 32 (.int .u64 (k : Int)) = some (.int .u64 (k : Int)) := keyOf_int_mk Try.underlying32 (by
  simp [Lit.wf, IntKind.min, IntKind.max, IntKind.signed, IntKind.bits]
  omega)
theorem OwnB.look2 (h : OwnB E w b N L) {t e : TypeId} (ht : Try.prog.underlying t = some (.map 32 e)) {z : β} (hz : (zeroValue e).run Try.prog w = .ok (E.V z) w) (k : Nat) (hk : k < 18446744073709551616) :
    (Instr.lookup t (.map (some b)) (.int .u64 (k : Int)) true).run Try.prog w = .ok (.tuple #[E.V ((getK L k).getD z), .bool (getK L k).isSome]) w := by
  obtain ⟨v, ps, hrun, hv⟩ := World.ownsMap.look_ok h u64KeyedB ht hz (zd := E.D z) (zp := []) (E.rd z) (u64KeyB k hk)
  rw [mapB_at] at hv
  rw [mapB_has] at hrun
  rw [E.inv _ _ _ hv] at hrun
  exact hrun
theorem OwnB.look1 (h : OwnB E w b N L) {t e : TypeId} (ht : Try.prog.underlying t = some (.map 32 e)) {z : β} (hz : (zeroValue e).run Try.prog w = .ok (E.V z) w) (k : Nat) (hk : k < 18446744073709551616) :
    (Instr.lookup t (.map (some b)) (.int .u64 (k : Int)) false).run Try.prog w = .ok (E.V ((getK L k).getD z)) w := by
  obtain ⟨v, ps, hrun, hv⟩ := World.ownsMap.lookup h u64KeyedB ht hz (zd := E.D z) (zp := []) (E.rd z) (u64KeyB k hk)
  rw [mapB_at] at hv
  rw [E.inv _ _ _ hv] at hrun
  exact hrun
theorem kp_turnedB (h : w.mapTurned w' b) : Kp (fun k => k = b) w w' := by
  have hg := h.grown
  exact Kp.of_grown (F := fun k => k = b) ⟨hg.os, hg.tape, hg.output, hg.size, hg.block⟩ rfl
theorem OwnB.put (h : OwnB E w b N L) {t e : TypeId} (ht : Try.prog.underlying t = some (.map 32 e)) (hn : L.length < maxLen) (k : Nat) (hk : k < 18446744073709551616) (x : β) :
    ∃ w', (Instr.mapUpdate t (.map (some b)) (.int .u64 (k : Int)) (E.V x)).run Try.prog w = .ok () w' ∧ OwnB E w' b (putK k x L).length (putK k x L) ∧ Kp (fun j => j = b) w w' := by
  obtain ⟨w', hrun, hmap, htn⟩ := World.ownsMap.store (w := w) (val := E.V x) h.tight u64KeyedB ht hn (u64KeyB k hk) (E.rd x)
  rw [mapB_put] at hmap
  exact ⟨w', hrun, OwnB.tight hmap, kp_turnedB htn⟩
theorem OwnB.made (w : World) : OwnB E (w.alloc (.map #[] 0)) w.heap.size 0 [] := World.ownsMap_made w _ _ _
end
end Go.Proofs.Ytgippbbbfpkhhaa
