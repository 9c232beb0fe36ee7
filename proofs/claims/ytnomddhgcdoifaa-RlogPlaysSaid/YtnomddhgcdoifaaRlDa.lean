/- Layer 12, the document's log (ref12): in memory, its row in the order of learning; At. -/
import Derived.Test.YtnomddhgcdoifaaRlX
import Derived.Test.YtnomddhgcdoifaaRlM
import Derived.Test.YtnomddhgcdoifaaAppend2
import Derived.Deep.LoopGhost
import Derived.Deep.RegionLaw
import Derived.Deep.RegionHeld3
import Derived.Deep.CutRange
import Derived.Deep.CutBlock
import Derived.Deep.DeepCutAuto
namespace Go.Proofs.Ytnomddhgcdoifaa
open Go.RowKit

/-- The same entries, in whatever order. -/
structure Alike (p : Rl) (l : List En) : Prop where
  mem : ∀ e, e ∈ l ↔ e ∈ p.row
  len : l.length = p.row.length
  one : ∀ i j (hi : i < l.length) (hj : j < l.length), l[i].slot = l[j].slot → i = j
section
variable {p : Rl} {l : List En} {s k : Nat}
theorem Alike.new : Alike Rl.new [] := ⟨fun e => Iff.rfl, rfl, fun i j hi => by simp at hi⟩
theorem Alike.has (h : Alike p l) (hok : p.Ok) : p.has s = true ↔ ∃ k, ∃ hk : k < l.length, l[k].slot = s := by
  rw [has_iff hok]
  constructor
  · rintro ⟨e, he, hs⟩
    obtain ⟨k, hk, rfl⟩ := List.getElem_of_mem ((h.mem e).2 he)
    exact ⟨k, hk, hs⟩
  · rintro ⟨k, hk, hs⟩
    exact ⟨l[k], (h.mem _).1 (List.getElem_mem hk), hs⟩
theorem Alike.no (h : Alike p l) (hok : p.Ok) (hn : ∀ k (hk : k < l.length), l[k].slot ≠ s) : p.has s = false := by
  rw [← Bool.not_eq_true, h.has hok]
  rintro ⟨k, hk, hs⟩
  exact hn k hk hs
theorem Alike.at_ (h : Alike p l) (hok : p.Ok) (hk : k < l.length) (hs : l[k].slot = s) : p.has s = true ∧ p.at_ s = l[k] := by
  have h1 := (h.has hok).2 ⟨k, hk, hs⟩
  obtain ⟨hf, e1, e2⟩ := Rl.at_eq h1
  refine ⟨h1, ?_⟩
  rw [e1]
  rw [e1] at e2
  exact hok.rise.one (List.getElem_mem hf) ((h.mem _).1 (List.getElem_mem hk)) (e2.trans hs.symm)
theorem Alike.push (h : Alike p l) (hok : p.Ok) (v : List UInt8) (hn : p.has s = false) : Alike ⟨p.ap, insE ⟨s, v⟩ p.row⟩ (l ++ [⟨s, v⟩]) := by
  refine ⟨fun e => ?_, ?_, fun i j hi hj he => ?_⟩
  · rw [List.mem_append, List.mem_singleton, mem_insE, h.mem e]
    exact Or.comm
  · rw [List.length_append, insE_len, h.len]; rfl
  · have hno : ∀ k (hk : k < l.length), l[k].slot ≠ s := fun k hk hs => by
      have := (h.has hok).2 ⟨k, hk, hs⟩
      rw [hn] at this
      cases this
    rw [List.length_append] at hi hj
    have hi' : i < l.length + 1 := hi
    have hj' : j < l.length + 1 := hj
    by_cases e1 : i < l.length
    · rw [List.getElem_append_left e1] at he
      by_cases e2 : j < l.length
      · rw [List.getElem_append_left e2] at he
        exact h.one i j e1 e2 he
      · rw [List.getElem_append_right (by omega)] at he
        simp at he
        exact absurd he (hno i e1)
    · rw [List.getElem_append_right (by omega)] at he
      by_cases e2 : j < l.length
      · rw [List.getElem_append_left e2] at he
        simp at he
        exact absurd he.symm (hno j e2)
      · omega
theorem nodup_of_one (h : ∀ i j (hi : i < l.length) (hj : j < l.length), l[i].slot = l[j].slot → i = j) : (l.map (·.slot)).Nodup := by
  refine List.pairwise_iff_getElem.2 fun i j hi hj hij e => ?_
  rw [List.length_map] at hi hj
  rw [List.getElem_map, List.getElem_map] at e
  have := h i j hi hj e
  omega
theorem one_of_nodup (h : (l.map (·.slot)).Nodup) : ∀ i j (hi : i < l.length) (hj : j < l.length), l[i].slot = l[j].slot → i = j := fun i j hi hj e => by
  have h1 := List.pairwise_iff_getElem.1 h
  by_cases e1 : i < j
  · exact absurd (by rw [List.getElem_map, List.getElem_map]; exact e) (h1 i j (by simpa using hi) (by simpa using hj) e1)
  · by_cases e2 : j < i
    · exact absurd (by rw [List.getElem_map, List.getElem_map]; exact e.symm) (h1 j i (by simpa using hj) (by simpa using hi) e2)
    · omega
/-- What stands above a slot, in both orders. -/
theorem Alike.above (h : Alike p l) (hok : p.Ok) (u a : Nat) : Alike ⟨a, aboveE u p.row⟩ (l.filter fun e => decide (u < e.slot)) := by
  have hmem : ∀ e, e ∈ l.filter (fun e => decide (u < e.slot)) ↔ e ∈ aboveE u p.row := fun e => by
    rw [List.mem_filter, mem_above hok.rise, h.mem e]
    simp
  have hnd : (l.map (·.slot)).Nodup := nodup_of_one h.one
  have hnd2 : ((l.filter fun e => decide (u < e.slot)).map (·.slot)).Nodup := hnd.sublist (List.filter_sublist.map _)
  have hnd3 : ((aboveE u p.row).map (·.slot)).Nodup := by
    refine List.pairwise_map.2 ((Rise.above hok.rise).imp fun hlt => ?_)
    omega
  refine ⟨hmem, ?_, one_of_nodup hnd2⟩
  have p1 : ((l.filter fun e => decide (u < e.slot)).map (·.slot)).Perm ((aboveE u p.row).map (·.slot)) := by
    refine (List.perm_ext_iff_of_nodup hnd2 hnd3).2 fun x => ?_
    simp only [List.mem_map]
    exact ⟨fun ⟨e, he, hx⟩ => ⟨e, (hmem e).1 he, hx⟩, fun ⟨e, he, hx⟩ => ⟨e, (hmem e).2 he, hx⟩⟩
  have := p1.length_eq
  simpa using this
end
end Go.Proofs.Ytnomddhgcdoifaa
