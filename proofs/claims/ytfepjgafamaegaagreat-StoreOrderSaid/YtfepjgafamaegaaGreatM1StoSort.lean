/- Of the proofs of layer 4, merged: StoSort. -/
import Derived.Test.YtfepjgafamaegaaGreatM1StoLay
import Derived.Test.YtfepjgafamaegaaGreatM1StoCmp
import Derived.Test.YtfepjgafamaegaaGreatMStoVal
import Derived.Shelf.SlSortCmp.InsertionK

/- slices.SortFunc, slices.SortedFunc over the program's pairs. -/
namespace Go.Proofs.YtfepjgafamaegaaGreat
open Go.RowKit Go.Shelf Go.Sort

def encS (p : Pr) : List Value := [sV p.1, sV p.2]
abbrev cmpP (p q : Pr) : Int := Lib.compareBytes p.1 q.1
theorem ltP (p q : Pr) : ltOf cmpP p q = lessB p.1 q.1 := compare_less p.1 q.1
theorem lessB_ntrans {a b c : List UInt8} (h1 : lessB a b = false) (h2 : lessB b c = false) : lessB a c = false := by
  cases h : lessB a c with
  | false => rfl
  | true =>
    cases hc : lessB c b with
    | true => rw [lessB_trans h hc] at h1; cases h1
    | false =>
      have e := lessB_total _ _ h2 hc
      subst e
      rw [h] at h1
      cases h1
theorem swoP : SWO (ltOf cmpP) where
  irrefl x := by rw [ltP]; exact lessB_irrefl _
  trans x y z h1 h2 := by rw [ltP] at *; exact lessB_trans h1 h2
  ntrans x y z h1 h2 := by rw [ltP] at *; exact lessB_ntrans h1 h2
theorem grow_two (w : World) (a b : Obj) : (w.alloc a).alloc b = grow w #[a, b] := by
  rw [alloc_eq_grow, alloc_eq_grow, grow_grow]
  rfl
theorem cmpLays (blk off size : Nat) (w : World) : CmpLays Tryz.prog 79 #[] encS 2 cmpP blk off size w := by
  intro m os dk _ x y
  refine (pcmp_any x y _).mono ?_
  rintro e w' ⟨rfl, rfl⟩
  refine ⟨rfl, 0, #[.cells #[sV x.1, sV x.2] 86, .cells #[sV y.1, sV y.2] 86], ?_⟩
  rw [grow_two]
  rfl
theorem isAggP (w : World) : (isAgg 86).run Tryz.prog w = .ok true w := by first | exact Tryz.isAgg86 w | simp [Tryz.isAgg86]
theorem sizeOfP (w : World) : (Go.sizeOf 86).run Tryz.prog w = .ok 2 w := by first | exact Tryz.sizeOf86 w | simp [Tryz.sizeOf86]

/-- A row that is sorted by the comparison, of pairs whose keys are each once: it rises. -/
theorem srt_of_sorted (d : Array Pr) (h : SortedIn (ltOf cmpP) 0 d.size d) (hn : (d.toList.map (·.1)).Nodup) : Srt d.toList := by
  unfold Srt
  rw [List.pairwise_iff_getElem]
  intro i j hi hj hij
  have hi' : i < d.size := by simpa using hi
  have hj' : j < d.size := by simpa using hj
  have h1 := h i j (Nat.zero_le _) hij hj'
  rw [ltP, getElem!_pos d i hi', getElem!_pos d j hj'] at h1
  simp only [Array.getElem_toList]
  cases h2 : lessB d[i].1 d[j].1 with
  | true => rfl
  | false =>
    have e := lessB_total _ _ h2 h1
    have hpw := List.nodup_iff_pairwise_ne.1 hn
    rw [List.pairwise_map, List.pairwise_iff_getElem] at hpw
    exact absurd e (by simpa using hpw i j hi hj hij)
/-- Two rising lists of the same pairs are one. -/
theorem srt_unique {A B : List Pr} (hA : Srt A) (hB : Srt B) (hp : A.Perm B) : A = B :=
  List.Perm.eq_of_pairwise (fun a b _ _ h1 h2 => by have := lessB_trans h1 h2; rw [lessB_irrefl] at this; cases this) hA hB hp
end Go.Proofs.YtfepjgafamaegaaGreat
