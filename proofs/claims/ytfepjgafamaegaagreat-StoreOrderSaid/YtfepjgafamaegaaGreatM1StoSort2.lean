/- Of the proofs of layer 4, merged: StoSort2. -/
import Derived.Test.YtfepjgafamaegaaGreatM1StoSort
import Derived.Shelf.SlSortCmp.WholeK

/- slices.SortFunc over the program's pairs: a row that is owned, behind the sort. -/
namespace Go.Proofs.YtfepjgafamaegaaGreat
open Go.RowKit Go.Shelf Go.Sort

abbrev cmpV : Value := .func (.func 79) #[] #[]
theorem prCells_get : ∀ (xs : List Pr) (j : Nat), j < xs.length * 2 → (prCells xs)[j]? = some (encS xs[j / 2]!)[j % 2]!
  | [], j, h => by simp at h
  | p :: r, 0, _ => rfl
  | p :: r, 1, _ => rfl
  | p :: r, j + 2, h => by
    have ih := prCells_get r j (by simp at h; omega)
    have e1 : (prCells (p :: r))[j + 2]? = (prCells r)[j]? := rfl
    have e2 : (j + 2) / 2 = j / 2 + 1 := by omega
    have e3 : (j + 2) % 2 = j % 2 := by omega
    rw [e1, ih, e2, e3]
    rfl
theorem holds_of_own {W : World} {base g cap : Nat} {xs : List Pr} (h : W.ownsRow base 86 2 (.slice (some ⟨g, 0, none⟩) xs.length cap) xs.length (prCells xs)) : HoldsK encS 2 W g 0 xs.toArray := by
  intro j hj
  have hj' : j < xs.length * 2 := by simpa using hj
  have h1 := h.cellAt j hj'
  rw [prCells_get xs j hj'] at h1
  refine ⟨?_, h.frozenAt _⟩
  rw [Nat.zero_add, h1, get_flatK _ _ _ _ (by simpa using hj')]
  simp
theorem below_sort (W : World) (g n : Nat) (hg : g < W.heap.size) (d : Array Pr) (os : Array Obj) : Below g W (sortWorldK encS 2 W g 0 n d os) := by
  refine ⟨rfl, rfl, rfl, size_sortWorldK_c encS 2 W g 0 n d os, fun k hk => ?_⟩
  have hl : k < W.heap.size := by omega
  unfold sortWorldK putRowK
  rw [heap_grow_old _ _ (by simpa [putRow, mapBlock, Sort.ahead] using hl)]
  have : g ≠ k := by omega
  simp [putRow, mapBlock, Sort.ahead, Array.getElem?_modify, this]

set_option maxHeartbeats 1000000 in
theorem sort_any (hnone : ∀ (p : Option Addr) (cap : Nat) (fv : Value) (w : World), Calls Tryz.prog 114 #[.slice p 0 cap, fv] w fun e w' => e = .returned (.tuple #[]) ∧ w' = w)
    (xs : List Pr) (W : World) (base : Nat) (v : Value) (h : W.ownsRow base 86 2 v xs.length (prCells xs)) (hlen : xs.length < 4611686018427387904) (hn : (xs.map (·.1)).Nodup) :
    Calls Tryz.prog 114 #[v, cmpV] W fun e w' => e = .returned (.tuple #[]) ∧ Below base W w' ∧
      ∃ ys A cap, ys.Perm xs ∧ Srt ys ∧ v = .slice A xs.length cap ∧ PRd w' w'.heap.size A xs.length ys ∧ (∀ b o, A = some ⟨b, o, none⟩ → base ≤ b) := by
  cases hx : xs with
  | nil =>
    subst hx
    obtain ⟨A, cap, rfl, hA⟩ : ∃ A cap, v = .slice A 0 cap ∧ (∀ b o, A = some ⟨b, o, none⟩ → base ≤ b) := by
      rcases h.2 with ⟨rfl, _⟩ | ⟨g, cap, cur, rfl, hb, _⟩
      · exact ⟨none, 0, rfl, fun b o e => by cases e⟩
      · exact ⟨some ⟨g, 0, none⟩, cap, rfl, fun b o e => by cases e; exact hb⟩
    refine (hnone A cap cmpV W).mono ?_
    rintro e w' ⟨rfl, rfl⟩
    exact ⟨rfl, Below.refl _ _, [], A, cap, List.Perm.refl _, List.Pairwise.nil, rfl, ⟨rfl, fun i hi => by simp at hi⟩, hA⟩
  | cons p r =>
    rw [← hx]
    obtain ⟨g, cap, rfl⟩ : ∃ g cap, v = .slice (some ⟨g, 0, none⟩) xs.length cap := by
      rcases h.2 with ⟨_, h0⟩ | ⟨g, cap, cur, rfl, _⟩
      · rw [hx] at h0; cases h0
      · exact ⟨g, cap, rfl⟩
    have hg := h.lt g rfl
    have hsz : xs.toArray.size = xs.length := by simp
    have hH := holds_of_own h
    have HC := AnyQ.slices_SortFunc sortPair 2 isAggP sizeOfP encS (fun _ => rfl) (fun x v hv => by simp [encS] at hv; rcases hv with rfl | rfl <;> rfl) cmpP swoP 79 #[] g 0 cap xs.toArray W
      (enters_of Tryz.func79 (by kernel_rfl) rfl) (cmpLays g 0 _ W) hH hg.2 (by rw [hsz]; exact hlen)
    rw [hsz] at HC
    refine Calls.mono (show Calls Tryz.prog 114 _ _ _ from HC) ?_
    rintro e w' ⟨rfl, d', n, os, hp, hs, rfl⟩
    have hd : d'.size = xs.length := by rw [hp.1, hsz]
    have hperm : d'.toList.Perm xs := by
      have h2 := hp.2.2
      rw [show xs.length = d'.size from hd.symm, Array.extract_size] at h2
      rw [hd, ← hsz, Array.extract_size] at h2
      simpa using h2
    have hys := srt_of_sorted d' (by rw [hd]; exact hs) ((hperm.map _).nodup_iff.2 hn)
    have hH2 := holdsK_sortWorldK_c encS 2 W g 0 xs.toArray d' n os hH hg.2 hp.1
    have hsz2 := size_sortWorldK_c encS 2 W g 0 n d' os
    refine ⟨rfl, (below_sort W g n hg.2 d' os).mono hg.1, d'.toList, _, cap, hperm, hys, rfl, ⟨by simp [hd], fun i hi => ?_⟩, fun b o e => by cases e; exact hg.1⟩
    have hi' : i < d'.size := by simpa using hi
    have c0 := (HoldsK.cell hH2 hi' (c := 0) (by decide)).1
    have c1 := (HoldsK.cell hH2 hi' (c := 1) (by decide)).1
    rw [getElem!_pos d' i hi'] at c0 c1
    exact ⟨g, 0, rfl, by omega, by simpa [encS] using c0, by simpa [encS] using c1⟩
end Go.Proofs.YtfepjgafamaegaaGreat
