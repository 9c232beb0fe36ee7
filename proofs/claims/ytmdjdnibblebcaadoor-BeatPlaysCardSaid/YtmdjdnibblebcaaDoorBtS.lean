/- Layer 14: a row of nodes, sorted. -/
import Derived.Test.YtmdjdnibblebcaaDoorBtC
import Derived.Test.YtmdjdnibblebcaaDoorBtT
namespace Go.Proofs.YtmdjdnibblebcaaDoor
open Go.RowKit Go.Shelf Go.Lib Go.Sort

def kl (v : Vw) (home : Int) (i j : Nat) : Prop :=
  awayI v home i < awayI v home j ∨ (awayI v home i = awayI v home j ∧ (v.site i < v.site j ∨ (v.site i = v.site j ∧ i < j)))
theorem cf_lt (v : Vw) (home : Int) (i j : Nat) : cfV v home i j < 0 ↔ kl v home i j := by
  unfold cfV kl or3 compareInt
  generalize awayI v home i = a
  generalize awayI v home j = b
  generalize v.site i = x
  generalize v.site j = y
  repeat (split)
  all_goals omega
theorem swoV (v : Vw) (home : Int) (n : Nat) : SWO (ltOf fun i j => cfV v home (i % n) (j % n)) where
  irrefl x := by
    unfold ltOf
    rw [decide_eq_false_iff_not, cf_lt]
    unfold kl
    omega
  trans x y z h1 h2 := by
    unfold ltOf at *
    rw [decide_eq_true_iff, cf_lt] at *
    unfold kl at *
    omega
  ntrans x y z h1 h2 := by
    unfold ltOf at *
    rw [decide_eq_false_iff_not, cf_lt] at *
    unfold kl at *
    omega
theorem le_of_not_kl {v : Vw} {home : Int} {i j : Nat} (h : ¬ kl v home j i) : ordLe v.site home i j := by
  unfold kl at h
  unfold ordLe
  have e : ∀ k, awayI v home k = ((if (v.site k : Int) = home then 0 else 1 : Nat) : Int) := fun k => by unfold awayI; split <;> rfl
  rw [e, e] at h
  dsimp only
  omega
section
variable {α : Type} [Inhabited α] (enc : α → Value) {w : World} {g n : Nat} {os : Array Obj} {cur : Array Value} {e : TypeId} {fr : Nat × Nat}
theorem heap_srt (d : Array α) (hb : w.heap[g]? = some (.cells cur e fr)) : (sortWorld enc w g 0 n d os).heap[g]? = some (.cells (putCells enc 0 d cur) e fr) := by
  have hg : g < w.heap.size := (Array.getElem?_eq_some_iff.1 hb).1
  unfold sortWorld
  rw [heap_grow_old _ _ (by simpa [putRow, mapBlock, Sort.ahead] using hg)]
  simp [putRow, mapBlock, Sort.ahead, Array.getElem?_modify, hb, onCells]
theorem kp_srt (d : Array α) : Kp (fun k => k = g) w (sortWorld enc w g 0 n d os) := by
  unfold sortWorld
  refine ⟨rfl, rfl, rfl, by simp [grow, putRow, mapBlock, Sort.ahead], fun k hk hne => ?_⟩
  rw [heap_grow_old _ _ (by simpa [putRow, mapBlock, Sort.ahead] using hk)]
  have : g ≠ k := fun e => hne e.symm
  simp [putRow, mapBlock, Sort.ahead, Array.getElem?_modify, this]
theorem take_put (ts : List α) (h : ts.length ≤ cur.size) : (putCells enc 0 ts.toArray cur).toList.take ts.length = ts.map enc := by
  apply List.ext_getElem?
  intro j
  by_cases hj : j < ts.length
  · rw [List.getElem?_take_of_lt hj, Array.getElem?_toList]
    simp [putCells, hj, show j < cur.size by omega]
  · rw [List.getElem?_take_eq_none (by omega), List.getElem?_eq_none (by simp; omega)]
end
abbrev natsV (l : List Nat) : List Value := l.map fun (i : Nat) => Value.int .i64 (i : Int)
def ndV (n : Nat) (i : Nat) : Value := .int .i64 ((i % n : Nat) : Int)
theorem natsV_mod {n : Nat} {l : List Nat} (h : ∀ i ∈ l, i < n) : l.map (ndV n) = natsV l := List.map_congr_left fun i hi => by unfold ndV; rw [Nat.mod_eq_of_lt (h i hi)]
theorem sort_none (A : Option Addr) (c : Nat) (fv : Value) (w : World) : Calls Tryd.prog 33 #[.slice A 0 c, fv] w fun e w' => e = .returned (.tuple #[]) ∧ w' = w :=
  AnyF.slices_SortFunc_none (P := Tryd.prog) (ρ := layS_ren) { layS with } A c fv w
section
variable {w : World} {g b c bv bh ba base cap k : Nat} {v : Vw} {home : Int}
set_option maxHeartbeats 1000000 in
theorem sort_any (h : PV w g b c v) (hv : w.cell? ⟨bv, 0, none⟩ = some (.pointer (some ⟨g, 0, none⟩))) (hh : w.cell? ⟨bh, 0, none⟩ = some (.int .i64 home))
    (ha : w.cell? ⟨ba, 0, none⟩ = some (.func (.func 32) #[] #[.pointer (some ⟨bv, 0, none⟩), .pointer (some ⟨bh, 0, none⟩)]))
    (kg : k ≠ g) (kb : k ≠ b) (kv : k ≠ bv) (kh : k ≠ bh) (ka : k ≠ ba) {l : List Nat} (hl : ∀ i ∈ l, i < v.n) (hp : l.Pairwise (· < ·)) (ho : w.ownsRow base 3 1 (.slice (some ⟨k, 0, none⟩) l.length cap) l.length (natsV l)) :
    Calls Tryd.prog 33 #[.slice (some ⟨k, 0, none⟩) l.length cap, .func (.func 34) #[] #[.pointer (some ⟨ba, 0, none⟩), .pointer (some ⟨bv, 0, none⟩)]] w fun e w' =>
      e = .returned (.tuple #[]) ∧ Kp (fun x => x = k) w w' ∧ w'.ownsRow base 3 1 (.slice (some ⟨k, 0, none⟩) l.length cap) l.length (natsV (Vw.ordL v.site home l)) := by
  have hn0 := h.ok.n1
  have hn12 := h.ok.n12
  rcases ho.2 with ⟨e0, _⟩ | ⟨k', cap', cur, hval, hbase, hheap, hc1, hc2, hc3, hc4⟩
  · cases e0
  injection hval with e1 _ e2
  injection e1 with e1
  injection e1 with e1
  subst e1 e2
  have hkl : k < w.heap.size := (Array.getElem?_eq_some_iff.1 hheap).1
  have hH : Holds (ndV v.n) w k 0 l.toArray := by
    intro j hj
    have hj' : j < l.length := by simpa using hj
    refine ⟨?_, by simp [World.frozen?, hheap]⟩
    have h1 := ho.cellAt j (by rw [Nat.mul_one]; exact hj')
    rw [Nat.zero_add, h1]
    simp [natsV, hj', ndV, Nat.mod_eq_of_lt (hl l[j] (List.getElem_mem hj'))]
  have hcmp : CmpLays1 Tryd.prog 34 #[.pointer (some ⟨ba, 0, none⟩), .pointer (some ⟨bv, 0, none⟩)] (ndV v.n) (fun i j => cfV v home (i % v.n) (j % v.n)) k 0 l.toArray.size w := by
    intro m os dk _ x y
    have hk := kp_srt (ndV v.n) (w := w) (g := k) (n := m) (os := os) dk
    generalize sortWorld (ndV v.n) w k 0 m dk os = W at hk ⊢
    exact cmp_any (h.kp hk (fun e => kg e.symm) (fun e => kb e.symm)) (x % v.n) (y % v.n) (Nat.mod_lt _ hn0) (Nat.mod_lt _ hn0) (cell_kp (p := ⟨bv, 0, none⟩) hv hk (fun e => kv e.symm)) (cell_kp (p := ⟨bh, 0, none⟩) hh hk (fun e => kh e.symm)) (cell_kp (p := ⟨ba, 0, none⟩) ha hk (fun e => ka e.symm))
  have HC := Any.slices_SortFunc layS (ndV v.n) (fun _ => rfl) (fun i j => cfV v home (i % v.n) (j % v.n)) (swoV v home v.n) 34 #[.pointer (some ⟨ba, 0, none⟩), .pointer (some ⟨bv, 0, none⟩)] k 0 cap l.toArray w
    (enters_of Tryd.func34 (by kernel_rfl) rfl) hcmp hH hkl (by
      have : l.length ≤ 12 := Nat.le_trans (nodup_len _ _ (hp.imp fun h => by omega) hl) hn12
      simp; omega)
  have hsz : l.toArray.size = l.length := by simp
  rw [hsz] at HC
  refine Calls.mono (show Calls Tryd.prog 33 _ _ _ from HC) ?_
  rintro e w' ⟨rfl, d', n, os, hperm, hs, rfl⟩
  have hd : d'.size = l.length := by rw [hperm.1, hsz]
  have hpm : d'.toList.Perm l := by
    have h2 := hperm.2.2
    rw [show l.length = d'.size from hd.symm, Array.extract_size] at h2
    rw [hd, ← hsz, Array.extract_size] at h2
    simpa using h2
  have hlt : ∀ i ∈ d'.toList, i < v.n := fun i hi => hl i (hpm.mem_iff.1 hi)
  have hord : d'.toList = Vw.ordL v.site home l := by
    refine ordL_unique hp (fun i hi => h.ok.site i (hl i hi)) hpm ?_
    rw [List.pairwise_iff_getElem]
    intro i j hi hj hij
    have hi' : i < d'.size := by simpa using hi
    have hj' : j < d'.size := by simpa using hj
    have h1 := hs i j (Nat.zero_le _) hij (by omega)
    unfold ltOf at h1
    rw [decide_eq_false_iff_not, cf_lt, getElem!_pos d' i hi', getElem!_pos d' j hj'] at h1
    have hli := hlt d'[i] (by simp)
    have hlj := hlt d'[j] (by simp)
    rw [Nat.mod_eq_of_lt hli, Nat.mod_eq_of_lt hlj] at h1
    simpa using le_of_not_kl h1
  refine ⟨rfl, kp_srt _ _, ?_⟩
  have hlen : (Vw.ordL v.site home l).length = l.length := by rw [← hord]; simpa using hd
  refine ⟨by rw [List.length_map, hlen, Nat.mul_one], .inr ⟨k, cap, _, rfl, hbase, heap_srt (ndV v.n) d' hheap, hc1, hc2, by simp [putCells, hc3], ?_⟩⟩
  have h9 := take_put (ndV v.n) (cur := cur) d'.toList (by rw [hc3]; simp; omega)
  rw [show d'.toList.toArray = d' by simp, show d'.toList.length = l.length by simpa using hd, natsV_mod hlt, hord] at h9
  rw [Nat.mul_one]
  exact h9
end
end Go.Proofs.YtmdjdnibblebcaaDoor
