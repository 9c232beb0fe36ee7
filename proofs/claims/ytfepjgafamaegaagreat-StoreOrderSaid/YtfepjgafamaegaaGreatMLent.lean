/- Of the proofs of layer 4, merged: Lent, Own, Fam. -/
import Derived.Test.YtfepjgafamaegaaGreatProg
import Derived.Test.YtfepjgafamaegaaGreatM1RefPut
import Derived.Deep.LoopGhost
import Derived.Test.YtfepjgafamaegaaGreatMWords

/- ref00.Copy, Lent, Whole, Spoil. -/
namespace Go.Proofs.YtfepjgafamaegaaGreat
open Go.RowKit

set_option maxHeartbeats 1000000 in
set_option maxRecDepth 100000 in
theorem copy_any (A : Option Addr) (n c B : Nat) (l : List UInt8) (w : World) (hn : n ≤ 140737488355328) (h : Rd w B A n l) :
    Calls Tryz.prog 22 #[.slice A n c] w fun e w' => ∃ v, e = .returned v ∧ w'.ownsRow w.heap.size 5 1 v n (u8s l) ∧ Below w.heap.size w w' := by
  obtain ⟨i0, hi0, hz0, hz1, hz2⟩ := info_parts Tryz.infoU8
  have hA : A = none → n = 0 := by
    intro e
    rcases Nat.eq_zero_or_pos n with h0 | h0
    · exact h0
    · obtain ⟨b, o, e', _⟩ := h.2 h0; rw [e] at e'; cases e'
  go_enter Tryz.func22, Tryz.ntmps22
  go_wp2_with (at_builtin; refine wpList_append_app _ rfl _ _ 23 rfl w.heap.size 5 i0 (.int .u8 0) 1 1 Tryz.underlying23 hi0 hz0 hz1 hz2 rfl _ 0 [] rfl (World.ownsRow_nil _ _ _ _) A n c (u8s l) rfl (by rw [u8s_len, h.1, Nat.mul_one]) hA h.cells (u8s_one l) (by unfold maxLen; omega) (by omega) (Nat.le_refl _) ?_)
  intro v' w1 ha
  have hb1 := ha.below (Below.refl w.heap.size w) (Nat.le_refl _) (by simp [Value.ownBlock])
  have ho := ha.own
  rw [Nat.zero_add, List.nil_append] at ho
  go_wp2
  go_ret
  exact ⟨v', rfl, ho, hb1⟩

theorem cells_new2 (w : World) (x y : Value) (t : TypeId) : ∀ a, (some ⟨w.heap.size, 0, none⟩ : Option Addr) = some a → ∀ j u, [x, y][j]? = some u → (w.alloc (.cells #[x, y] t)).cell? (a.add j) = some u := by
  intro a ha j u hu
  obtain rfl := Option.some.inj ha
  rw [Addr.add_lit, Nat.zero_add, World.cell?_alloc_at _ _ _ _ rfl]
  match j, hu with
  | 0, hu => simpa using hu
  | 1, hu => simpa using hu

set_option maxHeartbeats 1000000 in
set_option maxRecDepth 100000 in
theorem lent_any (A : Option Addr) (n c B : Nat) (l : List UInt8) (w : World) (hn : n ≤ 140737488355000) (h : Rd w B A n l) :
    Calls Tryz.prog 12 #[.slice A n c] w fun e w' => ∃ g cap, e = .returned (.slice (some ⟨g, 0, none⟩) n cap) ∧ w'.ownsRow w.heap.size 5 1 (.slice (some ⟨g, 0, none⟩) (n + 2) cap) (n + 2) (u8s (l ++ [91, 92])) ∧ Below w.heap.size w w' := by
  obtain ⟨i0, hi0, hz0, hz1, hz2⟩ := info_parts Tryz.infoU8
  have Hc := Lib.hid (copy_any A n c B l w (by omega) h)
  clear h
  go_enter Tryz.func12, Tryz.ntmps12
  go_wp2_with fail
  refine Hc.out.mono ?_
  rintro e w1 ⟨v, rfl, hown, hb⟩
  have hsz := hb.size
  clear Hc
  go_wp2_with (at_builtin; refine wpList_append_app _ rfl _ _ 23 rfl w.heap.size 5 i0 (.int .u8 0) 1 1 Tryz.underlying23 hi0 hz0 hz1 hz2 rfl _ _ _ rfl (hown.alloc _) (some ⟨w1.heap.size, 0, none⟩) 2 2 [Value.int .u8 91, Value.int .u8 92] rfl rfl (by intro h; cases h) (cells_new2 _ _ _ _) (by intro u hu; simp at hu; rcases hu with rfl | rfl <;> rfl) (by unfold maxLen; omega) (by omega) (by simp; omega) ?_)
  intro v' w2 ha
  have hb2 := ha.below (hb.alloc hsz _) (by simp; omega) (own_block_ge hown)
  have ho := ha.own
  have hsh : ∃ g cap, v' = .slice (some ⟨g, 0, none⟩) (n + 2) cap ∧ n + 2 ≤ cap := by
    rcases ho.2 with ⟨_, h0⟩ | ⟨g, cap, cur, hv, _, _, h1, _⟩
    · omega
    · exact ⟨g, cap, hv, h1⟩
  obtain ⟨g, cap, rfl, hcap⟩ := hsh
  have hcm := (own_shape ho).choose_spec.choose_spec.2.2
  go_wp2
  go_ret
  refine ⟨g, cap, rfl, ?_, hb2⟩
  rw [u8s_append]
  exact ho

set_option maxHeartbeats 1000000 in
set_option maxRecDepth 100000 in
theorem whole_any (g cap base n c B : Nat) (A : Option Addr) (l : List UInt8) (w : World) (hn : n ≤ 140737488355000) (hx : w.ownsRow base 5 1 (.slice (some ⟨g, 0, none⟩) (n + 2) cap) (n + 2) (u8s (l ++ [91, 92]))) (h : Rd w B A n l) :
    Calls Tryz.prog 21 #[.slice (some ⟨g, 0, none⟩) n cap, .slice A n c] w fun e w' => e = .returned (.bool true) ∧ w = w' := by
  have hl := h.1
  have c1 : w.cell? ⟨g, n, none⟩ = some (.int .u8 91) := by
    rw [hx.cellAt n (by omega), u8s_at _ _ (by simp; omega)]
    simp [hl]
  have c2 : w.cell? ⟨g, n + 1, none⟩ = some (.int .u8 92) := by
    rw [hx.cellAt (n + 1) (by omega), u8s_at _ _ (by simp; omega)]
    simp [hl]
  have hcap : n + 2 ≤ cap := by
    rcases hx.2 with ⟨h', _⟩ | ⟨g', cap', cur, hv, _, _, h1, _⟩
    · cases h'
    · injection hv with _ _ hc; omega
  have hxr : Rd w w.heap.size (some ⟨g, 0, none⟩) n l := by
    have hlt : g < w.heap.size := (hx.lt g rfl).2
    refine ⟨hl, fun _ => ⟨g, 0, rfl, hlt, fun j hj => ?_⟩⟩
    rw [Nat.zero_add, hx.cellAt j (by omega), u8s_at _ _ (by simp; omega)]
    simp [List.getElem_append_left hj]
  have k1 := hxr.str Tryz.underlying23 Tryz.underlying5 Tryz.underlying9 cap
  have k2 := h.str Tryz.underlying23 Tryz.underlying5 Tryz.underlying9 c
  have i1 : (n : Int) + 1 < ((n + 2 : Nat) : Int) := by omega
  have i2 : (n : Int) < ((n + 2 : Nat) : Int) := by omega
  clear hx h hxr hl
  go_enter Tryz.func21, Tryz.ntmps21
  go_wp2
  go_ret
  exact ⟨rfl, rfl⟩

end Go.Proofs.YtfepjgafamaegaaGreat

/- ref00.Own answers true, and changes nothing below the lists' own blocks, if each list lies in memory of its own. -/
namespace Go.Proofs.YtfepjgafamaegaaGreat
open Go.RowKit

section
variable {w w' : World} {base e e2 : Nat} {lv v : Value} {vals : List Value} {L : Nat → List UInt8}
theorem Lies.cell (h : Lies w base e e2 lv vals L) {gl c0 i : Nat} (hlv : lv = .slice (some ⟨gl, 0, none⟩) vals.length c0) (hi : vals[i]? = some v) : w.cell? ⟨gl, i, none⟩ = some v := by
  have hr := h.row
  rw [hlv] at hr
  rw [hr.cellAt i (by have := (List.getElem?_eq_some_iff.1 hi).1; omega), hi]
theorem own_head {n : Nat} {xs : List Value} {b s : Nat} {u : Value} (h : w.ownsRow b e s u n xs) (hn : 0 < n) : ∃ g c, u = .slice (some ⟨g, 0, none⟩) n c ∧ n ≤ c ∧ b ≤ g := by
  rcases h.2 with ⟨_, h0⟩ | ⟨g, cap, cur, rfl, hb, _, h1, _⟩
  · omega
  · exact ⟨g, cap, rfl, h1, hb⟩
end

theorem Tryz.infoBytes : (Tryz.prog.info? 23).map (fun i => (i.zero, i.size, i.bytes)) = some (some (.slice none 0 0), 1, 24) := by kernel_rfl

theorem Long.start {w : World} {base : Nat} {lv : Value} {vals : List Value} {ns : Nat → Nat} (h : Lies w base 5 23 lv vals fun i => F i (ns i)) : Long w base 5 23 lv vals ns (.slice none 0 0) [] :=
  ⟨h, World.ownsRow_nil _ _ _ _, fun j x hx => by simp at hx, Apart.nil _, fun j k x v _ hx => by simp at hx, fun i j v u _ hv => by simp at hv⟩

theorem wbyte (x : Int) : (IntKind.u8.wrap x) = x % 256 := IntKind.wrap_u8 x

/-- The first loop's state. -/
def S1 (base : Nat) (lv : Value) (vals : List Value) (L0 : Nat → List UInt8) (j k : Nat) (wr : World) : Prop :=
  ∃ L, Lies wr base 5 23 lv vals L ∧ (∀ i, (L i).length = (L0 i).length) ∧ (∀ i, i < j → L i = F i (L0 i).length) ∧ Done j k (L j)

theorem S1.next {base : Nat} {lv : Value} {vals : List Value} {L0 : Nat → List UInt8} {j : Nat} {wr : World} (h : S1 base lv vals L0 j (L0 j).length wr) : S1 base lv vals L0 (j + 1) 0 wr := by
  obtain ⟨L, h1, h2, h3, h4⟩ := h
  refine ⟨L, h1, h2, fun i hi => ?_, Done.zero _ _⟩
  by_cases hij : i = j
  · subst hij
    rw [← h2 i] at h4 ⊢
    exact h4.all
  · exact h3 i (by omega)

theorem S1.store {base : Nat} {lv : Value} {vals : List Value} {L0 : Nat → List UInt8} {j k : Nat} {wr : World} (h : S1 base lv vals L0 j k wr) (hap : AllApart vals) {g n c : Nat} (hv : vals[j]? = some (.slice (some ⟨g, 0, none⟩) n c)) :
    S1 base lv vals L0 j (k + 1) (wr.setCell ⟨g, k, none⟩ (.int .u8 ((fb j k).toNat : Int))) := by
  obtain ⟨L, h1, h2, h3, h4⟩ := h
  refine ⟨_, h1.store (by decide) hap hv (fb j k), fun i => ?_, fun i hi => ?_, ?_⟩
  · by_cases hi : i = j
    · subst hi; rw [upd_same, List.length_set, h2]
    · rw [upd_other _ _ _ _ hi, h2]
  · rw [upd_other _ _ _ _ (by omega)]; exact h3 i hi
  · rw [upd_same]; exact h4.step

theorem S1.done {base : Nat} {lv : Value} {vals : List Value} {L0 : Nat → List UInt8} {wr : World} (h : S1 base lv vals L0 vals.length 0 wr) : Lies wr base 5 23 lv vals fun i => F i (L0 i).length := by
  obtain ⟨L, h1, h2, h3, _⟩ := h
  exact h1.congr fun i hi => h3 i hi

theorem S1.shape {base : Nat} {lv : Value} {vals : List Value} {L0 : Nat → List UInt8} {j k : Nat} {wr : World} (h : S1 base lv vals L0 j k wr) {v : Value} (hv : vals[j]? = some v) : ∃ l, wr.ownsRow base 5 1 v (L0 j).length (u8s l) := by
  obtain ⟨L, h1, h2, _⟩ := h
  have := h1.each j v hv
  rw [h2 j] at this
  exact ⟨_, this⟩
theorem S1.cell {base c0 gl : Nat} {vals : List Value} {L0 : Nat → List UInt8} {j k i : Nat} {wr : World} (h : S1 base (.slice (some ⟨gl, 0, none⟩) vals.length c0) vals L0 j k wr) {v : Value} (hv : vals[i]? = some v) : wr.cell? ⟨gl, i, none⟩ = some v := by
  obtain ⟨L, h1, _⟩ := h
  exact h1.cell rfl hv

end Go.Proofs.YtfepjgafamaegaaGreat

/- A family of lists that the call has made one behind the other: each its own, all apart; and what Own says of them. -/
namespace Go.Proofs.YtfepjgafamaegaaGreat
open Go.RowKit

structure Fam (w : World) (base : Nat) (vals : List Value) (ls : List (List UInt8)) : Prop where
  len : vals.length = ls.length
  each : ∀ (i : Nat) (v : Value), vals[i]? = some v → w.ownsRow base 5 1 v (ls.getD i []).length (u8s (ls.getD i []))
  apart : AllApart vals

theorem Fam.nil (w : World) (base : Nat) : Fam w base [] [] := ⟨rfl, fun i v h => by simp at h, fun i j v u _ h => by simp at h⟩

theorem Fam.up {w w' : World} {base : Nat} {vals : List Value} {ls : List (List UInt8)} (h : Fam w base vals ls) (hb : Below w.heap.size w w') : Fam w' base vals ls :=
  ⟨h.len, fun i v hv => own_below (h.each i v hv) hb fun k hk => ((h.each i v hv).lt k hk).2, h.apart⟩

/-- Whatever may have turned, if not in one of their rows. -/
theorem Fam.grown {w w' : World} {base : Nat} {vals : List Value} {ls : List (List UInt8)} {row : Option Nat} (h : Fam w base vals ls) (hg : w.grownBy w' row) (hr : ∀ (i : Nat) (v : Value), vals[i]? = some v → v.ownBlock = none ∨ v.ownBlock ≠ row) : Fam w' base vals ls :=
  ⟨h.len, fun i v hv => (h.each i v hv).kept hg (hr i v hv), h.apart⟩

theorem append_get {α : Type} {xs : List α} {x : α} {i : Nat} {u : α} (h : (xs ++ [x])[i]? = some u) : (i < xs.length ∧ xs[i]? = some u) ∨ (i = xs.length ∧ u = x) := by
  by_cases hi : i < xs.length
  · rw [List.getElem?_append_left hi] at h; exact .inl ⟨hi, h⟩
  · rw [List.getElem?_append_right (by omega)] at h
    have h0 : i - xs.length = 0 := by
      by_cases h0 : i - xs.length = 0
      · exact h0
      · rw [List.getElem?_eq_none (by simp; omega)] at h; cases h
    rw [h0] at h
    exact .inr ⟨by omega, by simpa using h.symm⟩

/-- One list more, made behind all of them. -/
theorem Fam.push {w w' : World} {base : Nat} {vals : List Value} {ls : List (List UInt8)} {v : Value} {l : List UInt8} (h : Fam w base vals ls) (hb : Below w.heap.size w w') (hv : w'.ownsRow w.heap.size 5 1 v l.length (u8s l)) (hbase : base ≤ w.heap.size) :
    Fam w' base (vals ++ [v]) (ls ++ [l]) := by
  have h' := h.up hb
  have hl := h.len
  have hap : ∀ (i : Nat) (u : Value), vals[i]? = some u → Apart u v := by
    intro i u hu g hg hvg
    have h1 := ((h.each i u hu).lt g hg).2
    have h2 := (hv.lt g hvg).1
    omega
  refine ⟨by simp [hl], fun i u hu => ?_, fun i j u x hij hu hx => ?_⟩
  · rcases append_get hu with ⟨hi, hu⟩ | ⟨rfl, rfl⟩
    · have := h'.each i u hu
      have e : (ls ++ [l]).getD i [] = ls.getD i [] := by simp [List.getD, List.getElem?_append_left (show i < ls.length by omega)]
      rw [e]
      exact this
    · have e : (ls ++ [l]).getD vals.length [] = l := by simp [List.getD, hl]
      rw [e]
      exact own_mono hv hbase
  · rcases append_get hu with ⟨_, hu'⟩ | ⟨rfl, rfl⟩
    · rcases append_get hx with ⟨_, hx'⟩ | ⟨rfl, rfl⟩
      · exact h.apart i j u x hij hu' hx'
      · exact hap i u hu'
    · rcases append_get hx with ⟨_, hx'⟩ | ⟨rfl, rfl⟩
      · exact (hap j x hx').symm
      · exact absurd rfl hij

end Go.Proofs.YtfepjgafamaegaaGreat
