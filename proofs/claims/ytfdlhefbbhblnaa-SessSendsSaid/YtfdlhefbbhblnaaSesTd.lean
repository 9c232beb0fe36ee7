/- Layer 7's laws: the pieces that were told, in a row, each in memory of its own, apart from both senders. -/
import Derived.Test.YtfdlhefbbhblnaaSesTs
import Derived.Test.YtfdlhefbbhblnaaSesLn
import Derived.Test.YtfdlhefbbhblnaaOwnK
import Derived.Test.YtfdlhefbbhblnaaAppend2
namespace Go.Proofs.Ytfdlhefbbhblnaa
open Go.RowKit Go.Maps

/-- Two families, the second one made behind the first. -/
theorem Fam.join {w : World} {base base2 : Nat} {vals vals2 : List Value} {ls ls2 : List (List UInt8)} (h : Fam w base vals ls) (h2 : Fam w base2 vals2 ls2) (hb : base ≤ base2) (hlt : ∀ v ∈ vals, ∀ k, v.ownBlock = some k → k < base2) : Fam w base (vals ++ vals2) (ls ++ ls2) := by
  have hl := h.len
  have hl2 := h2.len
  have sp : ∀ {i : Nat} {u : Value}, (vals ++ vals2)[i]? = some u → (i < vals.length ∧ vals[i]? = some u) ∨ (vals.length ≤ i ∧ vals2[i - vals.length]? = some u) := by
    intro i u hu
    by_cases hi : i < vals.length
    · rw [List.getElem?_append_left hi] at hu; exact .inl ⟨hi, hu⟩
    · rw [List.getElem?_append_right (by omega)] at hu; exact .inr ⟨by omega, hu⟩
  have hap : ∀ (i j : Nat) (u x : Value), vals[i]? = some u → vals2[j]? = some x → Apart u x := by
    intro i j u x hu hx g hg hvg
    have h1 := hlt u (List.mem_of_getElem? hu) g hg
    have h3 := ((h2.each j x hx).lt g hvg).1
    omega
  refine ⟨by simp [hl, hl2], fun i u hu => ?_, fun i j u x hij hu hx => ?_⟩
  · rcases sp hu with ⟨hi, hu⟩ | ⟨hi, hu⟩
    · have e : (ls ++ ls2).getD i [] = ls.getD i [] := by simp [List.getD, List.getElem?_append_left (show i < ls.length by omega)]
      rw [e]
      exact h.each i u hu
    · have e : (ls ++ ls2).getD i [] = ls2.getD (i - vals.length) [] := by simp [List.getD, List.getElem?_append_right (show ls.length ≤ i by omega), hl]
      rw [e]
      exact own_mono (h2.each _ u hu) hb
  · rcases sp hu with ⟨hi, hu⟩ | ⟨hi, hu⟩
    · rcases sp hx with ⟨hj, hx⟩ | ⟨hj, hx⟩
      · exact h.apart i j u x hij hu hx
      · exact hap _ _ u x hu hx
    · rcases sp hx with ⟨hj, hx⟩ | ⟨hj, hx⟩
      · exact (hap _ _ x u hx hu).symm
      · exact h2.apart _ _ u x (by omega) hu hx

/-- The first n of these lists are in the row; all of them are the call's own, apart from G. -/
structure Tld (W w : World) (G : Nat → Prop) (tv : Value) (n : Nat) (vals : List Value) (ls : List (List UInt8)) : Prop where
  row : w.ownsRow W.heap.size 34 1 tv n (vals.take n)
  le : n ≤ vals.length
  fam : Fam w W.heap.size vals ls
  off : ∀ k, tv.ownBlock = some k → ¬ G k
  offs : ∀ v ∈ vals, ∀ k, v.ownBlock = some k → ¬ G k
  small : ∀ l ∈ ls, l.length ≤ 1000
section
variable {W w w' : World} {G G' : Nat → Prop} {tv tv' : Value} {n : Nat} {vals : List Value} {ls : List (List UInt8)}
theorem Tld.nil (W w : World) (G : Nat → Prop) : Tld W w G (.slice none 0 0) 0 [] [] := ⟨World.ownsRow_nil _ _ _ _, Nat.le_refl _, Fam.nil _ _, (fun k e => by cases e), by simp, by simp⟩
theorem Tld.lt (h : Tld W w G tv n vals ls) : ∀ v ∈ vals, ∀ k, v.ownBlock = some k → k < w.heap.size := fun v hv k e => by
  obtain ⟨i, hi, rfl⟩ := List.mem_iff_getElem.1 hv
  exact ((h.fam.each i _ (List.getElem?_eq_getElem hi)).lt k e).2
theorem Tld.kp {H : Nat → Prop} (h : Tld W w G tv n vals ls) (hk : Kp H w w') (ht : ∀ k, tv.ownBlock = some k → ¬ H k) (hv : ∀ v ∈ vals, ∀ k, v.ownBlock = some k → ¬ H k) : Tld W w' G tv n vals ls :=
  ⟨own_kp h.row hk ht, h.le, ⟨h.fam.len, fun i v hi => own_kp (h.fam.each i v hi) hk (hv v (List.mem_of_getElem? hi)), h.fam.apart⟩, h.off, h.offs, h.small⟩
theorem Tld.mv (h : Tld W w G tv n vals ls) (hm : Mv G G' w w') : Tld W w' G' tv n vals ls := by
  have h2 := h.kp hm.kp h.off h.offs
  refine ⟨h2.row, h2.le, h2.fam, fun k e hg => ?_, fun v hv k e hg => ?_, h2.small⟩
  · rcases hm.new k hg with h3 | h3
    · exact h.off k e h3
    · have := (h.row.lt k e).2; omega
  · rcases hm.new k hg with h3 | h3
    · exact h.offs v hv k e h3
    · have := h.lt v hv k e; omega
theorem Tld.below (h : Tld W w G tv n vals ls) (hb : Below w.heap.size w w') : Tld W w' G tv n vals ls := h.mv (Mv.below7 hb)
/-- More lists are there, made behind all of them. -/
theorem Tld.more {v : Value} {es : List Sge} (h : Tld W w G tv n vals ls) (hm : Mv G G' w w') (hr : SgRow w' w.heap.size v es) (hW : W.heap.size ≤ w.heap.size) (hG : ∀ k, G k → k < w.heap.size) (hG' : ∀ k, G' k → G k) (hs : ∀ e ∈ es, e.1.body.length ≤ 1000) :
    Tld W w' G' tv n (vals ++ es.map (·.2)) (ls ++ es.map (·.1.body)) := by
  have h2 := h.mv hm
  have hle := h2.le
  refine ⟨by rw [List.take_append_of_le_length hle]; exact h2.row, by rw [List.length_append]; omega, h2.fam.join hr.fam hW (h.lt), h2.off, fun v hv k e hg => ?_, fun l hl => ?_⟩
  · rcases List.mem_append.1 hv with hv | hv
    · exact h2.offs v hv k e hg
    · obtain ⟨i, hi, rfl⟩ := List.mem_iff_getElem.1 hv
      have := ((hr.fam.each i _ (List.getElem?_eq_getElem hi)).lt k e).1
      have := hG k (hG' k hg)
      omega
  · rcases List.mem_append.1 hl with hl | hl
    · exact h2.small l hl
    · obtain ⟨e, he, rfl⟩ := List.mem_map.1 hl
      exact hs e he
/-- One more of them is in the row. -/
theorem Tld.step {u : Value} (h : Tld W w G tv n vals ls) (hn : vals[n]? = some u) (hG : ∀ k, G k → k < w.heap.size) (ha : App w w' W.heap.size 34 1 tv tv' n 1 (vals.take n) [u]) : Tld W w' G tv' (n + 1) vals ls ∧ Kp (fun k => tv.ownBlock = some k) w w' := by
  have hk : Kp (fun k => tv.ownBlock = some k) w w' := Kp.of_row ha.grow fun g e => e
  have hlt := (List.getElem?_eq_some_iff.1 hn).1
  refine ⟨⟨?_, hlt, ⟨h.fam.len, fun i v hi => own_kp (h.fam.each i v hi) hk fun k e e2 => own_ne7 (h.fam.each i v hi) h.row (by decide) k e e2, h.fam.apart⟩, fun k e hg => ?_, h.offs, h.small⟩, hk⟩
  · have := ha.own
    rw [List.take_add_one, hn]
    exact this
  · rcases ha.block with h' | h'
    · rw [h'] at e; exact h.off k e hg
    · rw [h'] at e
      injection e with e
      have := hG k hg
      omega
/-- Own of the row, once all are in it. -/
theorem Tld.own {A : Option Addr} {K c : Nat} (h : Tld W w G (.slice A K c) K vals ls) (hK : vals.length = K) (hs : K ≤ 40) :
    Calls Try.prog 21 #[.slice A K c] w fun e w' => e = .returned (.bool true) ∧ Kp (VB vals) w w' := by
  refine own_kp_any A K c 0 vals (fun i => ls.getD i []) w hK ⟨?_, fun i v hi => own_mono (h.fam.each i v hi) (Nat.zero_le _)⟩ h.fam.apart (Nat.zero_le _) (by omega) fun i => ?_
  · have := h.row
    rw [List.take_of_length_le (by omega)] at this
    rw [hK]
    exact own_mono this (Nat.zero_le _)
  · by_cases hi : i < ls.length
    · have e : ls.getD i [] = ls[i] := by simp [List.getD, hi]
      rw [e]
      have := h.small _ (List.getElem_mem hi)
      omega
    · have e : ls.getD i [] = [] := by simp [List.getD, hi]
      rw [e]
      simp
end
end Go.Proofs.Ytfdlhefbbhblnaa
