/- A family of lists that the call has made one behind the other: each its own, all apart; and what Own says of them. -/
import Derived.Test.YtnomddhgcdoifaaOwn
namespace Go.Proofs.Ytnomddhgcdoifaa
open Go.RowKit

structure Fam (w : World) (base : Nat) (vals : List Value) (ls : List (List UInt8)) : Prop where
  len : vals.length = ls.length
  each : ∀ (i : Nat) (v : Value), vals[i]? = some v → w.ownsRow base 5 1 v (ls.getD i []).length (u8s (ls.getD i []))
  apart : AllApart vals

theorem Fam.nil (w : World) (base : Nat) : Fam w base [] [] := ⟨rfl, fun i v h => by simp at h, fun i j v u _ h => by simp at h⟩

theorem Fam.up {w w' : World} {base : Nat} {vals : List Value} {ls : List (List UInt8)} (h : Fam w base vals ls) (hb : Below w.heap.size w w') : Fam w' base vals ls :=
  ⟨h.len, fun i v hv => own_below (h.each i v hv) hb fun k hk => ((h.each i v hv).lt k hk).2, h.apart⟩

/-- Whatever may have turned, if not in one of their rows. -/
theorem Fam.grown {w w' : World} {base : Nat} {vals : List Value} {ls : List (List UInt8)} {row : Option Nat} (h : Fam w base vals ls) (hg : w.grownBy w' row) (hr : ∀ (i : Nat) (v : Value), vals[i]? = some v → v.ownBlock = none ∨ v.ownBlock ≠ row) : Fam w' base vals ls :=
  ⟨h.len, fun i v hv => (h.each i v hv).kept hg (hr i v hv), h.apart⟩

theorem append_get {α : Type} {xs : List α} {x : α} {i : Nat} {u : α} (h : (xs ++ [x])[i]? = some u) : (i < xs.length ∧ xs[i]? = some u) ∨ (i = xs.length ∧ u = x) := by
  by_cases hi : i < xs.length
  · rw [List.getElem?_append_left hi] at h; exact .inl ⟨hi, h⟩
  · rw [List.getElem?_append_right (by omega)] at h
    have h0 : i - xs.length = 0 := by
      by_cases h0 : i - xs.length = 0
      · exact h0
      · rw [List.getElem?_eq_none (by simp; omega)] at h; cases h
    rw [h0] at h
    exact .inr ⟨by omega, by simpa using h.symm⟩

/-- One list more, made behind all of them. -/
theorem Fam.push {w w' : World} {base : Nat} {vals : List Value} {ls : List (List UInt8)} {v : Value} {l : List UInt8} (h : Fam w base vals ls) (hb : Below w.heap.size w w') (hv : w'.ownsRow w.heap.size 5 1 v l.length (u8s l)) (hbase : base ≤ w.heap.size) :
    Fam w' base (vals ++ [v]) (ls ++ [l]) := by
  have h' := h.up hb
  have hl := h.len
  have hap : ∀ (i : Nat) (u : Value), vals[i]? = some u → Apart u v := by
    intro i u hu g hg hvg
    have h1 := ((h.each i u hu).lt g hg).2
    have h2 := (hv.lt g hvg).1
    omega
  refine ⟨by simp [hl], fun i u hu => ?_, fun i j u x hij hu hx => ?_⟩
  · rcases append_get hu with ⟨hi, hu⟩ | ⟨rfl, rfl⟩
    · have := h'.each i u hu
      have e : (ls ++ [l]).getD i [] = ls.getD i [] := by simp [List.getD, List.getElem?_append_left (show i < ls.length by omega)]
      rw [e]
      exact this
    · have e : (ls ++ [l]).getD vals.length [] = l := by simp [List.getD, hl]
      rw [e]
      exact own_mono hv hbase
  · rcases append_get hu with ⟨_, hu'⟩ | ⟨rfl, rfl⟩
    · rcases append_get hx with ⟨_, hx'⟩ | ⟨rfl, rfl⟩
      · exact h.apart i j u x hij hu' hx'
      · exact hap i u hu'
    · rcases append_get hx with ⟨_, hx'⟩ | ⟨rfl, rfl⟩
      · exact (hap j x hx').symm
      · exact absurd rfl hij

end Go.Proofs.Ytnomddhgcdoifaa
