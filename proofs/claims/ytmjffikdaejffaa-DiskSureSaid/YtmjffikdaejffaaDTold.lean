/- A row of slices of bytes, each the call's own, apart from a disk. -/
import Derived.Test.YtmjffikdaejffaaDHeld
import Derived.Test.YtmjffikdaejffaaAppend2
namespace Go.Proofs.Ytmjffikdaejffaa
open Go.RowKit

theorem Try.infoBytesT : (Try.prog.info? 37).map (fun i => (i.zero, i.size, i.bytes)) = some (some (.slice none 0 0), 1, 24) := by kernel_rfl

/-- Rows of other types of elements lie in other blocks. -/
theorem own_ne {w : World} {b b' e e' s s' n n' : Nat} {v v' : Value} {xs xs' : List Value} (h : w.ownsRow b e s v n xs) (h' : w.ownsRow b' e' s' v' n' xs') (hne : e ≠ e') : ∀ k, v.ownBlock = some k → v'.ownBlock ≠ some k := fun k hk hk' => by
  rcases h.2 with ⟨rfl, _⟩ | ⟨g, cap, cur, rfl, _, hh, _⟩
  · simp [Value.ownBlock] at hk
  · rcases h'.2 with ⟨rfl, _⟩ | ⟨g', cap', cur', rfl, _, hh', _⟩
    · simp [Value.ownBlock] at hk'
    · have e1 : g = k := by simpa [Value.ownBlock] using hk
      have e2 : g' = k := by simpa [Value.ownBlock] using hk'
      subst e1 e2
      rw [hh] at hh'
      injection hh' with hh'
      injection hh' with _ hh' _
      exact hne hh'

structure Told (w : World) (F : Nat → Prop) (v : Value) (vals : List Value) (ls : List (List UInt8)) : Prop where
  row : w.ownsRow 0 37 1 v vals.length vals
  apart : ∀ k, v.ownBlock = some k → ¬ F k
  len : vals.length = ls.length
  each : ∀ (i : Nat) (x : Value), vals[i]? = some x → ∃ A n c, x = .slice A n c ∧ Held w F A n c (ls.getD i [])
section
variable {w w' : World} {F F' : Nat → Prop} {v v' : Value} {vals : List Value} {ls : List (List UInt8)}
theorem Told.nil (w : World) (F : Nat → Prop) : Told w F (.slice none 0 0) [] [] := ⟨World.ownsRow_nil _ _ _ _, by intro k hk; simp [Value.ownBlock] at hk, rfl, by intro i x h; simp at h⟩
theorem Told.step (h : Told w F v vals ls) (hm : Mv F F' w w') : Told w' F' v vals ls :=
  ⟨own_kp h.row hm.kp h.apart, fun k e hf => by
    rcases hm.new k hf with h1 | h1
    · exact h.apart k e h1
    · have := (h.row.lt k e).2; omega, h.len, fun i x hx => by
    obtain ⟨A, n, c, e, hh⟩ := h.each i x hx
    exact ⟨A, n, c, e, hh.step hm⟩⟩
theorem Told.below (h : Told w F v vals ls) (hb : Below w.heap.size w w') : Told w' F v vals ls :=
  ⟨own_below h.row hb fun k e => (h.row.lt k e).2, h.apart, h.len, fun i x hx => by
    obtain ⟨A, n, c, e, hh⟩ := h.each i x hx
    exact ⟨A, n, c, e, hh.below hb⟩⟩
/-- One more. -/
theorem Told.push {w1 : World} {A : Option Addr} {n c : Nat} {l : List UInt8} (hF : ∀ k, F k → k < w1.heap.size) (h : Told w1 F v vals ls) (hh : Held w1 F A n c l) (ha : App w1 w' 0 37 1 v v' vals.length 1 vals [.slice A n c]) : Told w' F v' (vals ++ [.slice A n c]) (ls ++ [l]) := by
  have hk : Kp (fun k => v.ownBlock = some k) w1 w' := Kp.of_row ha.grow fun g e => e
  have keep : ∀ A n c l, Held w1 F A n c l → Held w' F A n c l := fun A n c l hh => ⟨own_kp hh.own hk (fun k e e2 => own_ne hh.own h.row (by decide) k e e2), hh.apart⟩
  refine ⟨?_, fun k e hf => ?_, by rw [List.length_append, List.length_append, h.len]; rfl, fun i x hx => ?_⟩
  · rw [List.length_append]
    exact ha.own
  · rcases ha.block with h1 | h1
    · rw [h1] at e; exact h.apart k e hf
    · rw [h1] at e
      injection e with e
      have := hF k hf
      omega
  · by_cases hi : i < vals.length
    · rw [List.getElem?_append_left hi] at hx
      obtain ⟨A', n', c', e, h2⟩ := h.each i x hx
      have e2 : (ls ++ [l]).getD i [] = ls.getD i [] := by simp [List.getD, List.getElem?_append_left (show i < ls.length by rw [← h.len]; exact hi)]
      rw [e2]
      exact ⟨A', n', c', e, keep _ _ _ _ h2⟩
    · have hi2 : i = vals.length := by
        have := (List.getElem?_eq_some_iff.1 hx).1
        rw [List.length_append, List.length_singleton] at this
        omega
      subst hi2
      rw [List.getElem?_append_right (Nat.le_refl _), Nat.sub_self] at hx
      have e : x = .slice A n c := by simpa using hx.symm
      have e2 : (ls ++ [l]).getD vals.length [] = l := by rw [h.len]; simp [List.getD]
      rw [e2]
      exact ⟨A, n, c, e, keep _ _ _ _ hh⟩
end
end Go.Proofs.Ytmjffikdaejffaa
