/- Bytes of the call's own that lie apart from a disk, while the disk turns. -/
import Derived.Test.YtmjffikdaejffaaDKnown
namespace Go.Proofs.Ytmjffikdaejffaa
open Go.RowKit

structure Held (w : World) (F : Nat → Prop) (A : Option Addr) (n c : Nat) (l : List UInt8) : Prop where
  own : w.ownsRow 0 5 1 (.slice A n c) n (u8s l)
  apart : ∀ k, Value.ownBlock (.slice A n c) = some k → ¬ F k
section
variable {w w' : World} {F F' : Nat → Prop} {A : Option Addr} {n c : Nat} {l : List UInt8}
theorem Held.step (h : Held w F A n c l) (hm : Mv F F' w w') : Held w' F' A n c l :=
  ⟨own_kp h.own hm.kp h.apart, fun k e hf => by
    rcases hm.new k hf with h1 | h1
    · exact h.apart k e h1
    · have := (h.own.lt k e).2; omega⟩
theorem Held.below (h : Held w F A n c l) (hb : Below w.heap.size w w') : Held w' F A n c l := ⟨own_below h.own hb fun k e => (h.own.lt k e).2, h.apart⟩
theorem Held.make {e : ∀ k, F k → k < w.heap.size} (ho : w'.ownsRow w.heap.size 5 1 (.slice A n c) n (u8s l)) : Held w' F A n c l := ⟨own_mono ho (Nat.zero_le _), own_apart e ho⟩
theorem Held.rd (h : Held w F A n c l) : Rd w w.heap.size A n l := Rd.of_own h.own
theorem Held.ap (h : Held w F A n c l) : ∀ ad, A = some ad → ¬ F ad.block := fun ad e hf => by subst e; exact h.apart ad.block rfl hf
theorem Held.len (h : Held w F A n c l) : l.length = n := by have := h.own.1; rw [u8s_len] at this; omega
theorem Held.cap (h : Held w F A n c l) : n ≤ c ∧ c ≤ 9223372036854775807 := by
  obtain ⟨A', c', e, h1, h2⟩ := own_shape h.own
  injection e with _ _ e3
  subst e3
  unfold maxLen at h2
  omega
end
def Row32 (w : World) (l : List UInt8) (e : Ending) (w' : World) : Prop := ∃ A c, e = .returned (.slice A 32 c) ∧ w'.ownsRow w.heap.size 5 1 (.slice A 32 c) 32 (u8s l) ∧ Below w.heap.size w w'
theorem row_full (fill : UInt8) (w : World) : Calls Try.prog 14 #[.int .u8 (fill.toNat : Int), .int .i64 0] w (Row32 w (rowB fill 32)) := by
  refine (row_any fill 0 w (by omega) (by omega)).mono ?_
  rintro e w' ⟨A, c, rfl, h1, h2⟩
  rw [rowLen_zero, rowB_len] at h1
  rw [rowLen_zero, rowB_len]
  exact ⟨A, c, rfl, h1, h2⟩
end Go.Proofs.Ytmjffikdaejffaa
