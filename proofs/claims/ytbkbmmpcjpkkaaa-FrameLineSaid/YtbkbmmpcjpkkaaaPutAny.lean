/- Put, whatever the body: the program's and the document's. And the frame's type as the laws meet it. -/
import Derived.Test.YtbkbmmpcjpkkaaaKnown2
namespace Go.Proofs.Ytbkbmmpcjpkkaaa
open Go.RowKit

/-- What Put makes: bytes, error. -/
def putA (kind : UInt8) (l : List UInt8) : List UInt8 × Nat := if l.length ≤ 1024 then (putF (kind, l), 0) else ([], 3)
theorem framePut_any (kind : UInt8) (A : Option Addr) (n c : Nat) (l : List UInt8) (w : World) (hc : n ≤ c) (hm : c ≤ 9223372036854775807) (h : Rd w w.heap.size A n l) :
    Calls Try.prog 14 #[.int .u8 (kind.toNat : Int), .slice A n c] w fun e w' => ∃ v, e = .returned (.tuple #[v, .int .i64 ((putA kind l).2 : Nat)]) ∧ w'.ownsRow w.heap.size 5 1 v (putA kind l).1.length (u8s (putA kind l).1) ∧ Below w.heap.size w w' := by
  unfold putA
  by_cases hn : l.length ≤ 1024
  · rw [if_pos hn]
    have hl := h.1
    have := framePut_ok kind A n c l w (by omega) hc hm h
    simp only [putF_len, hl]
    exact this
  · rw [if_neg hn]
    have hl := h.1
    refine (framePut_long kind.toNat A n c w (by omega) (by omega)).mono ?_
    rintro e w' ⟨rfl, rfl⟩
    exact ⟨_, rfl, World.ownsRow_nil _ _ _ _, Below.refl _ _⟩
theorem refPutF_any (kind : UInt8) (A : Option Addr) (n c : Nat) (l : List UInt8) (w : World) (hc : n ≤ c) (hm : c ≤ 9223372036854775807) (h : Rd w w.heap.size A n l) :
    Calls Try.prog 15 #[.int .u8 (kind.toNat : Int), .slice A n c] w fun e w' => ∃ v, e = .returned (.tuple #[v, .int .i64 ((putA kind l).2 : Nat)]) ∧ w'.ownsRow w.heap.size 5 1 v (putA kind l).1.length (u8s (putA kind l).1) ∧ Below w.heap.size w w' := by
  unfold putA
  by_cases hn : l.length ≤ 1024
  · rw [if_pos hn]
    have hl := h.1
    have := refPutF_ok kind A n c l w (by omega) h
    simp only [putF_len, hl]
    exact this
  · rw [if_neg hn]
    have hl := h.1
    refine (refPutF_long kind.toNat A n c w (by omega) (by omega)).mono ?_
    rintro e w' ⟨rfl, rfl⟩
    exact ⟨_, rfl, World.ownsRow_nil _ _ _ _, Below.refl _ _⟩
end Go.Proofs.Ytbkbmmpcjpkkaaa
