/- Of the proofs of layer 4, merged: Texts. -/
import Derived.Test.YtfghbhjljbdlmaaM1BinPut
import Derived.Test.YtfghbhjljbdlmaaM1Ints
import Derived.Test.YtfghbhjljbdlmaaMOwn
import Derived.WalkSpells

/- bytes.Clone, PutBytes and Bytes, the program's and the document's. -/
namespace Go.Proofs.Ytfghbhjljbdlmaa
open Go.RowKit

theorem Rd.none_zero {w : World} {B n : Nat} {A : Option Addr} {l : List UInt8} (h : Rd w B A n l) : A = none → n = 0 := by
  intro e
  rcases Nat.eq_zero_or_pos n with h0 | h0
  · exact h0
  · obtain ⟨b, o, e', _⟩ := h.2 h0; rw [e] at e'; cases e'

set_option maxHeartbeats 1000000 in
set_option maxRecDepth 100000 in
theorem clone_any (A : Option Addr) (n c B : Nat) (l : List UInt8) (w : World) (hn : n ≤ 140737488355328) (hB : B ≤ w.heap.size) (h : Rd w B A n l) :
    Calls Try.prog 71 #[.slice A n c] w fun e w' => ∃ v, e = .returned v ∧ w'.ownsRow w.heap.size 5 1 v n (u8s l) ∧ Below w.heap.size w w' := by
  obtain ⟨i0, hi0, hz0, hz1, hz2⟩ := info_parts Try.infoU8
  have q := fun (w : World) (a : Option Addr) (n c n' c' : Nat) => Lib.run_eql_slice_nil (P := Try.prog) w 32 5 a n c n' c' Try.underlying32
  have hA := h.none_zero
  cases A with
  | none =>
    have hn0 := hA rfl
    subst hn0
    have hl : l = [] := List.eq_nil_of_length_eq_zero h.1
    subst hl
    clear h hA
    go_enter Try.func71, Try.ntmps71
    go_wp2
    go_ret
    exact ⟨_, rfl, World.ownsRow_nil _ _ _ _, Below.refl _ _⟩
  | some a =>
    have hb0 := (Below.refl w.heap.size w).alloc (Nat.le_refl _) (.cells #[] 5)
    have h' := h.below (hb0.mono hB)
    go_enter Try.func71, Try.ntmps71
    go_wp2_with (at_builtin; refine wpList_append_app _ rfl _ _ 32 rfl w.heap.size 5 i0 (.int .u8 0) 1 1 Try.underlying32 hi0 hz0 hz1 hz2 rfl _ 0 [] rfl (World.ownsRow_made w #[] 0 (Nat.le_refl _) (Nat.zero_le _) rfl) (some a) n c (u8s l) rfl (by rw [u8s_len, h.1, Nat.mul_one]) (by intro e; cases e) h'.cells (u8s_one l) (by unfold maxLen; omega) (by omega) (by simp) ?_)
    intro v' w1 ha
    have hb1 := ha.below hb0 (by simp) (by intro k hk; simp [Value.ownBlock] at hk; omega)
    have ho := ha.own
    rw [Nat.zero_add, List.nil_append] at ho
    go_wp2
    go_ret
    exact ⟨v', rfl, ho, hb1⟩

/-- What PutBytes makes of bytes. -/
def putB (l : List UInt8) : List UInt8 := Lib.uvarint l.length ++ l

/-- The text that stands at a place: its bytes, the place behind it, the error. -/
def txtAt (l : List UInt8) (a most : Int) : List UInt8 × Int × Int :=
  if (uintAt l a).2.2 ≠ 0 then ([], 0, (uintAt l a).2.2)
  else if max most 0 < (uintAt l a).1 then ([], 0, 3)
  else if (l.length : Int) - (uintAt l a).2.1 < (uintAt l a).1 then ([], 0, 10)
  else ((l.drop (uintAt l a).2.1.toNat).take (uintAt l a).1.toNat, (uintAt l a).2.1 + (uintAt l a).1, 0)

/-- A part of a slice reads as the part of its bytes. -/
theorem Rd.part {w : World} {B n i k : Nat} {b o : Nat} {l : List UInt8} (h : Rd w B (some ⟨b, o, none⟩) n l) (hik : i + k ≤ n) : Rd w B (some ⟨b, o + i, none⟩) k ((l.drop i).take k) := by
  refine ⟨by rw [List.length_take, List.length_drop, h.1]; omega, fun hk => ?_⟩
  obtain ⟨b', o', he, hb, hc⟩ := h.2 (by omega)
  simp only [Option.some.injEq, Addr.mk.injEq, and_true] at he
  obtain ⟨rfl, rfl⟩ := he
  refine ⟨b, o + i, rfl, hb, fun j hj => ?_⟩
  have hj' : j < k := by rw [List.length_take] at hj; omega
  rw [Nat.add_assoc, hc (i + j) (by have := h.1; omega)]
  simp [List.getElem_take, List.getElem_drop]

end Go.Proofs.Ytfghbhjljbdlmaa
