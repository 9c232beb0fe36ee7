/- bytes.Clone and slices.Clone. -/
import Derived.Test.YtnomddhgcdoifaaProg
import Derived.Test.YtnomddhgcdoifaaAppend
import Derived.Test.YtnomddhgcdoifaaRefPut
import Derived.WalkSpells
namespace Go.Proofs.Ytnomddhgcdoifaa
open Go.RowKit

theorem Rd.noneZ {w : World} {B n : Nat} {A : Option Addr} {l : List UInt8} (h : Rd w B A n l) : A = none → n = 0 := by
  intro e
  rcases Nat.eq_zero_or_pos n with h0 | h0
  · exact h0
  · obtain ⟨b, o, e', _⟩ := h.2 h0; rw [e] at e'; cases e'

set_option maxHeartbeats 1000000 in
set_option maxRecDepth 100000 in
theorem cloneB_any (A : Option Addr) (n c B : Nat) (l : List UInt8) (w : World) (hn : n ≤ 140737488355328) (hB : B ≤ w.heap.size) (h : Rd w B A n l) :
    Calls Try.prog 37 #[.slice A n c] w fun e w' => ∃ v, e = .returned v ∧ w'.ownsRow w.heap.size 5 1 v n (u8s l) ∧ Below w.heap.size w w' := by
  obtain ⟨i0, hi0, hz0, hz1, hz2⟩ := info_parts Try.infoU8
  have q := fun (w : World) (a : Option Addr) (n c n' c' : Nat) => Lib.run_eql_slice_nil (P := Try.prog) w 33 5 a n c n' c' Try.underlying33
  have hA := h.noneZ
  cases A with
  | none =>
    have hn0 := hA rfl
    subst hn0
    have hl : l = [] := List.eq_nil_of_length_eq_zero h.1
    subst hl
    clear h hA
    go_enter Try.func37, Try.ntmps37
    go_wp2
    go_ret
    exact ⟨_, rfl, World.ownsRow_nil _ _ _ _, Below.refl _ _⟩
  | some a =>
    have hb0 := (Below.refl w.heap.size w).alloc (Nat.le_refl _) (.cells #[] 5)
    have h' := h.below (hb0.mono hB)
    go_enter Try.func37, Try.ntmps37
    go_wp2_with (at_builtin; refine wpList_append_app _ rfl _ _ 33 rfl w.heap.size 5 i0 (.int .u8 0) 1 1 Try.underlying33 hi0 hz0 hz1 hz2 rfl _ 0 [] rfl (World.ownsRow_made w #[] 0 (Nat.le_refl _) (Nat.zero_le _) rfl) (some a) n c (u8s l) rfl (by rw [u8s_len, h.1, Nat.mul_one]) (by intro e; cases e) h'.cells (u8s_one l) (by unfold maxLen; omega) (by omega) (by simp) ?_)
    intro v' w1 ha
    have hb1 := ha.below hb0 (by simp) (by intro k hk; simp [Value.ownBlock] at hk; omega)
    have ho := ha.own
    rw [Nat.zero_add, List.nil_append] at ho
    go_wp2
    go_ret
    exact ⟨v', rfl, ho, hb1⟩
end Go.Proofs.Ytnomddhgcdoifaa
