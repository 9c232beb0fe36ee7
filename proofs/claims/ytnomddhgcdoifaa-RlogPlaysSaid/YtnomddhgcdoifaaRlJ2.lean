/- Layer 12, the program's log: Trim. -/
import Derived.Test.YtnomddhgcdoifaaRlJ
namespace Go.Proofs.Ytnomddhgcdoifaa
open Go.RowKit

set_option maxRecDepth 100000 in
set_option maxHeartbeats 400000 in
theorem etrim_any {w : World} {F : Nat → Prop} {g : Nat} {p : Rl} (h : PL w F g p) (u : Nat) : Calls Try.prog 20 #[.pointer (some ⟨g, 0, none⟩), .int .u64 (u : Int)] w fun e w' => e = .returned (.int .i64 ((p.trim u).1 : Int)) ∧ PL w' F g (p.trim u).2 ∧ Kp F w w' := by
  have c0 := h.c0
  have HD : Hid (∀ v : Nat, Calls Try.prog 38 #[.pointer (some ⟨g, 1, none⟩), .int .u64 (v : Int)] w.drew fun e w' => (∃ x : Int, e = .returned (.int .i64 x)) ∧ Hid (DrpE w F g p v e w')) := Lib.hid fun v => by
    refine (edrop_any (h.kp (G := fun _ => False) (Kp.drew _ w) fun _ _ h => h) v).mono ?_
    rintro e w' ⟨rfl, h1, h2⟩
    exact ⟨⟨_, rfl⟩, Lib.hid ⟨rfl, h1, (Kp.drew F w).trans h2⟩⟩
  have hd : ∀ v, v = min u p.ap → ∀ e w', DrpE w F g p v e w' → e = .returned (.int .i64 ((p.trim u).1 : Int)) ∧ PL w' F g (p.trim u).2 ∧ Kp F w w' := by
    rintro v rfl e w' ⟨rfl, h1, h2⟩
    exact ⟨rfl, h1, h2⟩
  have Hd := Lib.hid hd
  clear hd h
  by_cases hm : u ≤ p.ap
  · have m1 : (u : Int) ≤ (p.ap : Int) := by omega
    have m2 : ¬ (p.ap : Int) < (u : Int) := by omega
    have hv : u = min u p.ap := (Nat.min_eq_left hm).symm
    have Hv := Lib.hid hv
    clear hv
    go_enter Try.func20, Try.ntmps20
    go_wp2_with fail
    go_region_law (go_simp; go_at_call 38; rw [if_neg (Nat.not_lt.2 hm)]; (refine (HD.out u).mono ?_); rintro e w2 ⟨⟨x, rfl⟩, HX⟩)
    all_goals
      go_wp2
      go_ret
      exact Hd.out u Hv.out _ _ HX.out
  · have m1 : ¬ (u : Int) ≤ (p.ap : Int) := by omega
    have m2 : (p.ap : Int) < (u : Int) := by omega
    have hv : p.ap = min u p.ap := (Nat.min_eq_right (by omega)).symm
    have Hv := Lib.hid hv
    clear hv
    go_enter Try.func20, Try.ntmps20
    go_wp2_with fail
    go_region_law (go_simp; go_at_call 38; (refine (HD.out p.ap).mono ?_); rintro e w2 ⟨⟨x, rfl⟩, HX⟩)
    all_goals
      go_wp2
      go_ret
      exact Hd.out p.ap Hv.out _ _ HX.out
end Go.Proofs.Ytnomddhgcdoifaa
