/- Of the proofs of layer 4, merged: StoN. -/
import Derived.Test.YtcmjobpgdfapoaaGreatM1StoJ
import Derived.Test.YtcmjobpgdfapoaaGreatMStoS
import Derived.Test.YtcmjobpgdfapoaaGreatM1StoV

/- Layer 5's laws: a store that is not there. -/
namespace Go.Proofs.YtcmjobpgdfapoaaGreat
open Go.RowKit

set_option maxRecDepth 100000 in
set_option maxHeartbeats 1000000 in
theorem all_nil (w : World) : Calls Tryz.prog 43 #[.pointer none] w (AllR [] w) := by
  have hb0 : Hid (Below w.heap.size w (w.alloc (.cells #[.slice none 0 0] 57))) := Lib.hid ((Below.refl _ _).alloc (Nat.le_refl _) _)
  have hk := Lib.hid (Bk.new w 57 #[.slice none 0 0])
  go_enter Tryz.func43, Tryz.ntmps43
  go_wp2
  go_ret
  exact ⟨w.heap.size, none, 0, 0, rfl, hk.out.cell 0, by omega, ⟨rfl, fun i h => by simp at h⟩, hk.out.lt, (fun b o e => by cases e), hb0.out⟩
theorem pairs_nil (w : World) : Calls Tryz.prog 26 #[.pointer none] w fun e w' => (∃ c, e = .returned (.slice none 0 c) ∨ ∃ A, e = .returned (.slice A 0 c)) ∧ Below w.heap.size w w' := by
  refine (callsIn_wide.1 (pairs_in (.pointer none) [] w (by simp) (fun W _ => all_nil W))).mono ?_
  rintro e w' ⟨v, rfl, ho, hb⟩
  obtain ⟨A, c, rfl, _⟩ := own_shape ho
  exact ⟨⟨c, .inr ⟨A, rfl⟩⟩, hb⟩
set_option maxRecDepth 100000 in
set_option maxHeartbeats 1000000 in
theorem sdo_nil (A : Option Addr) (n c : Nat) (w : World) : Calls Tryz.prog 32 #[.pointer none, .slice A n c] w fun e w' => e = .returned (.int .i64 1) ∧ w = w' := by
  have HR := Lib.hid (sready_nil w)
  go_enter Tryz.func32, Tryz.ntmps32
  go_wp2_with fail
  refine HR.out.mono ?_
  rintro x w' ⟨rfl, rfl⟩
  go_wp2
  go_ret
  exact ⟨rfl, rfl⟩
set_option maxRecDepth 100000 in
set_option maxHeartbeats 1000000 in
theorem ssync_nil (w : World) : Calls Tryz.prog 35 #[.pointer none] w fun e w' => e = .returned (.int .i64 1) ∧ w = w' := by
  have HR := Lib.hid (sready_nil w)
  go_enter Tryz.func35, Tryz.ntmps35
  go_wp2_with fail
  refine HR.out.mono ?_
  rintro x w' ⟨rfl, rfl⟩
  go_wp2
  go_ret
  exact ⟨rfl, rfl⟩
set_option maxRecDepth 100000 in
set_option maxHeartbeats 1000000 in
theorem scheck_nil (w : World) : Calls Tryz.prog 41 #[.pointer none] w fun e w' => e = .returned (.int .i64 1) ∧ Below w.heap.size w w' := by
  have HR := Lib.hid (fun W => sready_nil W)
  have hb0 : Hid (∀ C t, Below w.heap.size w (w.alloc (.cells C t))) := Lib.hid fun C t => (Below.refl _ _).alloc (Nat.le_refl _) _
  go_enter Tryz.func41, Tryz.ntmps41
  go_wp2_with fail
  refine (HR.out _).mono ?_
  rintro x w' ⟨rfl, rfl⟩
  go_wp2
  go_ret
  exact ⟨rfl, by first | exact Below.refl _ _ | exact hb0.out _ _⟩
set_option maxRecDepth 100000 in
set_option maxHeartbeats 1000000 in
theorem sopen_nil (w : World) : Calls Tryz.prog 42 #[.pointer none] w fun e w' => e = .returned (.tuple #[.pointer none, .int .i64 1]) ∧ w = w' := by
  have HR := Lib.hid (open_nil w)
  go_enter Tryz.func42, Tryz.ntmps42
  go_wp2_with fail
  refine HR.out.mono ?_
  rintro x w' ⟨rfl, rfl⟩
  go_wp2
  go_ret2
  exact ⟨rfl, rfl⟩
end Go.Proofs.YtcmjobpgdfapoaaGreat
