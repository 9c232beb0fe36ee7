/- Of the proofs of layer 4, merged: StoCmp. -/
import Derived.Test.YtfepjgafamaegaaGreatMBackP
import Derived.Test.YtfepjgafamaegaaGreatMPWal6
import Derived.Lib.Bytealg

/- The comparison that All sorts by. -/
namespace Go.Proofs.YtfepjgafamaegaaGreat
open Go.RowKit

set_option maxRecDepth 100000 in
set_option maxHeartbeats 1000000 in
theorem cmp_lite (a b : List UInt8) (w : World) : Calls Tryz.prog 116 #[sV a, sV b] w fun e w' => e = .returned (.int .i64 (Lib.compareBytes a b)) ∧ w' = w := by
  go_enter Tryz.func116, Tryz.ntmps116
  go_wp2
  rw [run_callFunc_extern Tryz.func150 (by kernel_rfl) (by kernel_rfl) (by kernel_rfl) (e := Extern.BytealgCompare.compare) (by kernel_rfl), Lib.run_compareString]
  simp only [Result.andThen]
  rw [Oper.upon_value]
  go_wp2
  go_ret
  exact ⟨rfl, rfl⟩
set_option maxRecDepth 100000 in
set_option maxHeartbeats 1000000 in
theorem compare_any (a b : List UInt8) (w : World) : Calls Tryz.prog 80 #[sV a, sV b] w fun e w' => e = .returned (.int .i64 (Lib.compareBytes a b)) ∧ w' = w := by
  have HC := Lib.hid (cmp_lite a b w)
  go_enter Tryz.func80, Tryz.ntmps80
  go_wp2_with fail
  refine HC.out.mono ?_
  rintro x w' ⟨rfl, rfl⟩
  go_wp2
  go_ret
  exact ⟨rfl, rfl⟩
set_option maxRecDepth 100000 in
set_option maxHeartbeats 1000000 in
theorem pcmp_any (p q : Pr) (w : World) : Calls Tryz.prog 79 #[.agg #[sV p.1, sV p.2], .agg #[sV q.1, sV q.2]] w fun e w' =>
    e = .returned (.int .i64 (Lib.compareBytes p.1 q.1)) ∧ w' = (w.alloc (.cells #[sV p.1, sV p.2] 86)).alloc (.cells #[sV q.1, sV q.2] 86) := by
  obtain ⟨p1, p2⟩ := p
  obtain ⟨q1, q2⟩ := q
  have HC := Lib.hid (fun W => compare_any p1 q1 W)
  go_enter Tryz.func79, Tryz.ntmps79
  go_wp2_with fail
  refine (HC.out _).mono ?_
  rintro x w' ⟨rfl, rfl⟩
  go_wp2
  go_ret
  exact ⟨rfl, rfl⟩

/-! ### the order that it means -/
theorem cmp_cons (x y : UInt8) (r s : List UInt8) : Lib.compareBytes (x :: r) (y :: s) = if x < y then -1 else if y < x then 1 else Lib.compareBytes r s := rfl
theorem compare_less : ∀ a b : List UInt8, decide (Lib.compareBytes a b < 0) = lessB a b
  | [], [] => rfl
  | [], _ :: _ => rfl
  | _ :: _, [] => rfl
  | x :: r, y :: s => by
    have ih := compare_less r s
    unfold lessB at *
    rw [cmp_cons]
    by_cases h1 : x < y
    · simp [h1, bytesBefore]
    · by_cases h2 : y < x
      · have hne : x ≠ y := fun e => by subst e; exact h1 h2
        simp [h1, h2, hne, bytesBefore]
      · have he : x = y := UInt8.le_antisymm (UInt8.not_lt.1 h2) (UInt8.not_lt.1 h1)
        subst he
        simp only [h1, if_false, ih, bytesBefore]
        simp
end Go.Proofs.YtfepjgafamaegaaGreat
