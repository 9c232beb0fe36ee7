/- Of the proofs of layer 4, merged: SynQ. -/
import Derived.Test.YtjapmolmgfaocaaM1SynX3

/- Layer 11, plain: what never turns: the system. -/
namespace Go.Proofs.Ytjapmolmgfaocaa

theorem Ro.arrive_q (r : Ro) (m : Ml) : (r.arrive m).q = r.q := by
  unfold Ro.arrive
  split
  · split
    · exact (Ro.send_same _ _).1
    · rfl
  split
  · split
    · exact (Ro.sends_same _ _ _ _ _ _).1
    · rfl
  split
  · split
    · exact (Ro.send_same _ _).1
    · rfl
  split <;> rfl
theorem Ro.take_q (r : Ro) (a : Int) : (r.take a).2.q = r.q := by
  unfold Ro.take
  split
  · exact (Ro.arrive_q _ _)
  · rfl
theorem Ro.takes_q (r : Ro) : ∀ k, (r.takes k).q = r.q
  | 0 => rfl
  | k + 1 => (Ro.take_q _ 0).trans (Ro.takes_q r k)
theorem Ro.play_q (r : Ro) (kd a : Int) (v : List UInt8) (n : Nat) : (r.play kd a v n).q = r.q := by
  unfold Ro.play
  split
  · unfold Ro.start
    split
    · rfl
    split
    · rfl
    split
    · rfl
    · exact (Ro.sends_same _ _ _ _ _ _).1
  split
  · exact Ro.take_q r _
  split
  · unfold Ro.drop; split <;> rfl
  split
  · unfold Ro.twice
    split
    · split
      · rfl
      · exact (Ro.send_same _ _).1
    · rfl
  split
  · unfold Ro.crash; split <;> rfl
  · exact Ro.takes_q r 60
end Go.Proofs.Ytjapmolmgfaocaa
