/- Layer 6's laws: Same, long. -/
import Derived.Test.YtfghbhjljbdlmaaNetW
namespace Go.Proofs.Ytfghbhjljbdlmaa
open Go.RowKit

def samePk (p q : Pk) : Bool := decide (p.frm = q.frm) && decide (p.dst = q.dst) && decide (p.body = q.body)
theorem samePk_self (p : Pk) : samePk p p = true := by simp [samePk]

set_option maxRecDepth 100000 in
set_option maxHeartbeats 1000000 in
theorem nSame_any (p q : Pk) (A A' : Option Addr) (n c n' c' : Nat) (w : World) (h : Rd w w.heap.size A n p.body) (h' : Rd w w.heap.size A' n' q.body) :
    Calls Try.prog 22 #[pkV p (.slice A n c), pkV q (.slice A' n' c')] w fun e w' => e = .returned (.bool (samePk p q)) ∧ Below w.heap.size w w' := by
  have hb : Below w.heap.size w ((w.alloc (.cells #[.int .i64 p.frm, .int .i64 p.dst, .slice A n c] 34)).alloc (.cells #[.int .i64 q.frm, .int .i64 q.dst, .slice A' n' c'] 34)) := ((Below.refl _ _).alloc (Nat.le_refl _) _).alloc (by simp) _
  have k1 := (h.up hb).str Try.underlying32 Try.underlying5 Try.underlying9 c
  have k2 := (h'.up hb).str Try.underlying32 Try.underlying5 Try.underlying9 c'
  have HB := Lib.hid hb
  have hs : samePk p q = (decide (p.frm = q.frm) && decide (p.dst = q.dst) && decide (p.body = q.body)) := rfl
  rw [hs] at *
  unfold pkV
  generalize p.frm = pf at *
  generalize p.dst = pd at *
  generalize q.frm = qf at *
  generalize q.dst = qd at *
  generalize p.body = pb at *
  generalize q.body = qb at *
  clear h h' hs hb
  by_cases hf : pf = qf
  · subst hf
    by_cases hd : pd = qd
    · subst hd
      go_enter Try.func22, Try.ntmps22
      go_wp2
      go_ret
      refine ⟨?_, HB.out⟩
      have : (pb == qb) = decide (pb = qb) := by rw [Bool.eq_iff_iff]; simp
      simp [this]
    · go_enter Try.func22, Try.ntmps22
      go_wp2
      go_ret
      exact ⟨by simp [hd], HB.out⟩
  · go_enter Try.func22, Try.ntmps22
    go_wp2
    go_ret
    exact ⟨by simp [hf], HB.out⟩

set_option maxRecDepth 100000 in
set_option maxHeartbeats 400000 in
theorem nlong_any (p : Pk) (A : Option Addr) (n c : Nat) (w : World) :
    Calls Try.prog 18 #[pkV p (.slice A n c)] w fun e w' => e = .returned (.bool (decide (3000 < n))) ∧ Below w.heap.size w w' := by
  unfold pkV
  generalize p.frm = pf at *
  generalize p.dst = pd at *
  go_enter Try.func18, Try.ntmps18
  go_wp2
  go_ret
  exact ⟨by simp; omega, (Below.refl _ _).alloc (Nat.le_refl _) _⟩
end Go.Proofs.Ytfghbhjljbdlmaa
