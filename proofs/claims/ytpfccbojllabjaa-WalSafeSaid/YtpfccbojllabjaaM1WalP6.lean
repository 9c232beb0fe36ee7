/- Of the proofs of layer 4, merged: WalP6. -/
import Derived.Test.YtpfccbojllabjaaMRWal9

/- Plain: a new log takes the old one's place while the power goes. -/
namespace Go.Proofs.Ytpfccbojllabjaa

theorem layS_six (b : List UInt8) (base : Nat) : ∀ (k i : Nat) (d : Dk), base + i + k ≤ d.safe.length → (∀ j, i ≤ j → j < i + k → (chunk b j).length = 32) → (layS b base i k d).1 ≠ 0 → (layS b base i k d).1 = 6 := by
  intro k
  induction k with
  | zero => intro i d _ _ h; exact absurd rfl h
  | succ k ih =>
    intro i d hl hc h
    by_cases hw : (d.write ((base + i : Nat) : Int) (chunk b i)).1 = 0
    · rw [layS_next hw] at h ⊢
      exact ih (i + 1) _ (by rw [Dk.write_len]; omega) (fun j h1 h2 => hc j (by omega) (by omega)) h
    · rw [layS_stop hw]
      exact write_six (by omega) (hc i (Nat.le_refl _) (by omega)) hw
theorem settle_six {d : Dk} (h6 : 6 ≤ d.safe.length) {e : Nat} {l : List (List UInt8)} (he : e < 4611686018427387904) (hfit : usedF l ≤ d.bytes) (h : (settleS d e l).1 ≠ 0) : (settleS d e l).1 = 6 := by
  obtain ⟨b1, b2, b3⟩ := Dk.base_le h6 e
  have hbe : d.bytes = d.half * 32 := rfl
  have hfl : (fullF d.bytes l).length = d.bytes := full_len _ _ hfit
  have l1 := layS_len (fullF d.bytes l) (d.base e) d.half 0 d
  have q1 := layS_six (fullF d.bytes l) (d.base e) d.half 0 d (by omega) (fun j h1 h2 => chunk_len32 hfl (by omega))
  have hhl : (headB e).length = 32 := by
    have := headB_len e (by omega)
    unfold headB
    rw [List.length_append, zeros_len]
    omega
  unfold settleS at h ⊢
  by_cases h1 : (layS (fullF d.bytes l) (d.base e) 0 d.half d).1 ≠ 0
  · rw [if_pos h1]; exact q1 h1
  rw [if_neg h1] at h ⊢
  generalize (layS (fullF d.bytes l) (d.base e) 0 d.half d).2 = d1 at *
  by_cases h2 : d1.sync.1 ≠ 0
  · rw [if_pos h2]; exact sync_six h2
  rw [if_neg h2] at h ⊢
  have l2 := Dk.sync_len d1
  generalize d1.sync.2 = d2 at *
  by_cases h3 : (d2.write ((e % 2 : Nat) : Int) (headB e)).1 ≠ 0
  · rw [if_pos h3]; exact write_six (by omega) hhl h3
  rw [if_neg h3] at h ⊢
  exact sync_six h
theorem arm_on {d : Dk} {s : Lg} (h : OnDisk d s) (n : Int) : OnDisk (d.arm n) s := h.same (Dk.arm_ok h.ok n) rfl (fun _ _ => rfl) rfl rfl h.lg.safe
/-- Behind a crash it is the new log, if that was answered; the old one, if it was refused. -/
theorem turns_on {d : Dk} {s : Lg} (h : OnDisk d s) (hw : d.waits = []) (hg : s.gone = false) (l : List (List UInt8)) (ks : List Int) :
    ((s.reset d l).1 = 0 → ((s.reset d l).2.2.crash ks).found.recs = l) ∧ ((s.reset d l).1 ≠ 0 → (s.reset d l).1 ≠ 6 → ((s.reset d l).2.2.crash ks).found.recs = s.recs) := by
  by_cases hn : nextE d.bytes s.epoch l ≠ 0
  · have hr := reset_not (d := d) hg hn
    rw [hr]
    refine ⟨fun h0 => absurd h0 hn, fun _ _ => ?_⟩
    rw [(crash_on h hw ks).found]
  · have hn0 : nextE d.bytes s.epoch l = 0 := Classical.byContradiction hn
    obtain ⟨q1, q2, q3⟩ := nextE_zero hn0
    have he : s.epoch + 1 < 4611686018427387904 := by have := h.lg.epoch; omega
    have hr : s.reset d l = if (settleS d (s.epoch + 1) l).1 = 0 then (0, { epoch := s.epoch + 1, recs := l, safe := l.length, gone := false }, (settleS d (s.epoch + 1) l).2)
        else ((settleS d (s.epoch + 1) l).1, { s with gone := true }, (settleS d (s.epoch + 1) l).2) := by
      unfold Lg.reset
      rw [if_neg (by simp [hg]), if_neg hn]
    by_cases h0 : (settleS d (s.epoch + 1) l).1 = 0
    · rw [if_pos h0] at hr
      rw [hr]
      obtain ⟨o1, o2⟩ := settle_on h.ok h.six (e := s.epoch + 1) (l := l) (by rw [h.newest]; omega) he q1 q3 h0
      refine ⟨fun _ => ?_, fun h1 => absurd rfl h1⟩
      rw [(crash_on o1 o2 ks).found]
    · rw [if_neg h0] at hr
      rw [hr]
      exact ⟨fun h1 => absurd h1 h0, fun _ h2 => absurd (settle_six h.six he q3 h0) h2⟩
end Go.Proofs.Ytpfccbojllabjaa
