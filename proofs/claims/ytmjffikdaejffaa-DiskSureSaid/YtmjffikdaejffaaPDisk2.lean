/- The program's Disk: what only looks; act, Arm. -/
import Derived.Test.YtmjffikdaejffaaPDisk
namespace Go.Proofs.Ytmjffikdaejffaa
open Go.RowKit

section
variable {w : World} {F : Nat → Prop} {g : Nat} {d : Dk}
theorem PD.below {w' : World} (h : PD w F g d) (hb : Below w.heap.size w w') : PD w' F g d := by
  obtain ⟨gn, cn, gs, cs, wv, pl, hr, r⟩ := h
  exact ⟨gn, cn, gs, cs, wv, pl, hr.below hb, r⟩
theorem PD.kp {w' : World} {G : Nat → Prop} (h : PD w F g d) (hk : Kp G w w') (hd : ∀ k, F k → ¬ G k) : PD w' F g d := by
  obtain ⟨gn, cn, gs, cs, wv, pl, hr, r⟩ := h
  exact ⟨gn, cn, gs, cs, wv, pl, hr.kp hk hd, r⟩
theorem PD.lt (h : PD w F g d) : ∀ k, F k → k < w.heap.size := by
  obtain ⟨gn, cn, gs, cs, wv, pl, hr, r⟩ := h
  exact hr.lt
theorem PD.foot (h : PD w F g d) : F g := by
  obtain ⟨gn, cn, gs, cs, wv, pl, hr, r⟩ := h
  exact hr.foot.1
theorem PD.ok (h : PD w F g d) : d.Ok := by
  obtain ⟨gn, cn, gs, cs, wv, pl, hr, _, h2, _⟩ := h
  exact ⟨hr.srow, hr.wrow, h2⟩
theorem PD.len (h : PD w F g d) : 1 ≤ d.safe.length ∧ d.safe.length ≤ 2048 := by
  obtain ⟨gn, cn, gs, cs, wv, pl, hr, _, h2, _, _, h3⟩ := h
  exact h3
end

set_option maxHeartbeats 400000 in
theorem up_meth (g : Nat) (d : Dk) (F : Nat → Prop) (w : World) (h : PD w F g d) :
    Calls Try.prog 23 #[.pointer (some ⟨g, 0, none⟩)] w fun e w' => e = .returned (.bool (!d.down)) ∧ w = w' := by
  obtain ⟨gn, cn, gs, cs, wv, pl, hr, _⟩ := h
  have c3 : w.cell? ⟨g, 3, none⟩ = some (.bool (!d.down)) := hr.blk.cell 3
  clear hr
  go_enter Try.func23, Try.ntmps23
  go_wp2
  go_ret
  exact ⟨rfl, rfl⟩
set_option maxHeartbeats 400000 in
theorem up_nil (w : World) : Calls Try.prog 23 #[.pointer none] w fun e w' => e = .returned (.bool false) ∧ w = w' := by
  go_enter Try.func23, Try.ntmps23
  go_wp2
  go_ret
  exact ⟨rfl, rfl⟩
set_option maxHeartbeats 400000 in
theorem waiting_meth (g : Nat) (d : Dk) (F : Nat → Prop) (w : World) (h : PD w F g d) :
    Calls Try.prog 19 #[.pointer (some ⟨g, 0, none⟩)] w fun e w' => e = .returned (.int .i64 d.waits.length) ∧ w = w' := by
  obtain ⟨gn, cn, gs, cs, wv, pl, hr, _⟩ := h
  have c2 : w.cell? ⟨g, 2, none⟩ = some wv := hr.blk.cell 2
  obtain ⟨A, c, rfl, _⟩ := own_shape hr.rwaits
  clear hr
  generalize d.waits.length = n at *
  go_enter Try.func19, Try.ntmps19
  go_wp2
  go_ret
  exact ⟨rfl, rfl⟩
set_option maxHeartbeats 400000 in
theorem waiting_nil (w : World) : Calls Try.prog 19 #[.pointer none] w fun e w' => e = .returned (.int .i64 0) ∧ w = w' := by
  go_enter Try.func19, Try.ntmps19
  go_wp2
  go_ret
  exact ⟨rfl, rfl⟩
set_option maxHeartbeats 400000 in
theorem sectors_meth (g : Nat) (d : Dk) (F : Nat → Prop) (w : World) (h : PD w F g d) :
    Calls Try.prog 27 #[.pointer (some ⟨g, 0, none⟩)] w fun e w' => e = .returned (.int .i64 d.safe.length) ∧ w = w' := by
  obtain ⟨gn, cn, gs, cs, wv, pl, hr, _⟩ := h
  have c2 : w.cell? ⟨g, 0, none⟩ = some (.slice (some ⟨gn, 0, none⟩) d.safe.length cn) := hr.blk.cell 0
  clear hr
  generalize d.safe.length = n at *
  go_enter Try.func27, Try.ntmps27
  go_wp2
  go_ret
  exact ⟨rfl, rfl⟩
set_option maxHeartbeats 400000 in
theorem sectors_nil (w : World) : Calls Try.prog 27 #[.pointer none] w fun e w' => e = .returned (.int .i64 0) ∧ w = w' := by
  go_enter Try.func27, Try.ntmps27
  go_wp2
  go_ret
  exact ⟨rfl, rfl⟩

def Dk.reach (d : Dk) (a : Int) : Int := if d.down then 6 else if a < 0 ∨ (d.safe.length : Int) ≤ a then 30 else 0
set_option maxHeartbeats 400000 in
theorem reach_nil (a : Int) (w : World) : Calls Try.prog 35 #[.pointer none, .int .i64 a] w fun e w' => e = .returned (.int .i64 1) ∧ w = w' := by
  go_enter Try.func35, Try.ntmps35
  go_wp2
  go_ret
  exact ⟨rfl, rfl⟩
set_option maxHeartbeats 400000 in
theorem reach_meth (g : Nat) (d : Dk) (F : Nat → Prop) (a : Int) (w : World) (h : PD w F g d) :
    Calls Try.prog 35 #[.pointer (some ⟨g, 0, none⟩), .int .i64 a] w fun e w' => e = .returned (.int .i64 (d.reach a)) ∧ w = w' := by
  obtain ⟨gn, cn, gs, cs, wv, pl, hr, _⟩ := h
  have c0 : w.cell? ⟨g, 0, none⟩ = some (.slice (some ⟨gn, 0, none⟩) d.safe.length cn) := hr.blk.cell 0
  have c3 : w.cell? ⟨g, 3, none⟩ = some (.bool (!d.down)) := hr.blk.cell 3
  clear hr
  unfold Dk.reach
  generalize d.safe.length = n at *
  by_cases hd : d.down = true
  · rw [if_pos hd]
    rw [hd] at c3
    go_enter Try.func35, Try.ntmps35
    go_wp2
    go_ret
    exact ⟨rfl, rfl⟩
  · rw [if_neg hd]
    have hd' : d.down = false := by simpa using hd
    rw [hd'] at c3
    by_cases h0 : a < 0
    · rw [if_pos (.inl h0)]
      go_enter Try.func35, Try.ntmps35
      go_wp2
      go_ret
      exact ⟨rfl, rfl⟩
    · by_cases h1 : (n : Int) ≤ a
      · rw [if_pos (.inr h1)]
        go_enter Try.func35, Try.ntmps35
        go_wp2
        go_ret
        exact ⟨rfl, rfl⟩
      · rw [if_neg (by omega)]
        go_enter Try.func35, Try.ntmps35
        go_wp2
        go_ret
        exact ⟨rfl, rfl⟩

set_option maxHeartbeats 1000000 in
theorem act_meth (g : Nat) (d : Dk) (F : Nat → Prop) (w : World) (hd : d.down = false) (h : PD w F g d) :
    Calls Try.prog 36 #[.pointer (some ⟨g, 0, none⟩)] w fun e w' => e = .returned (.bool d.act.1) ∧ PD w' F g d.act.2 ∧ Kp F w w' := by
  obtain ⟨gn, cn, gs, cs, wv, pl, hr, hpl, hl1, hl2, hl3, hlen⟩ := h
  have c3 : w.cell? ⟨g, 3, none⟩ = some (.bool (!d.down)) := hr.blk.cell 3
  have c4 : w.cell? ⟨g, 4, none⟩ = some (.int .i64 pl) := hr.blk.cell 4
  have f3 := hr.blk.frozen 3
  have f4 := hr.blk.frozen 4
  rw [hd] at c3
  have hf := hr.foot.1
  unfold Dk.act
  rw [if_neg (by simp [hd])]
  by_cases h0 : d.left = 0
  · rw [if_pos h0]
    obtain rfl : pl = 0 := by omega
    have H : Hid (PD (w.setCell ⟨g, 3, none⟩ (.bool false)) F g { d with down := true } ∧ Kp F w (w.setCell ⟨g, 3, none⟩ (.bool false))) :=
      ⟨⟨gn, cn, gs, cs, wv, 0, hr.setUp false, by simp only; omega, hl1, hl2, hl3, hlen⟩, Kp.set_ (p := ⟨g, 3, none⟩) hf _⟩
    clear hr hpl hl1 hl2 hl3 hlen hf h0 hd
    go_enter Try.func36, Try.ntmps36
    go_wp2
    go_ret
    exact ⟨rfl, H.out⟩
  · rw [if_neg h0]
    by_cases hp : 0 < d.left
    · rw [if_pos hp]
      have e : pl = d.left := by omega
      have H : Hid (PD (w.setCell ⟨g, 4, none⟩ (.int .i64 (pl - 1))) F g { d with left := d.left - 1 } ∧ Kp F w (w.setCell ⟨g, 4, none⟩ (.int .i64 (pl - 1)))) :=
        ⟨⟨gn, cn, gs, cs, wv, pl - 1, hr.setLeft (pl - 1), by simp only; omega, by simp only; omega, by simp only; omega, by omega, hlen⟩, Kp.set_ (p := ⟨g, 4, none⟩) hf _⟩
      have hp1 : 0 < pl := by omega
      have hp2 : pl ≤ 9223372036854775807 := by omega
      clear hr hpl hl1 hl2 hl3 hlen hf h0 hd e hp
      go_enter Try.func36, Try.ntmps36
      go_wp2
      go_ret
      exact ⟨rfl, H.out⟩
    · rw [if_neg hp]
      have hp1 : pl < 0 := by omega
      have H : Hid (PD w F g d ∧ Kp F w w) := ⟨⟨gn, cn, gs, cs, wv, pl, hr, hpl, hl1, hl2, hl3, hlen⟩, Kp.refl F w⟩
      clear hr hpl hl1 hl2 hl3 hlen hf h0 hd hp
      go_enter Try.func36, Try.ntmps36
      go_wp2
      go_ret
      exact ⟨rfl, H.out⟩

set_option maxHeartbeats 400000 in
theorem arm_meth (g : Nat) (d : Dk) (F : Nat → Prop) (n : Int) (w : World) (h1 : -9223372036854775808 ≤ n) (h2 : n ≤ 9223372036854775807) (h : PD w F g d) :
    Calls Try.prog 22 #[.pointer (some ⟨g, 0, none⟩), .int .i64 n] w fun e w' => e = .returned (.tuple #[]) ∧ PD w' F g (d.arm n) ∧ Kp F w w' := by
  obtain ⟨gn, cn, gs, cs, wv, pl, hr, hpl, hl1, hl2, hl3, hlen⟩ := h
  have c4 : w.cell? ⟨g, 4, none⟩ = some (.int .i64 pl) := hr.blk.cell 4
  have f4 := hr.blk.frozen 4
  have H : Hid (PD (w.setCell ⟨g, 4, none⟩ (.int .i64 n)) F g (d.arm n) ∧ Kp F w (w.setCell ⟨g, 4, none⟩ (.int .i64 n))) :=
    ⟨⟨gn, cn, gs, cs, wv, n, hr.setLeft n, by unfold Dk.arm; simp only; split <;> omega, by unfold Dk.arm; simp only; split <;> omega, by unfold Dk.arm; simp only; split <;> omega, h1, hlen⟩, Kp.set_ (p := ⟨g, 4, none⟩) hr.foot.1 _⟩
  clear hr hpl hl1 hl2 hl3 hlen h1 h2
  go_enter Try.func22, Try.ntmps22
  go_wp2
  go_end0
  exact ⟨rfl, H.out⟩
set_option maxHeartbeats 400000 in
theorem arm_nil (n : Int) (w : World) : Calls Try.prog 22 #[.pointer none, .int .i64 n] w fun e w' => e = .returned (.tuple #[]) ∧ w = w' := by
  go_enter Try.func22, Try.ntmps22
  go_wp2
  go_end0
  exact ⟨rfl, rfl⟩
end Go.Proofs.Ytmjffikdaejffaa
