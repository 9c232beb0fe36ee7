/- Layer 15: two buckets of the call's own; numbers cut down. -/
import Derived.Test.YtenmopnegedgjaaBuK
namespace Go.Proofs.Ytenmopnegedgjaa
open Go.RowKit

/-- A number cut down by 'uint(x) % M'. -/
theorem mod_fact (a : Int) (M : Nat) (hM : 0 < M) (hM2 : M ≤ 1000000000) : ∃ p : Nat, p < M ∧ (IntKind.u64.wrap a).tmod (M : Int) = (p : Int) ∧ IntKind.u64.wrap (p : Int) = (p : Int) ∧ IntKind.i64.wrap (p : Int) = (p : Int) := by
  have h1 := Int.emod_nonneg (IntKind.u64.wrap a) (show (M : Int) ≠ 0 by omega)
  have h2 := Int.emod_lt_of_pos (IntKind.u64.wrap a) (show (0 : Int) < (M : Int) by omega)
  obtain ⟨p, hp⟩ := Int.eq_ofNat_of_zero_le h1
  rw [hp] at h2
  have h3 : 0 ≤ IntKind.u64.wrap a := by rw [IntKind.wrap_u64]; omega
  refine ⟨p, by omega, by rw [Int.tmod_eq_emod_of_nonneg h3]; exact hp, ?_, ?_⟩
  · rw [IntKind.wrap_u64]; omega
  · rw [IntKind.wrap_i64]; omega
/-- Two of the program's buckets. -/
structure TwoU (W w : World) (g : Nat) (u : Bu) (g2 : Nat) (v : Bu) : Prop where
  one : OBu 46 W w g u
  two : OBu 46 W w g2 v
  ne : g ≠ g2
section
variable {W w w' : World} {g g2 : Nat} {u v u' : Bu}
theorem TwoU.act1 (h : TwoU W w g u g2 v) (ha : ActB 46 w g u' w') : TwoU W w' g u' g2 v := ⟨h.one.act ha, h.two.other ha (fun e => h.ne e.symm) h.one.ge, h.ne⟩
theorem TwoU.act2 (h : TwoU W w g u g2 v) (ha : ActB 46 w g2 u' w') : TwoU W w' g u g2 u' := ⟨h.one.other ha h.ne h.two.ge, h.two.act ha, h.ne⟩
theorem TwoU.drewN (h : TwoU W w g u g2 v) (q : Nat) : TwoU W (w.drewN q) g u g2 v := ⟨h.one.drewN q, h.two.drewN q, h.ne⟩
end
/-- Ticks as one number. -/
theorem Bu.tick_nat {u : Bu} (h : u.Ok) (n : Nat) : u.tick (n : Int) = u.lv (min u.burst (u.level + n * u.rate)) := by
  unfold Bu.tick
  split
  · obtain rfl : n = 0 := by omega
    rw [Nat.zero_mul, Nat.add_zero, Nat.min_eq_right h.l]
    rfl
  · rw [Int.toNat_natCast]
theorem Bu.tick_tick {u : Bu} (h : u.Ok) (a b : Nat) : (u.tick (a : Int)).tick (b : Int) = u.tick ((a + b : Nat) : Int) := by
  rw [Bu.tick_nat (h.tick _), Bu.tick_nat h, Bu.tick_nat h]
  show u.lv (min u.burst (min u.burst (u.level + a * u.rate) + b * u.rate)) = _
  rw [Nat.add_mul]
  congr 1
  omega
theorem Bu.tick_nought (u : Bu) {n : Int} (h : n < 1) : u.tick n = u := by unfold Bu.tick; rw [if_pos h]
end Go.Proofs.Ytenmopnegedgjaa
