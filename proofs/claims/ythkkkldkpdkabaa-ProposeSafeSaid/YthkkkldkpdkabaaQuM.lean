/- Layer 8: may a system be? The small functions. -/
import Derived.Test.YthkkkldkpdkabaaQuP
import Derived.Test.YthkkkldkpdkabaaQuLay
import Derived.Test.YthkkkldkpdkabaaDiskP3
import Derived.Test.YthkkkldkpdkabaaBk
import Derived.Lib.Tables
import Derived.Test.YthkkkldkpdkabaaProg
import Derived.WalkKit
import Derived.BigQuiet
import Derived.Deep.QuietTactic
import Derived.Deep.RegionLaw
import Derived.Deep.RegionHeld3
import Derived.Laws.BitsAllLaws
namespace Go.Proofs.Ythkkkldkpdkabaa
open Go.RowKit

def qV (q : Qm) (s : Value) : Value := .agg #[.int .i64 q.kind, .int .i64 q.nodes, .int .i64 q.one, .int .i64 q.two, s]
def i64In (x : Int) : Prop := -9223372036854775808 ≤ x ∧ x ≤ 9223372036854775807
/-- A system that is handed in: its numbers are ints; its sites read so. -/
structure Qi (w : World) (q : Qm) (A : Option Addr) (n c : Nat) : Prop where
  kind : i64In q.kind
  nodes : i64In q.nodes
  one : i64In q.one
  two : i64In q.two
  cap : n ≤ c ∧ c ≤ 9223372036854775807
  rd : RdI w w.heap.size A n q.sites
theorem Qi.up {w w' : World} {q : Qm} {A : Option Addr} {n c : Nat} (h : Qi w q A n c) (hb : Below w.heap.size w w') : Qi w' q A n c := ⟨h.kind, h.nodes, h.one, h.two, h.cap, h.rd.up hb⟩
theorem Qi.len {w : World} {q : Qm} {A : Option Addr} {n c : Nat} (h : Qi w q A n c) : q.sites.length = n := h.rd.1

theorem ret_bool {a b : Bool} (h : a = b) : Ending.returned (.bool a) = .returned (.bool b) := by rw [h]
theorem ret_i64 {a b : Int} (h : a = b) : Ending.returned (.int .i64 a) = .returned (.int .i64 b) := by rw [h]

section
variable (kd nd on tw : Int) (A : Option Addr) (n c : Nat) (w : World)
abbrev boxQ : World := w.alloc (.cells #[.int .i64 kd, .int .i64 nd, .int .i64 on, .int .i64 tw, .slice A n c] 24)
abbrev aggQ : Value := .agg #[.int .i64 kd, .int .i64 nd, .int .i64 on, .int .i64 tw, .slice A n c]
theorem box_below : Below w.heap.size w (boxQ kd nd on tw A n c w) := (Below.refl _ _).alloc (Nat.le_refl _) _

set_option maxRecDepth 100000 in
set_option maxHeartbeats 400000 in
theorem isCount_any (x : Int) : Calls Try.prog 66 #[aggQ kd nd on tw A n c, .int .i64 x] w fun e w' => e = .returned (.bool (decide (1 ≤ x) && decide (x ≤ nd))) ∧ Below w.heap.size w w' := by
  have HB := Lib.hid (box_below kd nd on tw A n c w)
  by_cases h1 : 1 ≤ x
  · go_enter Try.func66, Try.ntmps66
    go_wp2
    go_ret
    exact ⟨by simp [h1], HB.out⟩
  · go_enter Try.func66, Try.ntmps66
    go_wp2
    go_ret
    exact ⟨ret_bool (by rw [decide_eq_false (by omega : ¬ 1 ≤ x)]; rfl), HB.out⟩
set_option maxRecDepth 100000 in
set_option maxHeartbeats 400000 in
theorem count_any (second : Bool) : Calls Try.prog 71 #[aggQ kd nd on tw A n c, .bool second] w fun e w' => e = .returned (.int .i64 (if second then tw else on)) ∧ Below w.heap.size w w' := by
  have HB := Lib.hid (box_below kd nd on tw A n c w)
  cases second with
  | true =>
    go_enter Try.func71, Try.ntmps71
    go_wp2
    go_ret
    exact ⟨rfl, HB.out⟩
  | false =>
    go_enter Try.func71, Try.ntmps71
    go_wp2
    go_ret
    exact ⟨rfl, HB.out⟩
theorem pow_num (m : Nat) (hm : m ≤ 12) : (2 : Int) ^ min m 32 = ((2 ^ m : Nat) : Int) := by
  have e : min m 32 = m := by omega
  rw [e]
  simp
theorem all_num (m : Nat) (hm : m ≤ 12) : ((2 : Int) ^ min m 32 - 1) % 4294967296 = ((2 ^ m - 1 : Nat) : Int) := by
  rw [pow_num m hm]
  have h2 : 2 ^ m ≤ 2 ^ 12 := Nat.pow_le_pow_right (by decide) hm
  have h3 : 1 ≤ 2 ^ m := Nat.one_le_two_pow
  generalize 2 ^ m = x at *
  omega
theorem bit_num (m : Nat) (hm : m ≤ 12) : (2 : Int) ^ min m 32 % 4294967296 = ((2 ^ m : Nat) : Int) := by
  rw [pow_num m hm]
  have h2 : 2 ^ m ≤ 2 ^ 12 := Nat.pow_le_pow_right (by decide) hm
  generalize 2 ^ m = x at *
  omega
set_option maxRecDepth 100000 in
set_option maxHeartbeats 400000 in
theorem all_any (m : Nat) (h : nd = (m : Int)) (hm : m ≤ 12) : Calls Try.prog 70 #[aggQ kd nd on tw A n c] w fun e w' => e = .returned (.int .u32 ((2 ^ m - 1 : Nat) : Int)) ∧ Below w.heap.size w w' := by
  have HB := Lib.hid (box_below kd nd on tw A n c w)
  subst h
  have q0 : ¬ ((m : Int) < 0) := by omega
  have Hm := Lib.hid (all_num m hm)
  clear hm
  go_enter Try.func70, Try.ntmps70
  go_wp2
  go_ret
  exact ⟨by rw [← Hm.out]; rfl, HB.out⟩
/-- How many bits: of numbers below 4096. -/
theorem ones_two : ∀ a : Fin 16, ∀ b : Fin 256, Lib.onesCount (a.val * 256 + b.val) = Lib.onesCount a.val + Lib.onesCount b.val := by decide +kernel
theorem ones_split (x : Nat) (hx : x < 4096) : Lib.onesCount x = Lib.onesCount (x / 256) + Lib.onesCount (x % 256) := by
  have := ones_two ⟨x / 256, by omega⟩ ⟨x % 256, by omega⟩
  dsimp only at this
  rwa [show x / 256 * 256 + x % 256 = x by omega] at this
set_option maxRecDepth 100000 in
set_option maxHeartbeats 1000000 in
theorem ones_any (x : Nat) (hx : x < 4096) : Calls Try.prog 69 #[.int .u32 (x : Int)] w fun e w' => e = .returned (.int .i64 (Lib.onesCount x : Int)) ∧ Below w.heap.size w w' := by
  have e1 : (x : Int) / 16777216 = 0 := by omega
  have e2 : (x : Int) / 65536 = 0 := by omega
  have e3 : bits .and .u32 ((x : Int) / 256) 255 = ((x / 256 : Nat) : Int) := by
    rw [show ((x : Int) / 256) = ((x / 256 : Nat) : Int) by omega, show (255 : Int) = ((255 : Nat) : Int) from rfl, u32_and_nat _ _ (by omega) (by omega)]
    rw [show (255 : Nat) = 2 ^ 8 - 1 from rfl, Nat.and_two_pow_sub_one_eq_mod]
    congr 1
    omega
  have e4 : bits .and .u32 (x : Int) 255 = ((x % 256 : Nat) : Int) := by
    rw [show (255 : Int) = ((255 : Nat) : Int) from rfl, u32_and_nat _ _ (by omega) (by omega)]
    rw [show (255 : Nat) = 2 ^ 8 - 1 from rfl, Nat.and_two_pow_sub_one_eq_mod]
  have e5 : bits .and .u32 0 255 = 0 := by decide
  have hs := ones_split x hx
  have ha : x / 256 < 256 := by omega
  have hb : x % 256 < 256 := by omega
  rw [hs]
  clear hs hx
  generalize x / 256 = a at *
  generalize x % 256 = b at *
  have a1 : (a : Int) < 256 := by omega
  have b1 : (b : Int) < 256 := by omega
  have a2 : (a : Int) ≤ 255 := by omega
  have b2 : (b : Int) ≤ 255 := by omega
  have a3 : (0 : Int) ≤ (a : Int) := by omega
  have b3 : (0 : Int) ≤ (b : Int) := by omega
  have HA := Lib.hid (Lib.pop8_eq ⟨a, ha⟩)
  have HB := Lib.hid (Lib.pop8_eq ⟨b, hb⟩)
  have LA := Lib.onesCount_le8 ⟨a, ha⟩
  have LB := Lib.onesCount_le8 ⟨b, hb⟩
  dsimp only at LA LB
  go_enter Try.func69, Try.ntmps69
  go_wp2_with fail
  go_quiet (fail)
  go_wp2
  go_ret
  refine ⟨ret_i64 ?_, bel_drewN (Below.refl _ _) _⟩
  have h0 : Lib.pop8 0 = 0 := by decide
  have h1 : Lib.pop8 (a : Int) = (Lib.onesCount a : Int) := HA.out
  have h2 : Lib.pop8 (b : Int) = (Lib.onesCount b : Int) := HB.out
  rw [h0, h1, h2]
  first
    | omega
    | (simp only [IntKind.wrap_u8, IntKind.wrap_i64]; omega)
end
end Go.Proofs.Ythkkkldkpdkabaa
