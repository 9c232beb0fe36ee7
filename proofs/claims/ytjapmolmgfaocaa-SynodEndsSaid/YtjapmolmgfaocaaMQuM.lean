/- Of the proofs of layer 4, merged: QuM, QuR, QuS. -/
import Derived.Test.YtjapmolmgfaocaaMQuP
import Derived.Test.YtjapmolmgfaocaaM1QuLay
import Derived.Test.YtjapmolmgfaocaaMWords
import Derived.Lib.Tables
import Derived.Test.YtjapmolmgfaocaaProg
import Derived.WalkKit
import Derived.BigQuiet
import Derived.Deep.QuietTactic
import Derived.Deep.RegionLaw
import Derived.Deep.RegionHeld3
import Derived.Laws.BitsAllLaws

/- Layer 8: may a system be? The small functions. -/
namespace Go.Proofs.Ytjapmolmgfaocaa
open Go.RowKit

def qV (q : Qm) (s : Value) : Value := .agg #[.int .i64 q.kind, .int .i64 q.nodes, .int .i64 q.one, .int .i64 q.two, s]
def i64In (x : Int) : Prop := -9223372036854775808 ≤ x ∧ x ≤ 9223372036854775807
/-- A system that is handed in: its numbers are ints; its sites read so. -/
structure Qi (w : World) (q : Qm) (A : Option Addr) (n c : Nat) : Prop where
  kind : i64In q.kind
  nodes : i64In q.nodes
  one : i64In q.one
  two : i64In q.two
  cap : n ≤ c ∧ c ≤ 9223372036854775807
  rd : RdI w w.heap.size A n q.sites
theorem Qi.up {w w' : World} {q : Qm} {A : Option Addr} {n c : Nat} (h : Qi w q A n c) (hb : Below w.heap.size w w') : Qi w' q A n c := ⟨h.kind, h.nodes, h.one, h.two, h.cap, h.rd.up hb⟩
theorem Qi.len {w : World} {q : Qm} {A : Option Addr} {n c : Nat} (h : Qi w q A n c) : q.sites.length = n := h.rd.1

theorem ret_bool {a b : Bool} (h : a = b) : Ending.returned (.bool a) = .returned (.bool b) := by rw [h]
theorem ret_i64 {a b : Int} (h : a = b) : Ending.returned (.int .i64 a) = .returned (.int .i64 b) := by rw [h]

section
variable (kd nd on tw : Int) (A : Option Addr) (n c : Nat) (w : World)
abbrev boxQ : World := w.alloc (.cells #[.int .i64 kd, .int .i64 nd, .int .i64 on, .int .i64 tw, .slice A n c] 24)
abbrev aggQ : Value := .agg #[.int .i64 kd, .int .i64 nd, .int .i64 on, .int .i64 tw, .slice A n c]
theorem box_below : Below w.heap.size w (boxQ kd nd on tw A n c w) := (Below.refl _ _).alloc (Nat.le_refl _) _

set_option maxRecDepth 100000 in
set_option maxHeartbeats 400000 in
theorem isCount_any (x : Int) : Calls Try.prog 60 #[aggQ kd nd on tw A n c, .int .i64 x] w fun e w' => e = .returned (.bool (decide (1 ≤ x) && decide (x ≤ nd))) ∧ Below w.heap.size w w' := by
  have HB := Lib.hid (box_below kd nd on tw A n c w)
  by_cases h1 : 1 ≤ x
  · go_enter Try.func60, Try.ntmps60
    go_wp2
    go_ret
    exact ⟨by simp [h1], HB.out⟩
  · go_enter Try.func60, Try.ntmps60
    go_wp2
    go_ret
    exact ⟨ret_bool (by rw [decide_eq_false (by omega : ¬ 1 ≤ x)]; rfl), HB.out⟩
set_option maxRecDepth 100000 in
set_option maxHeartbeats 400000 in
theorem count_any (second : Bool) : Calls Try.prog 74 #[aggQ kd nd on tw A n c, .bool second] w fun e w' => e = .returned (.int .i64 (if second then tw else on)) ∧ Below w.heap.size w w' := by
  have HB := Lib.hid (box_below kd nd on tw A n c w)
  cases second with
  | true =>
    go_enter Try.func74, Try.ntmps74
    go_wp2
    go_ret
    exact ⟨rfl, HB.out⟩
  | false =>
    go_enter Try.func74, Try.ntmps74
    go_wp2
    go_ret
    exact ⟨rfl, HB.out⟩
theorem pow_num (m : Nat) (hm : m ≤ 12) : (2 : Int) ^ min m 32 = ((2 ^ m : Nat) : Int) := by
  have e : min m 32 = m := by omega
  rw [e]
  simp
theorem all_num (m : Nat) (hm : m ≤ 12) : ((2 : Int) ^ min m 32 - 1) % 4294967296 = ((2 ^ m - 1 : Nat) : Int) := by
  rw [pow_num m hm]
  have h2 : 2 ^ m ≤ 2 ^ 12 := Nat.pow_le_pow_right (by decide) hm
  have h3 : 1 ≤ 2 ^ m := Nat.one_le_two_pow
  generalize 2 ^ m = x at *
  omega
theorem bit_num (m : Nat) (hm : m ≤ 12) : (2 : Int) ^ min m 32 % 4294967296 = ((2 ^ m : Nat) : Int) := by
  rw [pow_num m hm]
  have h2 : 2 ^ m ≤ 2 ^ 12 := Nat.pow_le_pow_right (by decide) hm
  generalize 2 ^ m = x at *
  omega
set_option maxRecDepth 100000 in
set_option maxHeartbeats 400000 in
theorem all_any (m : Nat) (h : nd = (m : Int)) (hm : m ≤ 12) : Calls Try.prog 73 #[aggQ kd nd on tw A n c] w fun e w' => e = .returned (.int .u32 ((2 ^ m - 1 : Nat) : Int)) ∧ Below w.heap.size w w' := by
  have HB := Lib.hid (box_below kd nd on tw A n c w)
  subst h
  have q0 : ¬ ((m : Int) < 0) := by omega
  have Hm := Lib.hid (all_num m hm)
  clear hm
  go_enter Try.func73, Try.ntmps73
  go_wp2
  go_ret
  exact ⟨by rw [← Hm.out]; rfl, HB.out⟩
/-- How many bits: of numbers below 4096. -/
theorem ones_two : ∀ a : Fin 16, ∀ b : Fin 256, Lib.onesCount (a.val * 256 + b.val) = Lib.onesCount a.val + Lib.onesCount b.val := by decide +kernel
theorem ones_split (x : Nat) (hx : x < 4096) : Lib.onesCount x = Lib.onesCount (x / 256) + Lib.onesCount (x % 256) := by
  have := ones_two ⟨x / 256, by omega⟩ ⟨x % 256, by omega⟩
  dsimp only at this
  rwa [show x / 256 * 256 + x % 256 = x by omega] at this
set_option maxRecDepth 100000 in
set_option maxHeartbeats 1000000 in
theorem ones_any (x : Nat) (hx : x < 4096) : Calls Try.prog 72 #[.int .u32 (x : Int)] w fun e w' => e = .returned (.int .i64 (Lib.onesCount x : Int)) ∧ Below w.heap.size w w' := by
  have e1 : (x : Int) / 16777216 = 0 := by omega
  have e2 : (x : Int) / 65536 = 0 := by omega
  have e3 : bits .and .u32 ((x : Int) / 256) 255 = ((x / 256 : Nat) : Int) := by
    rw [show ((x : Int) / 256) = ((x / 256 : Nat) : Int) by omega, show (255 : Int) = ((255 : Nat) : Int) from rfl, u32_and_nat _ _ (by omega) (by omega)]
    rw [show (255 : Nat) = 2 ^ 8 - 1 from rfl, Nat.and_two_pow_sub_one_eq_mod]
    congr 1
    omega
  have e4 : bits .and .u32 (x : Int) 255 = ((x % 256 : Nat) : Int) := by
    rw [show (255 : Int) = ((255 : Nat) : Int) from rfl, u32_and_nat _ _ (by omega) (by omega)]
    rw [show (255 : Nat) = 2 ^ 8 - 1 from rfl, Nat.and_two_pow_sub_one_eq_mod]
  have e5 : bits .and .u32 0 255 = 0 := by decide
  have hs := ones_split x hx
  have ha : x / 256 < 256 := by omega
  have hb : x % 256 < 256 := by omega
  rw [hs]
  clear hs hx
  generalize x / 256 = a at *
  generalize x % 256 = b at *
  have a1 : (a : Int) < 256 := by omega
  have b1 : (b : Int) < 256 := by omega
  have a2 : (a : Int) ≤ 255 := by omega
  have b2 : (b : Int) ≤ 255 := by omega
  have a3 : (0 : Int) ≤ (a : Int) := by omega
  have b3 : (0 : Int) ≤ (b : Int) := by omega
  have HA := Lib.hid (Lib.pop8_eq ⟨a, ha⟩)
  have HB := Lib.hid (Lib.pop8_eq ⟨b, hb⟩)
  have LA := Lib.onesCount_le8 ⟨a, ha⟩
  have LB := Lib.onesCount_le8 ⟨b, hb⟩
  dsimp only at LA LB
  go_enter Try.func72, Try.ntmps72
  go_wp2_with fail
  go_quiet (fail)
  go_wp2
  go_ret
  refine ⟨ret_i64 ?_, bel_drewN (Below.refl _ _) _⟩
  have h0 : Lib.pop8 0 = 0 := by decide
  have h1 : Lib.pop8 (a : Int) = (Lib.onesCount a : Int) := HA.out
  have h2 : Lib.pop8 (b : Int) = (Lib.onesCount b : Int) := HB.out
  rw [h0, h1, h2]
  first
    | omega
    | (simp only [IntKind.wrap_u8, IntKind.wrap_i64]; omega)
end
end Go.Proofs.Ytjapmolmgfaocaa

/- Layer 8: Right. -/
namespace Go.Proofs.Ytjapmolmgfaocaa
open Go.RowKit Go.Lib Go.Shelf

section
variable (kd nd on tw : Int) (A : Option Addr) (n c : Nat) (w : World)
set_option maxRecDepth 100000 in
set_option maxHeartbeats 400000 in
theorem isNoSite_any (x : Int) (W : World) : Calls Try.prog 62 #[.int .i64 x] W fun e w' => e = .returned (.bool (noSite x)) ∧ W = w' := by
  unfold noSite
  by_cases h1 : x < 0
  · go_enter Try.func62, Try.ntmps62
    go_wp2
    go_ret
    exact ⟨ret_bool (by rw [decide_eq_true h1]; rfl), rfl⟩
  · have h1' : ¬ x < 0 := h1
    go_enter Try.func62, Try.ntmps62
    go_wp2
    go_ret
    exact ⟨ret_bool (by rw [decide_eq_false (by omega : ¬ x < 0)]; rfl), rfl⟩
theorem noSite_pred (w : World) : PredAt Try.prog 62 #[] (Value.int .i64) noSite w := fun W x _ => by
  show Calls Try.prog 62 #[.int .i64 x] W _
  refine (isNoSite_any x W).mono ?_
  rintro e w' ⟨rfl, rfl⟩
  exact ⟨rfl, 0, rfl⟩
theorem containsSites (l : List Int) (hn : 0 < n) (hm : n ≤ 9223372036854775807) (hr : RdI w w.heap.size A n l) :
    Calls Try.prog 61 #[.slice A n c, .func (.func 62) #[] #[]] w fun e w' => e = .returned (.bool (l.any noSite)) ∧ Below w.heap.size w w' := by
  obtain ⟨hl, _, h⟩ := hr
  obtain ⟨b, o, rfl, hb, hc⟩ := h hn
  have H := AnyE.slices_ContainsFunc layCf (Value.int .i64) noSite 62 #[] (enters_of Try.func62 (by kernel_rfl) rfl) b o n c l w (noSite_pred w) (by omega) hm (fun j hj => by rw [hc j hj, getElem!_pos l j hj])
  rw [List.take_of_length_le (by omega)] at H
  refine Calls.mono (show Calls Try.prog 61 _ _ _ from H) ?_
  rintro e w' ⟨rfl, q, rfl⟩
  exact ⟨rfl, bel_drewN (Below.refl _ _) q⟩

/-- The cells of a system in a block. -/
abbrev qA : Array Value := #[.int .i64 kd, .int .i64 nd, .int .i64 on, .int .i64 tw, .slice A n c]
abbrev QB (W : World) (g : Nat) : Prop := Bk W g 24 (qA kd nd on tw A n c)
theorem QB.cells {W : World} {g : Nat} (h : QB kd nd on tw A n c W g) : W.cell? ⟨g, 0, none⟩ = some (.int .i64 kd) ∧ W.cell? ⟨g, 1, none⟩ = some (.int .i64 nd) ∧ W.cell? ⟨g, 2, none⟩ = some (.int .i64 on) ∧ W.cell? ⟨g, 3, none⟩ = some (.int .i64 tw) ∧ W.cell? ⟨g, 4, none⟩ = some (.slice A n c) :=
  ⟨h.cell 0, h.cell 1, h.cell 2, h.cell 3, h.cell 4⟩
theorem boxed (w : World) : ∃ w1, Hid (w1 = w.alloc (.cells #[.int .i64 kd, .int .i64 nd, .int .i64 on, .int .i64 tw, .slice A n c] 24)) ∧ Hid (Below w.heap.size w w1) ∧ Hid (QB kd nd on tw A n c w1 w.heap.size) :=
  ⟨_, Lib.hid rfl, Lib.hid (box_below kd nd on tw A n c w), Lib.hid (Bk.new w _ _)⟩

set_option maxRecDepth 100000 in
set_option maxHeartbeats 1000000 in
theorem rightC_any (hn : nd ≤ 12) : Calls Try.prog 50 #[aggQ kd nd on tw A n c] w fun e w' => e = .returned (.int .i64 (Qm.rightC ⟨kd, nd, on, tw, []⟩)) ∧ Below w.heap.size w w' := by
  have HC := fun (x : Int) (W : World) => isCount_any kd nd on tw A n c W x
  obtain ⟨w1, HW1, HB1, HK1⟩ := boxed kd nd on tw A n c w
  obtain ⟨k0, k1, k2, k3, k4⟩ := HK1.out.cells
  rw [HW1.out] at k0 k1 k2 k3 k4
  unfold Qm.rightC Qm.isCount
  dsimp only
  have HO := HC on
  cases ho : (decide (1 ≤ on) && decide (on ≤ nd)) with
  | false =>
    rw [ho] at HO
    have HOH := Lib.hid HO
    clear HC HO ho
    go_enter Try.func50, Try.ntmps50
    go_wp2_with (fail)
    rw [← HW1.out]
    refine (HOH.out w1).mono ?_
    rintro e w2 ⟨rfl, hb2⟩
    have HB2 := Lib.hid (below_then HB1.out hb2)
    clear hb2
    go_wp2
    go_ret
    exact ⟨rfl, HB2.out⟩
  | true =>
    rw [ho] at HO
    have HOH := Lib.hid HO
    have HT := HC tw
    have ho' : 1 ≤ on ∧ on ≤ nd := by simpa using ho
    clear HO ho HC
    cases ht : (decide (1 ≤ tw) && decide (tw ≤ nd)) with
    | false =>
      rw [ht] at HT
      have HTH := Lib.hid HT
      clear HT ht
      go_enter Try.func50, Try.ntmps50
      go_wp2_with (fail)
      rw [← HW1.out]
      refine (HOH.out w1).mono ?_
      rintro e w2 ⟨rfl, hb2⟩
      have HB2 := Lib.hid (below_then HB1.out hb2)
      have HK2 := Lib.hid (HK1.out.below hb2 HK1.out.lt)
      obtain ⟨j0, j1, j2, j3, j4⟩ := QB.cells kd nd on tw A n c HK2.out
      clear hb2 k0 k1 k2 k3 k4
      go_wp2_with fail
      refine (HTH.out w2).mono ?_
      rintro e w3 ⟨rfl, hb3⟩
      have HB3 := Lib.hid (below_then HB2.out hb3)
      clear hb3 j0 j1 j2 j3 j4
      go_wp2
      go_ret
      exact ⟨rfl, HB3.out⟩
    | true =>
      rw [ht] at HT
      have HTH := Lib.hid HT
      have ht' : 1 ≤ tw ∧ tw ≤ nd := by simpa using ht
      clear HT ht
      obtain ⟨o1, o2⟩ := ho'
      obtain ⟨t1, t2⟩ := ht'
      simp only [Bool.not_true, Bool.or_false, Bool.false_eq_true, ↓reduceIte]
      go_enter Try.func50, Try.ntmps50
      go_wp2_with (fail)
      rw [← HW1.out]
      refine (HOH.out w1).mono ?_
      rintro e w2 ⟨rfl, hb2⟩
      have HB2 := Lib.hid (below_then HB1.out hb2)
      have HK2 := Lib.hid (HK1.out.below hb2 HK1.out.lt)
      obtain ⟨j0, j1, j2, j3, j4⟩ := QB.cells kd nd on tw A n c HK2.out
      clear hb2 k0 k1 k2 k3 k4
      go_wp2_with fail
      refine (HTH.out w2).mono ?_
      rintro e w3 ⟨rfl, hb3⟩
      have HB3 := Lib.hid (below_then HB2.out hb3)
      obtain ⟨k0, k1, k2, k3, k4⟩ := QB.cells kd nd on tw A n c (HK2.out.below hb3 HK2.out.lt)
      clear hb3 j0 j1 j2 j3 j4
      go_wp2
      all_goals (go_ret; exact ⟨rfl, HB3.out⟩)
set_option maxRecDepth 100000 in
set_option maxHeartbeats 1000000 in
theorem rightR_any (hn : nd ≤ 12) : Calls Try.prog 51 #[aggQ kd nd on tw A n c] w fun e w' => e = .returned (.int .i64 (Qm.rightR ⟨kd, nd, on, tw, []⟩)) ∧ Below w.heap.size w w' := by
  have HC := fun (x : Int) (W : World) => isCount_any kd nd on tw A n c W x
  obtain ⟨w1, HW1, HB1, HK1⟩ := boxed kd nd on tw A n c w
  obtain ⟨k0, k1, k2, k3, k4⟩ := HK1.out.cells
  rw [HW1.out] at k0 k1 k2 k3 k4
  unfold Qm.rightR Qm.isCount
  dsimp only
  have HO := HC on
  cases ho : (decide (1 ≤ on) && decide (on ≤ nd)) with
  | false =>
    rw [ho] at HO
    have HOH := Lib.hid HO
    clear HC HO ho
    go_enter Try.func51, Try.ntmps51
    go_wp2_with (fail)
    rw [← HW1.out]
    refine (HOH.out w1).mono ?_
    rintro e w2 ⟨rfl, hb2⟩
    have HB2 := Lib.hid (below_then HB1.out hb2)
    clear hb2
    go_wp2
    go_ret
    exact ⟨rfl, HB2.out⟩
  | true =>
    rw [ho] at HO
    have HOH := Lib.hid HO
    have HT := HC tw
    have ho' : 1 ≤ on ∧ on ≤ nd := by simpa using ho
    clear HO ho HC
    cases ht : (decide (1 ≤ tw) && decide (tw ≤ nd)) with
    | false =>
      rw [ht] at HT
      have HTH := Lib.hid HT
      clear HT ht
      go_enter Try.func51, Try.ntmps51
      go_wp2_with (fail)
      rw [← HW1.out]
      refine (HOH.out w1).mono ?_
      rintro e w2 ⟨rfl, hb2⟩
      have HB2 := Lib.hid (below_then HB1.out hb2)
      have HK2 := Lib.hid (HK1.out.below hb2 HK1.out.lt)
      obtain ⟨j0, j1, j2, j3, j4⟩ := QB.cells kd nd on tw A n c HK2.out
      clear hb2 k0 k1 k2 k3 k4
      go_wp2_with fail
      refine (HTH.out w2).mono ?_
      rintro e w3 ⟨rfl, hb3⟩
      have HB3 := Lib.hid (below_then HB2.out hb3)
      clear hb3 j0 j1 j2 j3 j4
      go_wp2
      go_ret
      exact ⟨rfl, HB3.out⟩
    | true =>
      rw [ht] at HT
      have HTH := Lib.hid HT
      have ht' : 1 ≤ tw ∧ tw ≤ nd := by simpa using ht
      clear HT ht
      obtain ⟨o1, o2⟩ := ho'
      obtain ⟨t1, t2⟩ := ht'
      have m0 : 0 ≤ on * tw := Int.mul_nonneg (by omega) (by omega)
      have m1 : on * tw ≤ 12 * 12 := Int.mul_le_mul (by omega) (by omega) (by omega) (by omega)
      simp only [Bool.not_true, Bool.or_false, Bool.false_eq_true, ↓reduceIte]
      have m2 : on * tw ≤ 144 := m1
      clear m1
      by_cases hp : on * tw = nd
      · rw [if_neg (fun e => e hp)]
        have hp' : (on * tw == nd) = true := by simpa using hp
        go_enter Try.func51, Try.ntmps51
        go_wp2_with (fail)
        rw [← HW1.out]
        refine (HOH.out w1).mono ?_
        rintro e w2 ⟨rfl, hb2⟩
        have HB2 := Lib.hid (below_then HB1.out hb2)
        have HK2 := Lib.hid (HK1.out.below hb2 HK1.out.lt)
        obtain ⟨j0, j1, j2, j3, j4⟩ := QB.cells kd nd on tw A n c HK2.out
        clear hb2 k0 k1 k2 k3 k4
        go_wp2_with fail
        refine (HTH.out w2).mono ?_
        rintro e w3 ⟨rfl, hb3⟩
        have HB3 := Lib.hid (below_then HB2.out hb3)
        obtain ⟨k0, k1, k2, k3, k4⟩ := QB.cells kd nd on tw A n c (HK2.out.below hb3 HK2.out.lt)
        clear hb3 j0 j1 j2 j3 j4
        go_wp2
        go_ret
        exact ⟨rfl, HB3.out⟩
      · rw [if_pos hp]
        have hp' : (on * tw == nd) = false := by simpa using hp
        go_enter Try.func51, Try.ntmps51
        go_wp2_with (fail)
        rw [← HW1.out]
        refine (HOH.out w1).mono ?_
        rintro e w2 ⟨rfl, hb2⟩
        have HB2 := Lib.hid (below_then HB1.out hb2)
        have HK2 := Lib.hid (HK1.out.below hb2 HK1.out.lt)
        obtain ⟨j0, j1, j2, j3, j4⟩ := QB.cells kd nd on tw A n c HK2.out
        clear hb2 k0 k1 k2 k3 k4
        go_wp2_with fail
        refine (HTH.out w2).mono ?_
        rintro e w3 ⟨rfl, hb3⟩
        have HB3 := Lib.hid (below_then HB2.out hb3)
        obtain ⟨k0, k1, k2, k3, k4⟩ := QB.cells kd nd on tw A n c (HK2.out.below hb3 HK2.out.lt)
        clear hb3 j0 j1 j2 j3 j4
        go_wp2
        go_ret
        exact ⟨rfl, HB3.out⟩
set_option maxRecDepth 100000 in
set_option maxHeartbeats 1000000 in
theorem rightS_any (l : List Int) (hn0 : 1 ≤ nd) (hn : nd ≤ 12) (hc : n ≤ c) (hm : c ≤ 9223372036854775807) (hr : RdI w w.heap.size A n l) : Calls Try.prog 52 #[aggQ kd nd on tw A n c] w fun e w' => e = .returned (.int .i64 (Qm.rightS ⟨kd, nd, on, tw, l⟩)) ∧ Below w.heap.size w w' := by
  have hln := hr.1
  obtain ⟨w1, HW1, HB1, HK1⟩ := boxed kd nd on tw A n c w
  have hr1 := hr.up HB1.out
  have HC := Lib.hid (fun (h : 0 < n) => containsSites A n c w1 l h (by omega) hr1)
  clear hr hr1
  obtain ⟨k0, k1, k2, k3, k4⟩ := HK1.out.cells
  rw [HW1.out] at k0 k1 k2 k3 k4
  unfold Qm.rightS
  dsimp only
  rw [hln]
  by_cases h : (n : Int) = nd
  · rw [if_neg (by omega)]
    cases ha : l.any noSite with
    | true =>
      have HCC := HC.out (by omega)
      rw [ha] at HCC
      have HCC := Lib.hid HCC
      clear HC ha hln
      simp only [↓reduceIte]
      have h1 : ((n : Int) == nd) = true := by simpa using h
      go_enter Try.func52, Try.ntmps52
      go_wp2_with fail
      rw [← HW1.out]
      refine (HCC.out).mono ?_
      rintro e w2 ⟨rfl, hb2⟩
      have HB2 := Lib.hid (below_then HB1.out hb2)
      clear hb2 k0 k1 k2 k3 k4
      go_wp2
      go_ret
      exact ⟨rfl, HB2.out⟩
    | false =>
      have HCC := HC.out (by omega)
      rw [ha] at HCC
      have HCC := Lib.hid HCC
      clear HC ha hln
      simp only [Bool.false_eq_true, ↓reduceIte]
      go_enter Try.func52, Try.ntmps52
      go_wp2_with fail
      rw [← HW1.out]
      refine (HCC.out).mono ?_
      rintro e w2 ⟨rfl, hb2⟩
      have HB2 := Lib.hid (below_then HB1.out hb2)
      clear hb2 k0 k1 k2 k3 k4
      go_wp2
      go_ret
      exact ⟨rfl, HB2.out⟩
  · rw [if_pos (by omega)]
    clear hln HC
    go_enter Try.func52, Try.ntmps52
    go_wp2
    go_ret
    rw [← HW1.out]
    exact ⟨rfl, HB1.out⟩
end
end Go.Proofs.Ytjapmolmgfaocaa

/- Layer 8: Right; rows, columns and sites. -/
namespace Go.Proofs.Ytjapmolmgfaocaa
open Go.RowKit Go.Lib Go.Shelf

theorem Qm.eta (q : Qm) : (⟨q.kind, q.nodes, q.one, q.two, q.sites⟩ : Qm) = q := rfl
set_option maxRecDepth 100000 in
set_option maxHeartbeats 1000000 in
theorem right_any (q : Qm) (A : Option Addr) (n c : Nat) (w : World) (hq : Qi w q A n c) :
    Calls Try.prog 38 #[qV q (.slice A n c)] w fun e w' => e = .returned (.int .i64 q.right) ∧ Below w.heap.size w w' := by
  obtain ⟨kd, nd, on, tw, l⟩ := q
  obtain ⟨_, _, _, _, hcap, hrd⟩ := hq
  dsimp only at hcap hrd
  unfold qV Qm.right
  dsimp only
  obtain ⟨w1, HW1, HB1, HK1⟩ := boxed kd nd on tw A n c w
  have HC := Lib.hid (fun (h : nd ≤ 12) => rightC_any kd nd on tw A n c w1 h)
  have HR := Lib.hid (fun (h : nd ≤ 12) => rightR_any kd nd on tw A n c w1 h)
  have HS := Lib.hid (fun (h0 : 1 ≤ nd) (h : nd ≤ 12) => rightS_any kd nd on tw A n c w1 l h0 h hcap.1 hcap.2 (hrd.up HB1.out))
  have eC : (⟨kd, nd, on, tw, l⟩ : Qm).rightC = Qm.rightC ⟨kd, nd, on, tw, []⟩ := rfl
  have eR : (⟨kd, nd, on, tw, l⟩ : Qm).rightR = Qm.rightR ⟨kd, nd, on, tw, []⟩ := rfl
  rw [eC, eR]
  clear eC eR
  obtain ⟨k0, k1, k2, k3, k4⟩ := HK1.out.cells
  rw [HW1.out] at k0 k1 k2 k3 k4
  clear hcap hrd
  by_cases h0 : nd < 1
  · rw [if_pos (.inl h0)]
    go_enter Try.func38, Try.ntmps38
    go_wp2
    go_ret
    rw [← HW1.out]
    exact ⟨rfl, HB1.out⟩
  by_cases h1 : 12 < nd
  · rw [if_pos (.inr h1)]
    go_enter Try.func38, Try.ntmps38
    go_wp2
    go_ret
    rw [← HW1.out]
    exact ⟨rfl, HB1.out⟩
  rw [if_neg (by omega)]
  by_cases hk1 : kd = 1
  · rw [if_pos hk1]
    have H := Lib.hid (HC.out (by omega))
    clear HC HR HS
    generalize Qm.rightC ⟨kd, nd, on, tw, []⟩ = r at H ⊢
    go_enter Try.func38, Try.ntmps38
    go_wp2_with fail
    rw [← hk1, ← HW1.out]
    refine (H.out).mono ?_
    rintro e w2 ⟨rfl, hb2⟩
    have HB2 := Lib.hid (below_then HB1.out hb2)
    clear hb2 k0 k1 k2 k3 k4
    go_wp2
    go_ret
    exact ⟨rfl, HB2.out⟩
  rw [if_neg hk1]
  by_cases hk2 : kd = 2
  · rw [if_pos hk2]
    have H := Lib.hid (HR.out (by omega))
    clear HC HR HS
    generalize Qm.rightR ⟨kd, nd, on, tw, []⟩ = r at H ⊢
    go_enter Try.func38, Try.ntmps38
    go_wp2_with fail
    rw [← hk2, ← HW1.out]
    refine (H.out).mono ?_
    rintro e w2 ⟨rfl, hb2⟩
    have HB2 := Lib.hid (below_then HB1.out hb2)
    clear hb2 k0 k1 k2 k3 k4
    go_wp2
    go_ret
    exact ⟨rfl, HB2.out⟩
  rw [if_neg hk2]
  by_cases hk3 : kd = 3
  · rw [if_pos hk3]
    have H := Lib.hid (HS.out (by omega) (by omega))
    clear HC HR HS
    generalize Qm.rightS ⟨kd, nd, on, tw, l⟩ = r at H ⊢
    go_enter Try.func38, Try.ntmps38
    go_wp2_with fail
    rw [← hk3, ← HW1.out]
    refine (H.out).mono ?_
    rintro e w2 ⟨rfl, hb2⟩
    have HB2 := Lib.hid (below_then HB1.out hb2)
    clear hb2 k0 k1 k2 k3 k4
    go_wp2
    go_ret
    exact ⟨rfl, HB2.out⟩
  rw [if_neg hk3]
  clear HC HR HS
  go_enter Try.func38, Try.ntmps38
  go_wp2
  go_ret
  rw [← HW1.out]
  exact ⟨rfl, HB1.out⟩

set_option maxRecDepth 100000 in
set_option maxHeartbeats 1000000 in
theorem partOf_any (q : Qm) (second : Bool) (i : Nat) (A : Option Addr) (n c : Nat) (w : World) (hq : Qi w q A n c) (hr : q.right = 0) (hk : q.kind ≠ 1) (hi : i < q.n) :
    Calls Try.prog 78 #[qV q (.slice A n c), .bool second, .int .i64 (i : Int)] w fun e w' => e = .returned (.int .i64 (q.part second i : Int)) ∧ Below w.heap.size w w' := by
  have hlt := q.part_lt hr second i hi hk
  obtain ⟨hn1, hn2, hcs⟩ := q.right_cases hr
  clear hr
  obtain ⟨kd, nd, on, tw, l⟩ := q
  obtain ⟨_, _, _, _, hcap, hrd⟩ := hq
  dsimp only at hcap hrd hk hn1 hn2 hcs
  unfold qV
  unfold Qm.part at *
  unfold Qm.n at hi
  dsimp only at *
  obtain ⟨w1, HW1, HB1, HK1⟩ := boxed kd nd on tw A n c w
  have hr1 := hrd.up HB1.out
  obtain ⟨k0, k1, k2, k3, k4⟩ := HK1.out.cells
  rw [HW1.out] at k0 k1 k2 k3 k4
  by_cases hk3 : kd = 3
  · rw [if_pos hk3]
    obtain ⟨hln, hall⟩ : (l.length : Int) = nd ∧ ∀ x ∈ l, 0 ≤ x ∧ x < 12 := by
      rcases hcs with ⟨h, _⟩ | ⟨h, _⟩ | ⟨_, h⟩
      · omega
      · omega
      · exact h
    have hil : i < l.length := by omega
    obtain ⟨b, o, rfl, hb, hc⟩ := hr1.2.2 (by have := hr1.1; omega)
    have hcell := hc i hil
    rw [HW1.out] at hcell
    have hx := hall l[i] (List.getElem_mem hil)
    have hg : ((l.getD i 0).toNat : Int) = l[i] := by
      simp only [List.getD, List.getElem?_eq_getElem hil, Option.getD_some]
      omega
    rw [hg]
    generalize l[i] = x at hcell ⊢
    have hin : (i : Int) < (n : Int) := by have := hr1.1; omega
    clear hc hr1 hrd hcap hall hg hlt hcs hln hx
    subst hk3
    go_enter Try.func78, Try.ntmps78
    go_wp2
    go_ret
    rw [← HW1.out]
    exact ⟨rfl, HB1.out⟩
  · rw [if_neg hk3]
    have hk2 : kd = 2 := by
      rcases hcs with ⟨h, _⟩ | ⟨h, _⟩ | ⟨h, _⟩
      · exact absurd h hk
      · exact h
      · exact absurd h hk3
    have htw : 1 ≤ tw ∧ tw ≤ 12 := by
      rcases hcs with ⟨h, _⟩ | ⟨_, h1, h2, h3, h4, _⟩ | ⟨h, _⟩ <;> omega
    obtain ⟨t, rfl⟩ := Int.eq_ofNat_of_zero_le (show 0 ≤ tw by omega)
    rw [if_neg hk3] at hlt
    have ht0 : 0 < t := by omega
    have i12 : i < 12 := by omega
    clear hr1 hrd hcap hcs hk hi hk2
    cases second with
    | true =>
      have e : ((i : Int).tmod (t : Int)) = ((i % t : Nat) : Int) := (Int.ofNat_tmod i t).symm
      simp only [↓reduceIte, Int.toNat_natCast] at *
      go_enter Try.func78, Try.ntmps78
      go_wp2
      go_ret
      rw [← HW1.out]
      exact ⟨ret_i64 (by first | omega | simp), HB1.out⟩
    | false =>
      have hd : i / t < 12 := by have := Nat.div_le_self i t; generalize i / t = z at *; omega
      have e : wrap64 ((i : Int) / (t : Int)) = ((i / t : Nat) : Int) := by
        rw [show ((i : Int) / (t : Int)) = ((i / t : Nat) : Int) by simp]
        generalize i / t = z at hd ⊢
        unfold wrap64
        omega
      have E := Lib.hid e
      clear e hd
      simp only [Bool.false_eq_true, ↓reduceIte, Int.toNat_natCast] at *
      go_enter Try.func78, Try.ntmps78
      go_wp2
      go_ret
      rw [← HW1.out]
      exact ⟨ret_i64 E.out, HB1.out⟩
end Go.Proofs.Ytjapmolmgfaocaa
