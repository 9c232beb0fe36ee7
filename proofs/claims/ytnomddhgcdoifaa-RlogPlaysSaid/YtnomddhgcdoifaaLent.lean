/- ref00.Copy, Lent, Whole, Spoil. -/
import Derived.Test.YtnomddhgcdoifaaProg
import Derived.Test.YtnomddhgcdoifaaRefPut
import Derived.Deep.LoopGhost
namespace Go.Proofs.Ytnomddhgcdoifaa
open Go.RowKit

set_option maxHeartbeats 1000000 in
set_option maxRecDepth 100000 in
theorem copy_any (A : Option Addr) (n c B : Nat) (l : List UInt8) (w : World) (hn : n ≤ 140737488355328) (h : Rd w B A n l) :
    Calls Try.prog 39 #[.slice A n c] w fun e w' => ∃ v, e = .returned v ∧ w'.ownsRow w.heap.size 5 1 v n (u8s l) ∧ Below w.heap.size w w' := by
  obtain ⟨i0, hi0, hz0, hz1, hz2⟩ := info_parts Try.infoU8
  have hA : A = none → n = 0 := by
    intro e
    rcases Nat.eq_zero_or_pos n with h0 | h0
    · exact h0
    · obtain ⟨b, o, e', _⟩ := h.2 h0; rw [e] at e'; cases e'
  go_enter Try.func39, Try.ntmps39
  go_wp2_with (at_builtin; refine wpList_append_app _ rfl _ _ 33 rfl w.heap.size 5 i0 (.int .u8 0) 1 1 Try.underlying33 hi0 hz0 hz1 hz2 rfl _ 0 [] rfl (World.ownsRow_nil _ _ _ _) A n c (u8s l) rfl (by rw [u8s_len, h.1, Nat.mul_one]) hA h.cells (u8s_one l) (by unfold maxLen; omega) (by omega) (Nat.le_refl _) ?_)
  intro v' w1 ha
  have hb1 := ha.below (Below.refl w.heap.size w) (Nat.le_refl _) (by simp [Value.ownBlock])
  have ho := ha.own
  rw [Nat.zero_add, List.nil_append] at ho
  go_wp2
  go_ret
  exact ⟨v', rfl, ho, hb1⟩

theorem cells_new2 (w : World) (x y : Value) (t : TypeId) : ∀ a, (some ⟨w.heap.size, 0, none⟩ : Option Addr) = some a → ∀ j u, [x, y][j]? = some u → (w.alloc (.cells #[x, y] t)).cell? (a.add j) = some u := by
  intro a ha j u hu
  obtain rfl := Option.some.inj ha
  rw [Addr.add_lit, Nat.zero_add, World.cell?_alloc_at _ _ _ _ rfl]
  match j, hu with
  | 0, hu => simpa using hu
  | 1, hu => simpa using hu

set_option maxHeartbeats 1000000 in
set_option maxRecDepth 100000 in
theorem lent_any (A : Option Addr) (n c B : Nat) (l : List UInt8) (w : World) (hn : n ≤ 140737488355000) (h : Rd w B A n l) :
    Calls Try.prog 21 #[.slice A n c] w fun e w' => ∃ g cap, e = .returned (.slice (some ⟨g, 0, none⟩) n cap) ∧ w'.ownsRow w.heap.size 5 1 (.slice (some ⟨g, 0, none⟩) (n + 2) cap) (n + 2) (u8s (l ++ [91, 92])) ∧ Below w.heap.size w w' := by
  obtain ⟨i0, hi0, hz0, hz1, hz2⟩ := info_parts Try.infoU8
  have Hc := Lib.hid (copy_any A n c B l w (by omega) h)
  clear h
  go_enter Try.func21, Try.ntmps21
  go_wp2_with fail
  refine Hc.out.mono ?_
  rintro e w1 ⟨v, rfl, hown, hb⟩
  have hsz := hb.size
  clear Hc
  go_wp2_with (at_builtin; refine wpList_append_app _ rfl _ _ 33 rfl w.heap.size 5 i0 (.int .u8 0) 1 1 Try.underlying33 hi0 hz0 hz1 hz2 rfl _ _ _ rfl (hown.alloc _) (some ⟨w1.heap.size, 0, none⟩) 2 2 [Value.int .u8 91, Value.int .u8 92] rfl rfl (by intro h; cases h) (cells_new2 _ _ _ _) (by intro u hu; simp at hu; rcases hu with rfl | rfl <;> rfl) (by unfold maxLen; omega) (by omega) (by simp; omega) ?_)
  intro v' w2 ha
  have hb2 := ha.below (hb.alloc hsz _) (by simp; omega) (own_block_ge hown)
  have ho := ha.own
  have hsh : ∃ g cap, v' = .slice (some ⟨g, 0, none⟩) (n + 2) cap ∧ n + 2 ≤ cap := by
    rcases ho.2 with ⟨_, h0⟩ | ⟨g, cap, cur, hv, _, _, h1, _⟩
    · omega
    · exact ⟨g, cap, hv, h1⟩
  obtain ⟨g, cap, rfl, hcap⟩ := hsh
  have hcm := (own_shape ho).choose_spec.choose_spec.2.2
  go_wp2
  go_ret
  refine ⟨g, cap, rfl, ?_, hb2⟩
  rw [u8s_append]
  exact ho

set_option maxHeartbeats 1000000 in
set_option maxRecDepth 100000 in
theorem whole_any (g cap base n c B : Nat) (A : Option Addr) (l : List UInt8) (w : World) (hn : n ≤ 140737488355000) (hx : w.ownsRow base 5 1 (.slice (some ⟨g, 0, none⟩) (n + 2) cap) (n + 2) (u8s (l ++ [91, 92]))) (h : Rd w B A n l) :
    Calls Try.prog 23 #[.slice (some ⟨g, 0, none⟩) n cap, .slice A n c] w fun e w' => e = .returned (.bool true) ∧ w = w' := by
  have hl := h.1
  have c1 : w.cell? ⟨g, n, none⟩ = some (.int .u8 91) := by
    rw [hx.cellAt n (by omega), u8s_at _ _ (by simp; omega)]
    simp [hl]
  have c2 : w.cell? ⟨g, n + 1, none⟩ = some (.int .u8 92) := by
    rw [hx.cellAt (n + 1) (by omega), u8s_at _ _ (by simp; omega)]
    simp [hl]
  have hcap : n + 2 ≤ cap := by
    rcases hx.2 with ⟨h', _⟩ | ⟨g', cap', cur, hv, _, _, h1, _⟩
    · cases h'
    · injection hv with _ _ hc; omega
  have hxr : Rd w w.heap.size (some ⟨g, 0, none⟩) n l := by
    have hlt : g < w.heap.size := (hx.lt g rfl).2
    refine ⟨hl, fun _ => ⟨g, 0, rfl, hlt, fun j hj => ?_⟩⟩
    rw [Nat.zero_add, hx.cellAt j (by omega), u8s_at _ _ (by simp; omega)]
    simp [List.getElem_append_left hj]
  have k1 := hxr.str Try.underlying33 Try.underlying5 Try.underlying9 cap
  have k2 := h.str Try.underlying33 Try.underlying5 Try.underlying9 c
  have i1 : (n : Int) + 1 < ((n + 2 : Nat) : Int) := by omega
  have i2 : (n : Int) < ((n + 2 : Nat) : Int) := by omega
  clear hx h hxr hl
  go_enter Try.func23, Try.ntmps23
  go_wp2
  go_ret
  exact ⟨rfl, rfl⟩

set_option maxHeartbeats 1000000 in
set_option maxRecDepth 100000 in
theorem spoil_any (g n cap base : Nat) (l : List UInt8) (w : World) (hn : n ≤ 140737488355000) (hx : w.ownsRow base 5 1 (.slice (some ⟨g, 0, none⟩) n cap) n (u8s l)) :
    Calls Try.prog 24 #[.slice (some ⟨g, 0, none⟩) n cap] w fun e w' => e = .returned (.tuple #[]) ∧ w.grownBy w' (some g) := by
  have hl : l.length = n := by have := hx.1; rw [u8s_len] at this; omega
  go_enter Try.func24, Try.ntmps24
  go_wp2
  go_loopg [2] n (fun k i wr => ∃ (j : Nat) (l' : List UInt8), i = .int .i64 j ∧ j + k = n ∧ l'.length = n ∧ wr.ownsRow base 5 1 (.slice (some ⟨g, 0, none⟩) n cap) n (u8s l') ∧ w.grownBy wr (some g))
  case atStart => exact ⟨0, l, rfl, by omega, hl, hx, World.grownBy.refl w _⟩
  case round =>
    clear hx hl l
    obtain ⟨j, l, rfl, hk, hl, hx, hg⟩ := hrel
    by_cases hj : j < n
    · have hcell : wr.cell? ⟨g, j, none⟩ = some (.int .u8 ((l[j]'(by omega)).toNat : Int)) := by
        rw [hx.cellAt j (by omega), u8s_at l j (by omega)]
      have hfr := hx.frozenAt j
      have hx2 := u8_lt (l[j]'(by omega))
      generalize (l[j]'(by omega)).toNat = y at *
      have hxor : bits .xor .u8 (y : Int) 165 = ((y ^^^ 165 : Nat) : Int) := u8_xor_nat y 165 hx2 (by decide)
      have hlt : y ^^^ 165 < 2 ^ 8 := Nat.xor_lt_two_pow (by omega) (by decide)
      obtain ⟨h1, h2⟩ := hx.stored j (.int .u8 ((y ^^^ 165 : Nat) : Int))
      have hset := u8s_set l j (y ^^^ 165).toUInt8
      rw [Lib.toUInt8_toNat (by omega)] at hset
      rw [hset] at h1
      have Hh : Hid (((wr.setCell ⟨g, j, none⟩ (.int .u8 ((y ^^^ 165 : Nat) : Int))).ownsRow base 5 1 (.slice (some ⟨g, 0, none⟩) n cap) n (u8s (l.set j (y ^^^ 165).toUInt8))) ∧ w.grownBy (wr.setCell ⟨g, j, none⟩ (.int .u8 ((y ^^^ 165 : Nat) : Int))) (some g)) := ⟨h1, hg.trans h2⟩
      have Hl := Lib.hid hl
      clear h1 h2 hg hx hset hl
      generalize y ^^^ 165 = z at *
      go_wp2
      go_roundg (gk - 1)
      case measure => omega
      case rel => exact ⟨j + 1, _, by go_num, by omega, by rw [List.length_set, Hl.out], Hh.out⟩
    · have Hg := Lib.hid hg
      clear hg hl
      go_wp2
      go_end0
      exact ⟨rfl, Hg.out⟩
end Go.Proofs.Ytnomddhgcdoifaa
