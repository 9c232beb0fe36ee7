/- slices.Grow of nothing, slices.Concat of some texts. -/
import Derived.Test.YtbkbmmpcjpkkaaaTurn
import Derived.Test.YtbkbmmpcjpkkaaaRefFrameGet2
import Derived.Lib.AppendZeros
namespace Go.Proofs.Ytbkbmmpcjpkkaaa
open Go.RowKit

set_option maxHeartbeats 400000 in
theorem grow_any (N : Nat) (w : World) (hN : N ≤ 140737488355328) :
    Calls Try.prog 37 #[.slice none 0 0, .int .i64 (N : Int)] w fun e w' => ∃ v, e = .returned v ∧ w'.ownsRow w.heap.size 5 1 v 0 [] ∧ Below w.heap.size w w' := by
  obtain ⟨i0, hi0, hz0, hz1, hz2⟩ := info_parts Try.infoU8
  rcases Nat.eq_zero_or_pos N with hN0 | hN0
  · subst hN0
    go_enter Try.func37, Try.ntmps37
    go_wp2
    go_ret
    exact ⟨_, rfl, World.ownsRow_nil _ _ _ _, Below.refl _ _⟩
  · have hr := Lib.run_append_nil_zeros (P := Try.prog) w 22 3 22 5 i0 (.int .u8 0) .i64 .i64 Try.underlying22 Try.underlying3 hi0 hz0 N hN0 (by omega) (by omega) (by rw [hz2]; omega)
    have hcap := grownCap_ge w N 0 5
    have hle := grownCap_le_maxLen w N 0 5 (by unfold maxLen; omega)
    have hsz : (Builtin.zeroCells (Value.int .u8 0).cells N ++ Builtin.zeroCells (Value.int .u8 0).cells (grownCap w N 0 5 - N)).size = grownCap w N 0 5 * 1 := by
      rw [Array.size_append, size_zeroCells, size_zeroCells]
      show N * 1 + (grownCap w N 0 5 - N) * 1 = _
      omega
    generalize Builtin.zeroCells (Value.int .u8 0).cells N ++ Builtin.zeroCells (Value.int .u8 0).cells (grownCap w N 0 5 - N) = cs at *
    generalize grownCap w N 0 5 = cap at *
    go_enter Try.func37, Try.ntmps37
    go_wp2_with (at_builtin; refine Lib.wpList_append_run _ rfl _ _ 22 3 rfl _ _ rfl rfl _ _ hr ?_)
    go_wp2
    go_ret
    refine ⟨_, rfl, ⟨rfl, .inr ⟨w.heap.size, cap, cs, rfl, Nat.le_refl _, heap_alloc_new w.drew _, Nat.zero_le _, hle, hsz, rfl⟩⟩, ?_⟩
    exact ((Below.refl _ _).drew).alloc (Nat.le_refl _) _

theorem flatten_take_succ (ls : List (List UInt8)) (j : Nat) (h : j < ls.length) : (ls.take (j + 1)).flatten = (ls.take j).flatten ++ ls[j] := by
  rw [List.take_succ_eq_append_getElem h, List.flatten_append]
  simp
theorem flatten_take_le (ls : List (List UInt8)) (j : Nat) : (ls.take j).flatten.length ≤ ls.flatten.length := by
  have : ls.flatten = (ls.take j).flatten ++ (ls.drop j).flatten := by rw [← List.flatten_append, List.take_append_drop]
  rw [this, List.length_append]
  omega

set_option maxHeartbeats 400000 in
theorem concat_any (A : Option Addr) (n c : Nat) (ls : List (List UInt8)) (w : World) (hn : n ≤ 140737488355328) (hL : ls.flatten.length ≤ 140737488355328) (h : Parts w w.heap.size A n ls) :
    Calls Try.prog 31 #[.slice A n c] w fun e w' => ∃ v, e = .returned v ∧ w'.ownsRow w.heap.size 5 1 v ls.flatten.length (u8s ls.flatten) ∧ Below w.heap.size w w' := by
  obtain ⟨i0, hi0, hz0, hz1, hz2⟩ := info_parts Try.infoU8
  have Hl := Lib.hid h.1
  have Hp := Lib.hid h.2
  have HP := Lib.hid h
  obtain ⟨L, hLe⟩ : ∃ L, ls.flatten.length = L := ⟨_, rfl⟩
  have hL' : L ≤ 140737488355328 := by omega
  have Hg := Lib.hid (grow_any L w hL')
  clear h
  go_enter Try.func31, Try.ntmps31
  go_wp2
  go_loopg [3, 11] n (fun g r i wr => ∃ (k : Nat), i = .int .i64 k ∧ k + g = n ∧ r = .int .i64 ((ls.take k).flatten.length : Nat) ∧ w = wr)
  case atStart => exact ⟨0, rfl, by omega, rfl, rfl⟩
  case round =>
    obtain ⟨k, rfl, hk, rfl, rfl⟩ := hrel
    by_cases hkn : k < n
    · obtain ⟨b, o, A', n', c', rfl, _, hcell, hn', hc', hrd⟩ := Hp.out k (by rw [Hl.out]; exact hkn)
      have Hnext := Lib.hid (flatten_take_succ ls k (by rw [Hl.out]; exact hkn))
      have hle := flatten_take_le ls (k + 1)
      have hlen := congrArg List.length Hnext.out
      rw [List.length_append, hrd.1] at hlen
      clear hrd
      generalize hge : (ls.take k).flatten.length = m at *
      go_wp2
      go_roundg (gk - 1)
      case measure => omega
      case rel => exact ⟨k + 1, by go_num, by omega, by rw [hlen]; go_num, rfl⟩
    · have hk2 : k = n := by omega
      subst hk2
      have hf : ls.take k = ls := List.take_of_length_le (by rw [Hl.out]; omega)
      rw [hf]
      have HLe : Hid (ls.flatten.length = L) := Lib.hid hLe
      rw [hLe]
      clear hf
      go_wp2_with fail
      refine (Hg.out).mono ?_
      rintro e w1 ⟨v, rfl, hown, hb⟩
      have Ho := Lib.hid hown
      have Hb := Lib.hid hb
      clear hown hb Hg
      go_wp2
      go_loopg [6, 27] k (fun g v i wr => ∃ (j : Nat), i = .int .i64 j ∧ j + g = k ∧ Hid (wr.ownsRow w.heap.size 5 1 v (ls.take j).flatten.length (u8s (ls.take j).flatten)) ∧ Hid (Below w.heap.size w wr))
      case atStart => exact ⟨0, rfl, by omega, Ho, Hb⟩
      case round =>
        obtain ⟨j, rfl, hj, Hj, Bj⟩ := hrel
        by_cases hjk : j < k
        · obtain ⟨b, o, A', n', c', rfl, _, hcell, hn', hc', hrd⟩ := (HP.out.below Bj.out).2 j (by rw [Hl.out]; exact hjk)
          have Hnext := Lib.hid (flatten_take_succ ls j (by rw [Hl.out]; exact hjk))
          have hle := flatten_take_le ls (j + 1)
          generalize hxe : ls[j]'(by rw [Hl.out]; exact hjk) = lj at Hnext hrd
          have hlen := congrArg List.length Hnext.out
          rw [List.length_append, hrd.1] at hlen
          have Hlen := Lib.hid hlen
          have hsz := Bj.out.size
          have hA' := hrd.none_zero
          have Hr := Lib.hid hrd
          have hm1 : (ls.take j).flatten.length + n' ≤ 140737488355328 := by omega
          clear hrd hle
          obtain ⟨Aj, cj, rfl, _⟩ := own_shape Hj.out
          generalize hge : (ls.take j).flatten.length = m at *
          go_wp2_with (at_builtin; (refine wpList_append_app _ rfl _ _ 22 rfl w.heap.size 5 i0 (.int .u8 0) 1 1 Try.underlying22 hi0 hz0 hz1 hz2 rfl _ _ _ rfl Hj.out A' n' c' (u8s lj) rfl (by rw [u8s_len, Hr.out.1, Nat.mul_one]) hA' Hr.out.cells (u8s_one _) (by unfold maxLen; omega) (by omega) hsz ?_))
          intro v' w2 ha
          have Ho2 : Hid (w2.ownsRow w.heap.size 5 1 v' (ls.take (j + 1)).flatten.length (u8s (ls.take (j + 1)).flatten)) := Lib.hid (by
            have := ha.own
            rw [← u8s_append, ← Hnext.out, ← hlen] at this
            exact this)
          have Hb2 := Lib.hid (ha.below Bj.out hsz (own_block_ge Hj.out))
          clear ha
          go_wp2
          go_roundg (gk - 1)
          case measure => omega
          case rel => exact ⟨j + 1, by go_num, by omega, Ho2, Hb2⟩
        · have hj2 : j = k := by omega
          subst hj2
          have hf : ls.take j = ls := List.take_of_length_le (by rw [Hl.out]; omega)
          rw [hf] at Hj
          go_wp2
          go_ret
          exact ⟨_, rfl, Hj.out, Bj.out⟩
end Go.Proofs.Ytbkbmmpcjpkkaaa
