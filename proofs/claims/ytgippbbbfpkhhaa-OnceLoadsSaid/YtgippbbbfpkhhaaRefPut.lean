/- ref01.PutUint answers the number's form. -/
import Derived.Test.YtgippbbbfpkhhaaProg
import Derived.Test.YtgippbbbfpkhhaaAppend
import Derived.Lib.VarintMem
import Derived.Maps.AppendAt
namespace Go.Proofs.Ytgippbbbfpkhhaa
open Go.RowKit
theorem Try.infoU8 : (Try.prog.info? 5).map (fun i => (i.zero, i.size, i.bytes)) = some (some (.int .u8 0), 1, 1) := by kernel_rfl

theorem u8s_one_of (k : Nat) (h : k < 256) : u8s [k.toUInt8] = [.int .u8 (k : Int)] := by
  simp [u8s, Lib.toUInt8_toNat h]
theorem cell_new1 (w : World) (x : Value) (t : TypeId) : ∀ a, (some ⟨w.heap.size, 0, none⟩ : Option Addr) = some a → ∀ j u, [x][j]? = some u → (w.alloc (.cells #[x] t)).cell? (a.add j) = some u := by
  intro a ha; obtain rfl := Option.some.inj ha; exact cell_one_new w x t

set_option maxHeartbeats 4000000 in
set_option maxRecDepth 100000 in
theorem refPut_any (n : Nat) (w : World) (hn : n < 18446744073709551616) :
    Calls Try.prog 41 #[.int .u64 n] w fun e w' => ∃ v, e = .returned v ∧ w'.ownsRow w.heap.size 5 1 v (Lib.uvarint n).length (u8s (Lib.uvarint n)) ∧ Below w.heap.size w w' := by
  obtain ⟨i0, hi0, hz0, hz1, hz2⟩ := info_parts Try.infoU8
  have hlen := Lib.uvarint_length64 hn
  go_enter Try.func41, Try.ntmps41
  go_wp2
  go_loopw [0, 3] (fun a b wr => ∃ (m : Nat) (pre : List UInt8) (v : Value), a = .int .u64 m ∧ b = v ∧ m ≤ n ∧ Lib.uvarint n = pre ++ Lib.uvarint m ∧ wr.ownsRow w.heap.size 5 1 v pre.length (u8s pre) ∧ Below w.heap.size w wr)
    (fun a _ _ => (intOf a).toNat)
  case atStart => exact ⟨n, [], _, rfl, rfl, Nat.le_refl _, rfl, World.ownsRow_nil _ _ _ _, Below.refl _ _⟩
  case round =>
    obtain ⟨m, pre, v, rfl, rfl, hm, he, hown, hb⟩ := hrel
    have hpl : pre.length + (Lib.uvarint m).length ≤ 10 := by
      have h2 := congrArg List.length he
      rw [List.length_append] at h2
      omega
    have hyp := Lib.uvarint_pos m
    have hsz := hb.size
    have He := Lib.hid he
    clear he
    by_cases h128 : 128 ≤ m
    · go_wp2_with (at_builtin; refine wpList_append_app _ rfl _ _ 33 rfl w.heap.size 5 i0 (.int .u8 0) 1 1 Try.underlying33 hi0 hz0 hz1 hz2 rfl _ _ _ rfl (hown.alloc _) (some ⟨wr.heap.size, 0, none⟩) 1 1 [Value.int .u8 ((m % 128 + 128 : Nat) : Int)] rfl rfl (by intro h; cases h) (cell_new1 _ _ _) (by intro u hu; simp at hu; subst hu; rfl) (by unfold maxLen; omega) (by omega) (by simp; omega) ?_)
      intro v' w1 ha
      have hb1 := ha.below (hb.alloc hsz _) (by simp; omega) (own_block_ge hown)
      go_wp2
      go_roundw
      case rel =>
        refine ⟨m / 128, pre ++ [(m % 128 + 128).toUInt8], _, by go_num, rfl, by omega, by rw [He.out, Lib.uvarint_big h128]; simp, ?_, hb1⟩
        have := ha.own
        rw [u8s_append, u8s_one_of _ (by omega)]
        simpa using this
      case measure => simp [intOf]; omega
    · have hsm : Lib.uvarint m = [m.toUInt8] := Lib.uvarint_small (by omega)
      have Hsm := Lib.hid hsm
      clear hsm
      go_wp2_with (at_builtin; refine wpList_append_app _ rfl _ _ 33 rfl w.heap.size 5 i0 (.int .u8 0) 1 1 Try.underlying33 hi0 hz0 hz1 hz2 rfl _ _ _ rfl (hown.alloc _) (some ⟨wr.heap.size, 0, none⟩) 1 1 [Value.int .u8 (m : Int)] rfl rfl (by intro h; cases h) (cell_new1 _ _ _) (by intro u hu; simp at hu; subst hu; rfl) (by unfold maxLen; omega) (by omega) (by simp; omega) ?_)
      intro v' w1 ha
      have hb1 := ha.below (hb.alloc hsz _) (by simp; omega) (own_block_ge hown)
      go_wp2
      go_ret
      refine ⟨v', rfl, ?_, hb1⟩
      have := ha.own
      rw [He.out, Hsm.out, u8s_append, u8s_one_of _ (by omega)]
      simpa using this
end Go.Proofs.Ytgippbbbfpkhhaa
