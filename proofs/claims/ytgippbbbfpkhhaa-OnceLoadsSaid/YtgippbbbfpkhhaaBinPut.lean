/- bin.PutUint answers the number's form. -/
import Derived.Test.YtgippbbbfpkhhaaProg
import Derived.Test.YtgippbbbfpkhhaaRefPut
import Derived.Test.YtgippbbbfpkhhaaLen
import Derived.OwnWalk
import Derived.Deep.LoopGhost
namespace Go.Proofs.Ytgippbbbfpkhhaa
open Go.RowKit

theorem madeBytes (n : Nat) : (madeCells #[Value.int .u8 0] n).toList = u8s (List.replicate n 0) := by
  rw [toList_madeCells_one]
  simp [u8s]

set_option maxHeartbeats 4000000 in
set_option maxRecDepth 100000 in
theorem binPut_any (n : Nat) (w : World) (hn : n < 18446744073709551616) :
    Calls Try.prog 39 #[.int .u64 n] w fun e w' => ∃ v, e = .returned v ∧ w'.ownsRow w.heap.size 5 1 v (Lib.uvarint n).length (u8s (Lib.uvarint n)) ∧ Below w.heap.size w w' := by
  obtain ⟨i0, hi0, hz0, hz1, hz2⟩ := info_parts Try.infoU8
  have hlen := Lib.uvarint_length64 hn
  have cub := uintBytes_any n w hn
  have Hc := Lib.hid cub
  clear cub
  have hpos := Lib.uvarint_pos n
  generalize hL : (Lib.uvarint n).length = L at *
  have HL := Lib.hid hL
  clear hL
  go_enter Try.func39, Try.ntmps39
  go_wp2_with fail
  go_step3
  go_wp2_with fail
  refine (Hc.out).mono ?_
  rintro e w' ⟨rfl, rfl⟩
  go_wp2_with (at_make; refine wpList_make_full _ rfl _ _ 33 rfl w.heap.size 5 i0 (.int .u8 0) 1 Try.underlying33 hi0 hz0 hz1 _ _ _ _ L rfl rfl rfl rfl (by rw [hz2]; omega) (by unfold maxLen; omega) (Nat.le_refl _) ?_)
  intro w1 hown hgrow
  rw [madeBytes] at hown
  have hb1 : Below w.heap.size w w1 := (Below.refl _ _).grown hgrow (Nat.le_refl _) (by simp)
  go_wp2
  go_step3
  go_wp2
  go_loopw [0, 4] (fun a b wr => ∃ (m : Nat) (pre rest : List UInt8), a = .int .u64 m ∧ b = .int .i64 pre.length ∧ m ≤ n ∧ Lib.uvarint n = pre ++ Lib.uvarint m ∧ rest.length = (Lib.uvarint m).length ∧
      wr.ownsRow w.heap.size 5 1 (.slice (some ⟨w.heap.size, 0, none⟩) L L) L (u8s (pre ++ rest)) ∧ Below w.heap.size w wr)
    (fun a _ _ => (intOf a).toNat)
  case atStart => exact ⟨n, [], _, rfl, rfl, Nat.le_refl _, rfl, by rw [List.length_replicate, HL.out], hown, hb1⟩
  case round =>
    clear hown hgrow hb1
    obtain ⟨m, pre, rest, rfl, rfl, hm, he, hr, hown, hb⟩ := hrel
    have hyp := Lib.uvarint_pos m
    have hpl : pre.length + (Lib.uvarint m).length = L := by
      have h2 := congrArg List.length he
      rw [List.length_append, HL.out] at h2
      omega
    have hlt : pre.length < L := by omega
    obtain ⟨x0, rest', rfl⟩ : ∃ x r, rest = x :: r := by cases rest with | nil => simp at hr; omega | cons x r => exact ⟨x, r, rfl⟩
    have hcell : wr.cell? ⟨w.heap.size, pre.length, none⟩ = some (.int .u8 (x0.toNat : Int)) := by
      rw [hown.cellAt _ (by omega), u8s_at _ _ (by simp)]
      simp
    have hfr := hown.frozenAt pre.length
    have hset : ∀ y : UInt8, (u8s (pre ++ x0 :: rest')).set pre.length (.int .u8 (y.toNat : Int)) = u8s ((pre ++ [y]) ++ rest') := by
      intro y
      rw [u8s_set]
      simp
    have He := Lib.hid he
    have Hr := Lib.hid hr
    have Hpl := Lib.hid hpl
    clear he hr hpl
    have hx0 := u8_lt x0
    by_cases h128 : m < 128
    · have Hsm := Lib.hid (Lib.uvarint_small h128)
      go_wp2
      rw [Exit.noGoto_ret]
      go_ret
      obtain ⟨h1, h2⟩ := hown.stored pre.length (.int .u8 (m : Int))
      refine ⟨_, rfl, ?_, hb.grown h2 hb.size (by intro k hk; injection hk with hk; omega)⟩
      have hy := hset m.toUInt8
      rw [Lib.toUInt8_toNat (by omega)] at hy
      rw [hy] at h1
      have hr0 : rest' = [] := by
        have := Hr.out
        rw [Hsm.out] at this
        simpa using this
      rw [hr0, List.append_nil] at h1
      rw [He.out, Hsm.out]
      exact h1
    · have Hbig := Lib.hid (Lib.uvarint_big (x := m) (by omega))
      have hor : bits .or .u8 ((m : Int) % 256) 128 = ((m % 128 + 128 : Nat) : Int) := by
        rw [Lib.u8_or128_any _ (by omega) (by omega)]
        omega
      go_wp2
      obtain ⟨h1, h2⟩ := hown.stored pre.length (.int .u8 ((m % 128 + 128 : Nat) : Int))
      go_roundw
      case rel =>
        refine ⟨m / 128, pre ++ [(m % 128 + 128).toUInt8], rest', by go_num, by simp, by omega, by rw [He.out, Hbig.out]; simp, ?_, ?_, ?_⟩
        · have := Hr.out
          rw [Hbig.out] at this
          simpa using this
        · have hy := hset (m % 128 + 128).toUInt8
          rw [Lib.toUInt8_toNat (by omega)] at hy
          rw [hy] at h1
          simpa using h1
        · exact hb.grown (by simpa using h2) hb.size (by intro k hk; injection hk with hk; omega)
      case measure => simp [intOf]; omega
end Go.Proofs.Ytgippbbbfpkhhaa
