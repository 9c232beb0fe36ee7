/- Layer 3's law: row, a sector of rising bytes. -/
import Derived.Test.YtmjffikdaejffaaProg
import Derived.Test.YtmjffikdaejffaaAppend2
import Derived.Test.YtmjffikdaejffaaRefPut
import Derived.Deep.LoopGhost
namespace Go.Proofs.Ytmjffikdaejffaa
open Go.RowKit

/-- How many bytes row makes. -/
def rowLen (less : Int) : Nat := if 1 ≤ less ∧ less ≤ 32 then (32 - less).toNat else 32
theorem rowLen_le (less : Int) : rowLen less ≤ 32 := by unfold rowLen; split <;> omega
theorem rowLen_zero : rowLen 0 = 32 := rfl
def rowB (fill : UInt8) (n : Nat) : List UInt8 := (List.range n).map fun i => fill + UInt8.ofNat i
theorem rowB_len (fill : UInt8) (n : Nat) : (rowB fill n).length = n := by simp [rowB]
theorem rowB_succ (fill : UInt8) (n : Nat) : rowB fill (n + 1) = rowB fill n ++ [fill + UInt8.ofNat n] := by simp [rowB, List.range_succ]
theorem rowB_val (fill : UInt8) (n : Nat) : (((fill + UInt8.ofNat n).toNat : Nat) : Int) = ((fill.toNat : Int) + (n : Int)) % 256 := by
  rw [UInt8.toNat_add, UInt8.toNat_ofNat']
  omega

def RowPost (w : World) (l : List UInt8) (e : Ending) (w' : World) : Prop := ∃ A c, e = .returned (.slice A l.length c) ∧ w'.ownsRow w.heap.size 5 1 (.slice A l.length c) l.length (u8s l) ∧ Below w.heap.size w w'

set_option maxHeartbeats 1000000 in
theorem row_any (fill : UInt8) (less : Int) (w : World) (hl1 : -9223372036854775808 ≤ less) (hl2 : less ≤ 9223372036854775807) :
    Calls Try.prog 14 #[.int .u8 (fill.toNat : Int), .int .i64 less] w (RowPost w (rowB fill (rowLen less))) := by
  obtain ⟨i0, hi0, hz0, hz1, hz2⟩ := info_parts Try.infoU8
  have hx := u8_lt fill
  have hn32 := rowLen_le less
  have hw : ∀ k : Nat, k < rowLen less → ¬ ((k : Int) = IntKind.i64.wrap (32 - less)) := fun k hk => by
    rw [IntKind.wrap_i64]
    unfold rowLen at hk
    split at hk <;> omega
  have hw2 : rowLen less < 32 → IntKind.i64.wrap (32 - less) = (rowLen less : Int) := fun h => by
    rw [IntKind.wrap_i64]
    unfold rowLen at h ⊢
    split at h
    · rename_i hc
      rw [if_pos hc]
      omega
    · omega
  generalize hn : rowLen less = n at *
  have Hw := Lib.hid hw
  have Hw2 := Lib.hid hw2
  clear hw hw2 hn
  generalize hW : IntKind.i64.wrap (32 - less) = W at *
  have HW := Lib.hid hW
  clear hW
  go_enter Try.func14, Try.ntmps14
  go_wp2
  go_loopg [5, 6] n (fun g v i wr => ∃ k : Nat, i = .int .i64 k ∧ k + g = n ∧ Hid (wr.ownsRow w.heap.size 5 1 v k (u8s (rowB fill k)) ∧ Below w.heap.size w wr))
  case atStart => exact ⟨0, rfl, by omega, ⟨World.ownsRow_nil _ _ _ _, Below.refl _ _⟩⟩
  case round =>
    obtain ⟨k, rfl, hk, HR⟩ := hrel
    obtain ⟨hown, hb⟩ := HR.out
    have hsz := hb.size
    by_cases hkn : k < n
    · have hk32 : k < 32 := by omega
      have hne := Hw.out k hkn
      rw [← HW.out] at hne
      have hval := rowB_val fill k
      have hsucc := rowB_succ fill k
      have Hsucc := Lib.hid hsucc
      have Hval := Lib.hid hval
      have hne' : ((k : Int) != wrap64 (32 - less)) = true := by
        have : IntKind.i64.wrap (32 - less) = wrap64 (32 - less) := by rw [IntKind.wrap_i64]; unfold wrap64; omega
        rw [← this]
        simpa using hne
      clear hsucc hval HR hne
      go_wp2_with (at_builtin; refine wpList_append_app _ rfl _ _ 37 rfl w.heap.size 5 i0 (.int .u8 0) 1 1 Try.underlying37 hi0 hz0 hz1 hz2 rfl _ _ _ rfl (hown.alloc _) (some ⟨wr.heap.size, 0, none⟩) 1 1 [Value.int .u8 (((fill.toNat : Int) + (k : Int)) % 256)] rfl rfl (by intro h; cases h) (cell_new1 _ _ _) (by intro u hu; simp at hu; subst hu; rfl) (by unfold maxLen; omega) (by omega) (by simp; omega) ?_)
      intro v' w1 ha
      have hb1 := ha.below (hb.alloc hsz _) (by simp; omega) (own_block_ge hown)
      have ho := ha.own
      have HF : Hid (w1.ownsRow w.heap.size 5 1 v' (k + 1) (u8s (rowB fill (k + 1))) ∧ Below w.heap.size w w1) := by
        refine ⟨?_, hb1⟩
        rw [Hsucc.out, u8s_append]
        have e : u8s [fill + UInt8.ofNat k] = [Value.int .u8 (((fill.toNat : Int) + (k : Int)) % 256)] := by rw [← Hval.out]; rfl
        rw [e]
        exact ho
      clear ha hb1 ho hown hb
      go_wp2
      go_roundg (gk - 1)
      case measure => omega
      case rel => exact ⟨k + 1, by go_num, by omega, HF.out⟩
    · obtain rfl : k = n := by omega
      obtain ⟨A, c, rfl, _⟩ := own_shape hown
      have HF : Hid (wr.ownsRow w.heap.size 5 1 (.slice A k c) k (u8s (rowB fill k)) ∧ Below w.heap.size w wr) := ⟨hown, hb⟩
      clear hown hb HR
      by_cases h32 : k < 32
      · have he := Hw2.out h32
        rw [← HW.out] at he
        have he' : ((k : Int) != wrap64 (32 - less)) = false := by
          have : IntKind.i64.wrap (32 - less) = wrap64 (32 - less) := by rw [IntKind.wrap_i64]; unfold wrap64; omega
          rw [← this, he]
          simp
        clear he
        go_wp2
        go_ret
        refine ⟨A, c, by rw [rowB_len]; rfl, ?_, HF.out.2⟩
        rw [rowB_len]
        exact HF.out.1
      · go_wp2
        go_ret
        refine ⟨A, c, by rw [rowB_len]; rfl, ?_, HF.out.2⟩
        rw [rowB_len]
        exact HF.out.1
end Go.Proofs.Ytmjffikdaejffaa
