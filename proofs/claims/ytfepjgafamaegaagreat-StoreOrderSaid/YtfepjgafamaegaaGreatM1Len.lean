/- Of the proofs of layer 4, merged: Len. -/
import Derived.Shelf.Strconv.Itoa0
import Derived.Test.YtfepjgafamaegaaGreatProg
import Derived.Test.YtfepjgafamaegaaGreatMWords
import Derived.Test.YtfepjgafamaegaaGreatMNums

/- math/bits.Len64 and bin.uintBytes answer how many bits, and how many bytes of a form, a number has. -/
namespace Go.Proofs.YtfepjgafamaegaaGreat
open Go.RowKit Go.Shelf

def ren129 : Ren := ⟨fun | 129 => 117 | n => n, fun | 53 => 66 | 3 => 3 | 4 => 4 | 46 => 148 | 5 => 5 | 9 => 9 | n => n, fun | n => n⟩
theorem lays129 : Lays.n129 Tryz.prog ren129 := {
  mixed := by kernel_rfl
  f129 := Tryz.func117.trans (congrArg some (by kernel_rfl))
  t3 := Tryz.underlying3
  a3 := Tryz.isAgg3
  z3 := Tryz.sizeOf3
  v3 := Tryz.zeroValue3
  t4 := Tryz.underlying4
  a4 := Tryz.isAgg4
  z4 := Tryz.sizeOf4
  v4 := Tryz.zeroValue4
  t5 := Tryz.underlying5
  a5 := Tryz.isAgg5
  z5 := Tryz.sizeOf5
  v5 := Tryz.zeroValue5
  t9 := Tryz.underlying9
  a9 := Tryz.isAgg9
  z9 := Tryz.sizeOf9
  v9 := Tryz.zeroValue9
  t46 := Tryz.underlying148
  a46 := Tryz.isAgg148
  z46 := Tryz.sizeOf148
  v46 := Tryz.zeroValue148
  t53 := Tryz.underlying66
  a53 := Tryz.isAgg66
  z53 := Tryz.sizeOf66
  v53 := Tryz.zeroValue66 }

theorem len64_any (n : Int) (w : World) (h0 : 0 ≤ n) (h1 : n ≤ 18446744073709551615) :
    Calls Tryz.prog 117 #[.int .u64 n] w fun e w' => e = .returned (.int .i64 (Lib.bitLen n.toNat)) ∧ w = w' :=
  (Any.bits_Len64 lays129 n w h0 h1).mono fun _ _ ⟨h, k⟩ => ⟨h, k.symm⟩

set_option maxHeartbeats 1000000 in
set_option maxRecDepth 100000 in
theorem uintBytes_any (n : Nat) (w : World) (hn : n < 18446744073709551616) :
    Calls Tryz.prog 83 #[.int .u64 n] w fun e w' => e = .returned (.int .i64 (Lib.uvarint n).length) ∧ w = w' := by
  have Hlen := Lib.hid (uvarint_len_eq n hn)
  have hor := u64_or_one n hn
  have h1 := or_one_lt n hn
  have h2 := bitLen_le64 (n ||| 1) h1
  clear hn
  generalize (n ||| 1) = m at *
  go_enter Tryz.func83, Tryz.ntmps83
  go_wp2_with fail
  refine (len64_any _ _ (by omega) (by omega)).mono ?_
  rintro e w' ⟨rfl, rfl⟩
  rw [Int.toNat_natCast]
  clear hor
  have Hm := Lib.hid h1
  clear h1
  generalize Lib.bitLen m = k at *
  go_wp2
  go_ret
  refine ⟨?_, rfl⟩
  rw [Hlen.out]
  simp
  omega
end Go.Proofs.YtfepjgafamaegaaGreat
