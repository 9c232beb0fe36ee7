/- math/bits.Len64 and bin.uintBytes answer how many bits, and how many bytes of a form, a number has. -/
import Derived.Shelf.Strconv.Itoa0
import Derived.Test.YtgippbbbfpkhhaaProg
import Derived.Test.YtgippbbbfpkhhaaWords
import Derived.Test.YtgippbbbfpkhhaaNums
namespace Go.Proofs.Ytgippbbbfpkhhaa
open Go.RowKit Go.Shelf

def ren129 : Ren := ⟨fun | 129 => 69 | n => n, fun | 53 => 32 | 3 => 3 | 4 => 4 | 46 => 62 | 5 => 5 | 9 => 9 | n => n, fun | n => n⟩
theorem lays129 : Lays.n129 Try.prog ren129 := {
  mixed := by kernel_rfl
  f129 := Try.func69.trans (congrArg some (by kernel_rfl))
  t3 := Try.underlying3
  a3 := Try.isAgg3
  z3 := Try.sizeOf3
  v3 := Try.zeroValue3
  t4 := Try.underlying4
  a4 := Try.isAgg4
  z4 := Try.sizeOf4
  v4 := Try.zeroValue4
  t5 := Try.underlying5
  a5 := Try.isAgg5
  z5 := Try.sizeOf5
  v5 := Try.zeroValue5
  t9 := Try.underlying9
  a9 := Try.isAgg9
  z9 := Try.sizeOf9
  v9 := Try.zeroValue9
  t46 := Try.underlying62
  a46 := Try.isAgg62
  z46 := Try.sizeOf62
  v46 := Try.zeroValue62
  t53 := Try.underlying32
  a53 := Try.isAgg32
  z53 := Try.sizeOf32
  v53 := Try.zeroValue32 }

theorem len64_any (n : Int) (w : World) (h0 : 0 ≤ n) (h1 : n ≤ 18446744073709551615) :
    Calls Try.prog 69 #[.int .u64 n] w fun e w' => e = .returned (.int .i64 (Lib.bitLen n.toNat)) ∧ w = w' :=
  (Any.bits_Len64 lays129 n w h0 h1).mono fun _ _ ⟨h, k⟩ => ⟨h, k.symm⟩

set_option maxHeartbeats 1000000 in
set_option maxRecDepth 100000 in
theorem uintBytes_any (n : Nat) (w : World) (hn : n < 18446744073709551616) :
    Calls Try.prog 59 #[.int .u64 n] w fun e w' => e = .returned (.int .i64 (Lib.uvarint n).length) ∧ w = w' := by
  have Hlen := Lib.hid (uvarint_len_eq n hn)
  have hor := u64_or_one n hn
  have h1 := or_one_lt n hn
  have h2 := bitLen_le64 (n ||| 1) h1
  clear hn
  generalize (n ||| 1) = m at *
  go_enter Try.func59, Try.ntmps59
  go_wp2_with fail
  refine (len64_any _ _ (by omega) (by omega)).mono ?_
  rintro e w' ⟨rfl, rfl⟩
  rw [Int.toNat_natCast]
  clear hor
  have Hm := Lib.hid h1
  clear h1
  generalize Lib.bitLen m = k at *
  go_wp2
  go_ret
  refine ⟨?_, rfl⟩
  rw [Hlen.out]
  simp
  omega
end Go.Proofs.Ytgippbbbfpkhhaa
