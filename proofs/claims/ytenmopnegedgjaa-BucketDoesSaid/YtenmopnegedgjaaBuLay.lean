/- Functions of the library as they stand in this program: the bodies that the library's contracts speak of. -/
import Derived.Shelf.Bits.Mul64
import Derived.Shelf.Spec.BitsCarry
import Derived.Test.YtenmopnegedgjaaProg
namespace Go.Proofs.Ytenmopnegedgjaa
open Go.Shelf
def layMul_ren : Go.Shelf.Ren := ⟨fun | 264 => 21 | n => n, fun | 53 => 38 | 46 => 41 | n => n, fun | n => n⟩
theorem layMul : Go.Proofs.Lays.n264 Try.prog layMul_ren := {
  mixed := by kernel_rfl
  f264 := Try.func21.trans (congrArg some (by kernel_rfl))
  t46 := Try.underlying41
  a46 := Try.isAgg41
  z46 := Try.sizeOf41
  v46 := Try.zeroValue41
  t53 := Try.underlying38
  a53 := Try.isAgg38
  z53 := Try.sizeOf38
  v53 := Try.zeroValue38 }
def layAdd_ren : Go.Shelf.Ren := ⟨fun | 25 => 22 | n => n, fun | 22 => 38 | n => n, fun | n => n⟩
theorem layAdd : Go.Proofs.Lays7.n25 Try.prog layAdd_ren := {
  mixed := by kernel_rfl
  f25 := Try.func22.trans (congrArg some (by kernel_rfl))
  t22 := Try.underlying38
  a22 := Try.isAgg38
  z22 := Try.sizeOf38
  v22 := Try.zeroValue38
  i22 := by kernel_rfl }
end Go.Proofs.Ytenmopnegedgjaa
