/- Functions of the library as they stand in this program: the bodies that the library's contracts speak of. -/
import Derived.Shelf.SlicesE.DeleteFunc
import Derived.Test.YtmdjdnibblebcaaDoorProg
namespace Go.Proofs.YtmdjdnibblebcaaDoor
open Go.Shelf
def layCf_ren : Go.Shelf.Ren := ⟨fun | 8 => 29 | 6 => 37 | n => n, fun | 22 => 22 | 23 => 3 | 25 => 46 | 4 => 4 | 3 => 3 | 0 => 0 | n => n, fun | n => n⟩
theorem layCf : Go.Proofs.SlLaysH.n8 Tryd.prog layCf_ren := {
  mixed := by kernel_rfl
  f6 := ⟨Tryd.f37.name, by decide, Tryd.func37.trans (congrArg some (by kernel_rfl))⟩
  f8 := ⟨Tryd.f29.name, by decide, Tryd.func29.trans (congrArg some (by kernel_rfl))⟩
  t0 := Tryd.underlying0
  a0 := Tryd.isAgg0
  z0 := Tryd.sizeOf0
  v0 := Tryd.zeroValue0
  t3 := Tryd.underlying3
  a3 := Tryd.isAgg3
  z3 := Tryd.sizeOf3
  v3 := Tryd.zeroValue3
  t4 := Tryd.underlying4
  a4 := Tryd.isAgg4
  z4 := Tryd.sizeOf4
  v4 := Tryd.zeroValue4
  t22 := Tryd.underlying22
  a22 := Tryd.isAgg22
  z22 := Tryd.sizeOf22
  v22 := Tryd.zeroValue22
  a23 := Tryd.isAgg3
  z23 := Tryd.sizeOf3
  t25 := Tryd.underlying46
  a25 := Tryd.isAgg46
  z25 := Tryd.sizeOf46
  v25 := Tryd.zeroValue46 }
end Go.Proofs.YtmdjdnibblebcaaDoor
