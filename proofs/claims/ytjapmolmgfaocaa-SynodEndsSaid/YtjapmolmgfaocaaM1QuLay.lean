/- Of the proofs of layer 4, merged: QuLay. -/
import Derived.Shelf.SlicesE.DeleteFunc
import Derived.Test.YtjapmolmgfaocaaProg

/- Functions of the library as they stand in this program: the bodies that the library's contracts speak of. -/
namespace Go.Proofs.Ytjapmolmgfaocaa
open Go.Shelf
def layDf_ren : Go.Shelf.Ren := ⟨fun | 10 => 79 | 6 => 81 | n => n, fun | 22 => 133 | 23 => 106 | 25 => 138 | 3 => 3 | 4 => 4 | 0 => 0 | n => n, fun | n => n⟩
theorem layDf : Go.Proofs.SlLaysH.n10 Try.prog layDf_ren := {
  mixed := by kernel_rfl
  f6 := ⟨Try.f81.name, by decide, Try.func81.trans (congrArg some (by kernel_rfl))⟩
  f10 := ⟨Try.f79.name, by decide, Try.func79.trans (congrArg some (by kernel_rfl))⟩
  t0 := Try.underlying0
  a0 := Try.isAgg0
  z0 := Try.sizeOf0
  v0 := Try.zeroValue0
  t3 := Try.underlying3
  a3 := Try.isAgg3
  z3 := Try.sizeOf3
  v3 := Try.zeroValue3
  t4 := Try.underlying4
  a4 := Try.isAgg4
  z4 := Try.sizeOf4
  v4 := Try.zeroValue4
  t22 := Try.underlying133
  a22 := Try.isAgg133
  z22 := Try.sizeOf133
  v22 := Try.zeroValue133
  a23 := Try.isAgg106
  z23 := Try.sizeOf106
  t25 := Try.underlying138
  a25 := Try.isAgg138
  z25 := Try.sizeOf138
  v25 := Try.zeroValue138 }
def layCf_ren : Go.Shelf.Ren := ⟨fun | 8 => 61 | 6 => 69 | n => n, fun | 22 => 22 | 23 => 3 | 25 => 54 | 4 => 4 | 3 => 3 | 0 => 0 | n => n, fun | n => n⟩
theorem layCf : Go.Proofs.SlLaysH.n8 Try.prog layCf_ren := {
  mixed := by kernel_rfl
  f6 := ⟨Try.f69.name, by decide, Try.func69.trans (congrArg some (by kernel_rfl))⟩
  f8 := ⟨Try.f61.name, by decide, Try.func61.trans (congrArg some (by kernel_rfl))⟩
  t0 := Try.underlying0
  a0 := Try.isAgg0
  z0 := Try.sizeOf0
  v0 := Try.zeroValue0
  t3 := Try.underlying3
  a3 := Try.isAgg3
  z3 := Try.sizeOf3
  v3 := Try.zeroValue3
  t4 := Try.underlying4
  a4 := Try.isAgg4
  z4 := Try.sizeOf4
  v4 := Try.zeroValue4
  t22 := Try.underlying22
  a22 := Try.isAgg22
  z22 := Try.sizeOf22
  v22 := Try.zeroValue22
  a23 := Try.isAgg3
  z23 := Try.sizeOf3
  t25 := Try.underlying54
  a25 := Try.isAgg54
  z25 := Try.sizeOf54
  v25 := Try.zeroValue54 }
end Go.Proofs.Ytjapmolmgfaocaa
