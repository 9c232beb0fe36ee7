/- Layer 14: the library's table of trailing zeros, where it lies. -/
import Derived.Test.YtmdjdnibblebcaaDoorFoot
import Derived.Test.YtmdjdnibblebcaaDoorBtLay
namespace Go.Proofs.YtmdjdnibblebcaaDoor
open Go.RowKit
/-- The table lies where the program's text lays it. -/
def Tz (w : World) : Prop := TabAt 0 Lib.deBruijn32tab w
theorem Tz.lt {w : World} (h : Tz w) : 0 < w.heap.size := World.block_lt_of_cell? w ⟨0, 0, none⟩ (h 0 (by decide))
theorem Tz.kp {w w' : World} {F : Nat → Prop} (h : Tz w) (hk : Kp F w w') (hF : ¬ F 0) : Tz w' := fun j hj => cell_kp (p := ⟨0, j, none⟩) (h j hj) hk hF
theorem Tz.below {w w' : World} (h : Tz w) {B : Nat} (hb : Below B w w') (hB : 0 < B) : Tz w' := fun j hj => (World.cell?_of_block (a := ⟨0, j, none⟩) (hb.block _ hB)).trans (h j hj)
theorem tz_any (x : Nat) (hx : x < 4294967296) (w : World) (h : Tz w) : Calls Tryd.prog 31 #[.int .u32 (x : Int)] w fun e w' => e = .returned (.int .i64 (Lib.ctz 32 x : Nat)) ∧ w' = w :=
  Any7.bits_TrailingZeros32 layTz x hx w fun _ => h
end Go.Proofs.YtmdjdnibblebcaaDoor
