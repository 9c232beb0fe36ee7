/- Of the proofs of layer 4, merged: PutMore. -/
import Derived.Test.YtfghbhjljbdlmaaM1BinPut
import Derived.Lib.Zigzag

/- PutInt and PutFixed, the program's and the document's. -/
namespace Go.Proofs.Ytfghbhjljbdlmaa
open Go.RowKit

/-- A number's four bytes. -/
def fixed4 (n : Nat) : List UInt8 := [(n / 16777216).toUInt8, (n / 65536 % 256).toUInt8, (n / 256 % 256).toUInt8, (n % 256).toUInt8]
theorem fixed4_cells (n : Nat) (h : n < 4294967296) : u8s (fixed4 n) = [.int .u8 ((n : Int) / 16777216), .int .u8 ((n : Int) / 65536 % 256), .int .u8 ((n : Int) / 256 % 256), .int .u8 ((n : Int) % 256)] := by
  have e1 : ((n / 16777216 : Nat) : Int) = (n : Int) / 16777216 := by omega
  have e2 : ((n / 65536 % 256 : Nat) : Int) = (n : Int) / 65536 % 256 := by omega
  have e3 : ((n / 256 % 256 : Nat) : Int) = (n : Int) / 256 % 256 := by omega
  have e4 : ((n % 256 : Nat) : Int) = (n : Int) % 256 := by omega
  unfold fixed4 u8s
  rw [List.map_cons, List.map_cons, List.map_cons, List.map_cons, List.map_nil, Lib.toUInt8_toNat (by omega), Lib.toUInt8_toNat (by omega), Lib.toUInt8_toNat (by omega), Lib.toUInt8_toNat (by omega), e1, e2, e3, e4]

theorem own_lit (w : World) (e : TypeId) (xs : List Value) (k : Nat) (h : xs.length = k) (hk : k ≤ maxLen) : (w.alloc (.cells xs.toArray e)).ownsRow w.heap.size e 1 (.slice (some ⟨w.heap.size, 0, none⟩) k k) k xs :=
  World.ownsRow_lit w xs.toArray k (Nat.le_refl _) hk (by simp [h])

set_option maxHeartbeats 4000000 in
set_option maxRecDepth 100000 in
theorem binPutFixed_any (n : Nat) (w : World) (h1 : n < 4294967296) :
    Calls Try.prog 100 #[.int .u32 n] w fun e w' => ∃ v, e = .returned v ∧ w'.ownsRow w.heap.size 5 1 v 4 (u8s (fixed4 n)) ∧ Below w.heap.size w w' := by
  have Hf := Lib.hid (fixed4_cells n h1)
  go_enter Try.func100, Try.ntmps100
  go_wp2
  go_ret
  refine ⟨_, rfl, ?_, (Below.refl _ _).alloc (Nat.le_refl _) _⟩
  rw [Hf.out]
  exact own_lit w 5 _ 4 rfl (by simp [maxLen])

set_option maxHeartbeats 4000000 in
set_option maxRecDepth 100000 in
theorem refPutFixed_any (n : Nat) (w : World) (h1 : n < 4294967296) :
    Calls Try.prog 104 #[.int .u32 n] w fun e w' => ∃ v, e = .returned v ∧ w'.ownsRow w.heap.size 5 1 v 4 (u8s (fixed4 n)) ∧ Below w.heap.size w w' := by
  have Hf := Lib.hid (fixed4_cells n h1)
  go_enter Try.func104, Try.ntmps104
  go_wp2
  go_ret
  refine ⟨_, rfl, ?_, (Below.refl _ _).alloc (Nat.le_refl _) _⟩
  rw [Hf.out]
  exact own_lit w 5 _ 4 rfl (by simp [maxLen])
end Go.Proofs.Ytfghbhjljbdlmaa
