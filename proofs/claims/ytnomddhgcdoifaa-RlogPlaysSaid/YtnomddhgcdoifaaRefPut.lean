/- ref01.PutUint answers the number's form. -/
import Derived.Test.YtnomddhgcdoifaaProg
import Derived.Test.YtnomddhgcdoifaaAppend
import Derived.Lib.VarintMem
import Derived.Maps.AppendAt
namespace Go.Proofs.Ytnomddhgcdoifaa
open Go.RowKit
theorem Try.infoU8 : (Try.prog.info? 5).map (fun i => (i.zero, i.size, i.bytes)) = some (some (.int .u8 0), 1, 1) := by kernel_rfl

theorem u8s_one_of (k : Nat) (h : k < 256) : u8s [k.toUInt8] = [.int .u8 (k : Int)] := by
  simp [u8s, Lib.toUInt8_toNat h]
theorem cell_new1 (w : World) (x : Value) (t : TypeId) : ∀ a, (some ⟨w.heap.size, 0, none⟩ : Option Addr) = some a → ∀ j u, [x][j]? = some u → (w.alloc (.cells #[x] t)).cell? (a.add j) = some u := by
  intro a ha; obtain rfl := Option.some.inj ha; exact cell_one_new w x t

end Go.Proofs.Ytnomddhgcdoifaa
