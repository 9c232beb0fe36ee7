/- Layer 10's laws: two rows of one vote each that are the same. -/
import Derived.Test.YthkkkldkpdkabaaProS
import Derived.BigQuiet
import Derived.Deep.QuietTactic
namespace Go.Proofs.Ythkkkldkpdkabaa
open Go.RowKit Go.Maps

set_option maxRecDepth 100000 in
set_option maxHeartbeats 4000000 in
theorem same09_one (gA gB s bn : Nat) (bd : Int) (xA yA : Option Addr) (xc yc B1 B2 : Nat) (l : List UInt8) (w : World) (hA : Bk w gA 48 #[.int .u64 (s : Int), .int .u64 (bn : Int), .int .i64 bd, .slice xA l.length xc]) (hB : Bk w gB 48 #[.int .u64 (s : Int), .int .u64 (bn : Int), .int .i64 bd, .slice yA l.length yc])
    (hx : Rd w B1 xA l.length l) (hy : Rd w B2 yA l.length l) : Calls Try.prog 27 #[.slice (some ⟨gA, 0, none⟩) 1 1, .slice (some ⟨gB, 0, none⟩) 1 1] w fun e w' => e = .returned (.bool true) ∧ Below w.heap.size w w' := by
  have a0 : w.cell? ⟨gA, 0, none⟩ = some (.int .u64 (s : Int)) := hA.cell 0
  have a1 : w.cell? ⟨gA, 1, none⟩ = some (.int .u64 (bn : Int)) := hA.cell 1
  have a2 : w.cell? ⟨gA, 2, none⟩ = some (.int .i64 bd) := hA.cell 2
  have a3 : w.cell? ⟨gA, 3, none⟩ = some (.slice xA l.length xc) := hA.cell 3
  have b0 : w.cell? ⟨gB, 0, none⟩ = some (.int .u64 (s : Int)) := hB.cell 0
  have b1 : w.cell? ⟨gB, 1, none⟩ = some (.int .u64 (bn : Int)) := hB.cell 1
  have b2 : w.cell? ⟨gB, 2, none⟩ = some (.int .i64 bd) := hB.cell 2
  have b3 : w.cell? ⟨gB, 3, none⟩ = some (.slice yA l.length yc) := hB.cell 3
  have k1 : ∀ q, (convert 39 9 (.slice xA l.length xc)).run Try.prog (w.drewN q) = .ok (.string ⟨l.toArray⟩) (w.drewN q) := fun q => (hx.drewN q).str Try.underlying39 Try.underlying5 Try.underlying9 xc
  have k2 : ∀ q, (convert 39 9 (.slice yA l.length yc)).run Try.prog (w.drewN q) = .ok (.string ⟨l.toArray⟩) (w.drewN q) := fun q => (hy.drewN q).str Try.underlying39 Try.underlying5 Try.underlying9 yc
  generalize l.length = L at *
  generalize (⟨l.toArray⟩ : ByteArray) = str at *
  clear hA hB hx hy
  go_enter Try.func27, Try.ntmps27
  go_wp2_with fail
  go_loopg [5] 1 (fun gk i wr => (i = .int .i64 0 ∧ gk = 1 ∧ w = wr) ∨ (i = .int .i64 1 ∧ gk = 0 ∧ Hid (Below w.heap.size w wr)))
  case atStart => exact .inl ⟨rfl, rfl, rfl⟩
  case round =>
    rcases hrel with ⟨rfl, rfl, rfl⟩ | ⟨rfl, rfl, HB⟩
    · go_wp2_with fail
      go_quiet (fail)
      go_wp2
      go_roundg 0
      case measure => omega
      case rel => exact .inr ⟨by go_num, rfl, Lib.hid (bel_drewN (Below.refl _ _) _)⟩
    · go_wp2
      go_ret
      exact ⟨rfl, HB.out⟩
end Go.Proofs.Ythkkkldkpdkabaa
