/- A new Reader; and an argument that is a row of acts. -/
import Derived.Test.YtlnbebeghfhfdaaReaderT
import Derived.Test.YtlnbebeghfhfdaaReaderB
namespace Go.Proofs.Ytlnbebeghfhfdaa
open Go.RowKit

set_option maxHeartbeats 400000 in
theorem new_any (A : Option Addr) (n c : Nat) (l : List UInt8) (w : World) (hn : n ≤ 140737488355328) (h : Rd w w.heap.size A n l) :
    Calls Try.prog 33 #[.slice A n c] w fun e w' => ∃ R A' c', e = .returned (.pointer (some ⟨R, 0, none⟩)) ∧ w.heap.size ≤ R ∧ BR w' R l 0 A' n c' ∧ Below w.heap.size w w' ∧ ∀ g w2, g < w.heap.size → w'.grownBy w2 (some g) → BR w2 R l 0 A' n c' := by
  have Hc := Lib.hid (clone_any A n c w.heap.size l w hn (Nat.le_refl _) h)
  have hl := h.1
  clear h
  go_enter Try.func33, Try.ntmps33
  go_wp2_with fail
  refine Hc.out.mono ?_
  rintro e w1 ⟨v, rfl, ho, hb⟩
  obtain ⟨As, cs, rfl, hcs, hcm⟩ := own_shape ho
  have Ho := Lib.hid ho
  have Hb := Lib.hid hb
  clear ho hb
  go_wp2
  go_ret
  have z := Hb.out.size
  have hb2 := below_then Hb.out ((Below.refl w1.heap.size w1).alloc (Nat.le_refl _) (.cells #[.slice As n cs, .int .i64 0] 73))
  have hcap : n ≤ cs ∧ cs ≤ 9223372036854775807 := ⟨hcs, by unfold maxLen at hcm; omega⟩
  refine ⟨w1.heap.size, As, cs, rfl, z, ⟨Bk.new w1 _ _, hcap, (Rd.of_own Ho.out).below ((Below.refl w1.heap.size w1).alloc (Nat.le_refl _) _)⟩, hb2, fun g w2 hg hgr => ?_⟩
  have r1 := Rd.of_own (own_grown (Ho.out.alloc _) hgr hg)
  refine ⟨(Bk.new w1 _ _).grown hgr (by intro e; injection e with e; omega), hcap, r1.1, fun hn => ?_⟩
  obtain ⟨b, o, rfl, _, hcell⟩ := r1.2 hn
  exact ⟨b, o, rfl, (Ho.out.lt b rfl).2, hcell⟩
end Go.Proofs.Ytlnbebeghfhfdaa
