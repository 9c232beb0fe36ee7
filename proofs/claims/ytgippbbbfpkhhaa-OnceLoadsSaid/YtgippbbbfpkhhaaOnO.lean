/- sync.Once and the atomic numbers, one goroutine: a Once that is the third cell of a block. -/
import Derived.Test.YtgippbbbfpkhhaaOnP
import Derived.Test.YtgippbbbfpkhhaaMapB
import Derived.Test.YtgippbbbfpkhhaaOwnP
import Derived.Defers
import Derived.Laws.Pointers
import Derived.Laws.LoneSync
import Derived.RegionCalls
import Derived.WalkKit
namespace Go.Proofs.Ytgippbbbfpkhhaa
open Go.RowKit

theorem o_disable (w : World) : (callFunc 81 #[]).run Try.prog w = .ok (.value (.tuple #[])) w := run_call_mark0 Try.func81 (by kernel_rfl) (by kernel_rfl) (by kernel_rfl) .disable (by kernel_rfl) w
theorem o_enable (w : World) : (callFunc 83 #[]).run Try.prog w = .ok (.value (.tuple #[])) w := run_call_mark0 Try.func83 (by kernel_rfl) (by kernel_rfl) (by kernel_rfl) .enable (by kernel_rfl) w
theorem o_acquire (a : Addr) (w : World) : (callFunc 84 #[.pointer (some a)]).run Try.prog w = .ok (.value (.tuple #[])) w := run_call_marked Try.func84 (by kernel_rfl) (by kernel_rfl) (by kernel_rfl) .acquire (by kernel_rfl) a w
theorem o_release (a : Addr) (w : World) : (callFunc 86 #[.pointer (some a)]).run Try.prog w = .ok (.value (.tuple #[])) w := run_call_marked Try.func86 (by kernel_rfl) (by kernel_rfl) (by kernel_rfl) .releaseMerge (by kernel_rfl) a w
set_option maxRecDepth 100000 in
theorem o_store_deferred (a : Addr) (x : Value) (u : FrameMode) (w : World) (hc : w.cell? a = some x) (hz : w.frozen? a = false) :
    CallsD Try.prog 76 #[.pointer (some a), .bool true] u w fun e u' w' => u' = u ∧ (e = .returned (.tuple #[]) ∧ w' = w.drew.setCell a (.int .u32 1)) := by
  have hc' : w.drew.cell? a = some x := by go_simp
  have hz' : w.drew.frozen? a = false := by go_simp
  have hst := run_call_store (P := Try.prog) Try.func79 (by kernel_rfl) (by kernel_rfl) (by kernel_rfl) (by kernel_rfl) (k := .u32) (y := 1) hc' hz'
  go_enter_d Try.func76, Try.ntmps76
  go_wp2
  go_region_calls
  all_goals (go_end0; exact ⟨rfl, rfl⟩)
set_option maxRecDepth 100000 in
theorem o_unlock_deferred (a : Addr) (u : FrameMode) (w : World) (hc : w.cell? a = some (.int .i32 1)) (hz : w.frozen? a = false) :
    CallsD Try.prog 75 #[.pointer (some a)] u w fun e u' w' => u' = u ∧ (e = .returned (.tuple #[]) ∧ w' = w.setCell a (.int .i32 0)) := by
  have hd := o_disable
  have he := o_enable
  have hr := o_release
  have hadd := run_call_add (P := Try.prog) Try.func87 (by kernel_rfl) (by kernel_rfl) (by kernel_rfl) .i32 (by kernel_rfl) (y := -1) (s := 0) hc hz (by simp [go_sem]; rfl)
  have hcv := run_convert_to_unsafe (P := Try.prog) (src := 136) (dst := 140) Try.underlying136 Try.underlying140 (by kernel_rfl) hc
  go_enter_d Try.func75, Try.ntmps75
  go_wp2
  go_end0
  go_wp2
  go_end0
  exact ⟨rfl, rfl⟩
set_option maxRecDepth 100000 in
theorem o_lock_free (a : Addr) (w : World) (hc : w.cell? a = some (.int .i32 0)) (hz : w.frozen? a = false) :
    Calls Try.prog 74 #[.pointer (some a)] w fun e w' => e = .returned (.tuple #[]) ∧ w' = w.setCell a (.int .i32 1) := by
  have hd := o_disable
  have he := o_enable
  have ha := o_acquire
  have hcas := run_call_cas_hit (P := Try.prog) Try.func82 (by kernel_rfl) (by kernel_rfl) (by kernel_rfl) .i32 (by kernel_rfl) (y := 1) hc hz
  have hc' : (w.setCell a (.int .i32 1)).cell? a = some (.int .i32 1) := World.cell?_setCell_same w a _ hc
  have hcv := run_convert_to_unsafe (P := Try.prog) (src := 136) (dst := 140) Try.underlying136 Try.underlying140 (by kernel_rfl) hc'
  go_enter Try.func74, Try.ntmps74
  go_wp2
  first | go_end0 | (simp only [Exit.inBlock, Exit.then]; refine bodyPost_ret (results_none rfl _ _ _) rfl ?_) | refine bodyPost_ret (results_none rfl _ _ _) rfl ?_
  go_wp2
  go_end0
  exact ⟨rfl, rfl⟩
/-- A Once in the cells 2, 3, 4 of a block: not yet done. -/
structure Fresh (w : World) (g : Nat) : Prop where
  done : w.cell? ⟨g, 2, none⟩ = some (.int .u32 0)
  lock : w.cell? ⟨g, 3, none⟩ = some (.int .i32 0)
  fd : w.frozen? ⟨g, 2, none⟩ = false
  fl : w.frozen? ⟨g, 3, none⟩ = false
/-- The same, while its function is called. -/
structure Held (w : World) (g : Nat) : Prop where
  done : w.cell? ⟨g, 2, none⟩ = some (.int .u32 0)
  lock : w.cell? ⟨g, 3, none⟩ = some (.int .i32 1)
  fd : w.frozen? ⟨g, 2, none⟩ = false
  fl : w.frozen? ⟨g, 3, none⟩ = false
set_option maxRecDepth 100000 in
set_option maxHeartbeats 1600000 in
theorem o_slow (g : Nat) (pl : Addr) (Q : World → Prop) (w : World) (h : Fresh w g)
    (hcl : Calls Try.prog 53 #[.pointer (some pl)] (w.setCell ⟨g, 3, none⟩ (.int .i32 1)) fun e w' => e = .returned (.tuple #[]) ∧ Hid (Held w' g ∧ Q w')) :
    Calls Try.prog 68 #[.pointer (some ⟨g, 2, none⟩), .func (.func 53) #[] #[.pointer (some pl)]] w fun e w' => e = .returned (.tuple #[]) ∧ ∃ w1, Hid (Held w1 g ∧ Q w1) ∧ w' = (w1.drew.setCell ⟨g, 2, none⟩ (.int .u32 1)).setCell ⟨g, 3, none⟩ (.int .i32 0) := by
  have h0 := h.done
  have h1 := h.lock
  have f0 := h.fd
  have f1 := h.fl
  have hl := run_call_load (P := Try.prog) Try.func73 (by kernel_rfl) (by kernel_rfl) (by kernel_rfl) .u32 (by kernel_rfl) (w := w.setCell ⟨g, 3, none⟩ (.int .i32 1)) (a := ⟨g, 2, none⟩) (x := 0) ((World.cell?_setCell_other _ ⟨g, 3, none⟩ ⟨g, 2, none⟩ _ (by simp)).trans h0)
  have hnot : ∀ (x : Bool) (w : World), (Op.unary .not (.bool x)).run Try.prog w = .ok (.bool (!x)) w := fun _ _ => rfl
  have HC := Lib.hid hcl
  clear hcl h
  go_enter_defers Try.func68, Try.ntmps68
  go_wp2_with (go_at_call 74; refine (o_lock_free ⟨g, 3, none⟩ _ (by go_simp) (by go_simp)).mono ?_; rintro e w' ⟨rfl, rfl⟩)
  go_wp2_with (first | (go_at_call 53; refine HC.out.mono ?_; rintro e w1 ⟨rfl, HX⟩) | (go_at_call 67; go_in))
  obtain ⟨hh, hQ⟩ := HX.out
  refine leaves_cons (f := 76) (args := #[.pointer (some ⟨g, 2, none⟩), .bool true]) (by simp) (by simp [go_sem]) ?_
  refine (o_store_deferred ⟨g, 2, none⟩ (.int .u32 0) .returning _ hh.done hh.fd).mono ?_
  rintro e u' w'' ⟨rfl, rfl, rfl⟩
  refine leaves_cons (f := 75) (args := #[.pointer (some ⟨g, 3, none⟩)]) (by simp [settle]) (by simp [go_sem]) ?_
  refine (o_unlock_deferred ⟨g, 3, none⟩ _ _ ?_ (by simp [hh.fl])).mono ?_
  · refine (World.cell?_setCell_other _ ⟨g, 2, none⟩ ⟨g, 3, none⟩ _ (by simp)).trans ?_
    rw [World.cell?_drew]
    exact hh.lock
  rintro e u' w'' ⟨rfl, rfl, rfl⟩
  simp [Leaves, settle, results, Try.results68]
  exact ⟨w1, HX, rfl⟩
set_option maxRecDepth 100000 in
set_option maxHeartbeats 1600000 in
/-- Do, not yet done. -/
theorem o_do_first (g : Nat) (pl : Addr) (Q : World → Prop) (w : World) (h : Fresh w g)
    (hcl : Calls Try.prog 53 #[.pointer (some pl)] (w.setCell ⟨g, 3, none⟩ (.int .i32 1)) fun e w' => e = .returned (.tuple #[]) ∧ Hid (Held w' g ∧ Q w')) :
    Calls Try.prog 52 #[.pointer (some ⟨g, 2, none⟩), .func (.func 53) #[] #[.pointer (some pl)]] w fun e w' => e = .returned (.tuple #[]) ∧ Hid (∃ w1, (Held w1 g ∧ Q w1) ∧ w' = (w1.drew.setCell ⟨g, 2, none⟩ (.int .u32 1)).setCell ⟨g, 3, none⟩ (.int .i32 0)) := by
  have h0 := h.done
  have hl := run_call_load (P := Try.prog) Try.func73 (by kernel_rfl) (by kernel_rfl) (by kernel_rfl) .u32 (by kernel_rfl) (w := w) (a := ⟨g, 2, none⟩) (x := 0) h0
  have hnot : ∀ (x : Bool) (w : World), (Op.unary .not (.bool x)).run Try.prog w = .ok (.bool (!x)) w := fun _ _ => rfl
  have HC := Lib.hid (o_slow g pl Q w h hcl)
  clear hcl h h0
  go_enter Try.func52, Try.ntmps52
  go_wp2_with (first | (go_at_call 68; refine HC.out.mono ?_; rintro e w1 ⟨rfl, w2, HX, rfl⟩) | (go_at_call 67; go_in))
  go_end0
  exact ⟨rfl, Lib.hid ⟨w2, HX.out, rfl⟩⟩
set_option maxRecDepth 100000 in
/-- Do, done. -/
theorem o_do_done (g : Nat) (pl : Addr) (w : World) (h : w.cell? ⟨g, 2, none⟩ = some (.int .u32 1)) :
    Calls Try.prog 52 #[.pointer (some ⟨g, 2, none⟩), .func (.func 53) #[] #[.pointer (some pl)]] w fun e w' => e = .returned (.tuple #[]) ∧ w' = w := by
  have hl := run_call_load (P := Try.prog) Try.func73 (by kernel_rfl) (by kernel_rfl) (by kernel_rfl) .u32 (by kernel_rfl) (w := w) (a := ⟨g, 2, none⟩) (x := 1) h
  have hnot : ∀ (x : Bool) (w : World), (Op.unary .not (.bool x)).run Try.prog w = .ok (.bool (!x)) w := fun _ _ => rfl
  go_enter Try.func52, Try.ntmps52
  go_wp2_with (go_at_call 67; go_in)
  go_end0
  exact ⟨rfl, rfl⟩
set_option maxRecDepth 100000 in
/-- The atomic numbers. -/
theorem o_add (g k : Nat) (x : Int) (w : World) (h : w.cell? ⟨g, k, none⟩ = some (.int .i64 x)) (hf : w.frozen? ⟨g, k, none⟩ = false) :
    Calls Try.prog 34 #[.pointer (some ⟨g, k, none⟩), .int .i64 1] w fun e w' => e = .returned (.int .i64 (more1 x)) ∧ w' = w.setCell ⟨g, k, none⟩ (.int .i64 (more1 x)) := by
  have hadd := run_call_add (P := Try.prog) Try.func58 (by kernel_rfl) (by kernel_rfl) (by kernel_rfl) .i64 (by kernel_rfl) (y := 1) (s := more1 x) h hf (by unfold more1; simp [go_sem])
  go_enter Try.func34, Try.ntmps34
  go_wp2
  go_ret
  exact ⟨rfl, rfl⟩
set_option maxRecDepth 100000 in
theorem o_load (g k : Nat) (x : Int) (w : World) (h : w.cell? ⟨g, k, none⟩ = some (.int .i64 x)) :
    Calls Try.prog 48 #[.pointer (some ⟨g, k, none⟩)] w fun e w' => e = .returned (.int .i64 x) ∧ w' = w := by
  have hl := run_call_load (P := Try.prog) Try.func64 (by kernel_rfl) (by kernel_rfl) (by kernel_rfl) .i64 (by kernel_rfl) (w := w) (a := ⟨g, k, none⟩) (x := x) h
  go_enter Try.func48, Try.ntmps48
  go_wp2
  go_ret
  exact ⟨rfl, rfl⟩
end Go.Proofs.Ytgippbbbfpkhhaa
