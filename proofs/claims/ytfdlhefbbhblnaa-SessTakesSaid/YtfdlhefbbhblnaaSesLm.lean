/- Layer 7's laws: a row without one of its segments; the line in memory. -/
import Derived.Test.YtfdlhefbbhblnaaSesG
import Derived.Test.YtfdlhefbbhblnaaSesLp
namespace Go.Proofs.Ytfdlhefbbhblnaa
open Go.RowKit Go.Maps

/-- Of the first k those that are not number a. -/
def cutL (es : List Sge) (a k : Nat) : List Sge := (es.take k).eraseIdx a
theorem cutL_same {es : List Sge} {a : Nat} (h : a < es.length) : cutL es a (a + 1) = cutL es a a := by
  unfold cutL
  have h1 : (es.take a).length = a := by rw [List.length_take]; omega
  rw [List.take_succ_eq_append_getElem h, List.eraseIdx_append_of_length_le (by omega), h1, Nat.sub_self, List.eraseIdx_of_length_le (show (es.take a).length ≤ a by omega)]
  simp
theorem cutL_more {es : List Sge} {a k : Nat} (h : k < es.length) (hk : k ≠ a) : cutL es a (k + 1) = cutL es a k ++ [es[k]] := by
  unfold cutL
  rw [List.take_succ_eq_append_getElem h]
  by_cases ha : a < k
  · rw [List.eraseIdx_append_of_lt_length (by rw [List.length_take]; omega)]
  · rw [List.eraseIdx_of_length_le (by rw [List.length_append, List.length_take]; simp; omega), List.eraseIdx_of_length_le (by rw [List.length_take]; omega)]
theorem cutL_len (es : List Sge) (a k : Nat) : (cutL es a k).length ≤ k := by
  unfold cutL
  have := List.length_eraseIdx_le (es.take k) a
  rw [List.length_take] at this
  omega
theorem infoSeg7 : (Try.prog.info? 36).map (fun i => (i.zero, i.size, i.bytes)) = some (some (.agg #[.int .u64 0, .int .u64 0, .bool false, .slice none 0 0]), 4, 48) := by kernel_rfl
set_option maxRecDepth 100000 in
set_option maxHeartbeats 4000000 in
theorem cut_any (A : Option Addr) (n c : Nat) (es : List Sge) (a : Nat) (base : Nat) (G : Nat → Prop) (w : World) (h : SgR w base G (.slice A n c) es) (hn : n = es.length) (hn2 : n ≤ 100000) (ha : a < n) :
    Calls Try.prog 44 #[.slice A n c, .int .i64 (a : Int)] w fun e w' => ∃ v, e = .returned v ∧ w'.ownsRow w.heap.size 36 4 v (cutL es a n).length (sgC (cutL es a n)) ∧ Below w.heap.size w w' := by
  have HCell := Lib.hid (fun i (hi : i < es.length) => h.cell i hi)
  have HOw := Lib.hid h
  obtain ⟨i0, hi0, hz0, hz1, hz2⟩ := info_parts infoSeg7
  have Hn := Lib.hid hn
  clear h hn
  go_enter Try.func44, Try.ntmps44
  go_wp2_with fail
  go_loopg [5, 6] n (fun g l i wr => ∃ (k : Nat) (V : Value), l = V ∧ i = .int .i64 (k : Int) ∧ k + g = n ∧ Hid (wr.ownsRow w.heap.size 36 4 V (cutL es a k).length (sgC (cutL es a k)) ∧ Below w.heap.size w wr))
  case atStart => exact ⟨0, _, rfl, rfl, by omega, Lib.hid ⟨by unfold cutL; exact World.ownsRow_nil _ _ _ _, Below.refl _ _⟩⟩
  case round =>
    obtain ⟨k, V, rfl, rfl, hkg, HH⟩ := hrel
    obtain ⟨AV, cV, rfl, _⟩ := own_shape HH.out.1
    by_cases hk : k < n
    · have hkl : k < es.length := by rw [← Hn.out]; exact hk
      have hkN : (k : Int) < (n : Int) := by omega
      by_cases hka : k = a
      · have HE := Lib.hid (cutL_same (es := es) (a := k) hkl)
        subst hka
        go_wp2
        go_roundg (gk - 1)
        case measure => omega
        case rel => exact ⟨k + 1, _, rfl, by go_num, by omega, Lib.hid ⟨by rw [HE.out]; exact HH.out.1, HH.out.2⟩⟩
      · have hne : ¬ (k : Int) = (a : Int) := by omega
        have hlen := cutL_len es a k
        have HNX := Lib.hid (cutL_more hkl hka)
        obtain ⟨R, c1, hv, c0, c1', c2, c3⟩ := HCell.out k hkl
        have hA : A = some ⟨R, 0, none⟩ := by injection hv
        clear hv
        subst hA
        have hR := World.block_lt_of_cell? w _ c0
        have d0 := (HH.out.2.cell (p := ⟨R, k * 4, none⟩) hR).trans c0
        have d1 := (HH.out.2.cell (p := ⟨R, k * 4 + 1, none⟩) hR).trans c1'
        have d2 := (HH.out.2.cell (p := ⟨R, k * 4 + 2, none⟩) hR).trans c2
        have d3 := (HH.out.2.cell (p := ⟨R, k * 4 + 3, none⟩) hR).trans c3
        obtain ⟨Ab, cb, hb, _⟩ := HOw.out.body es[k] (List.getElem_mem hkl)
        obtain ⟨x, hx⟩ : ∃ x, x = es[k] := ⟨_, rfl⟩
        rw [← hx] at HNX d0 d1 d2 d3 hb
        obtain ⟨⟨xl, xs, xa, xb⟩, xv⟩ := x
        dsimp only at hb d0 d1 d2 d3
        subst hb
        have hz : w.heap.size ≤ wr.heap.size := HH.out.2.size
        clear c0 c1' c2 c3 hx
        go_wp2_with (at_builtin; go_loud (refine wpList_append_app _ rfl _ _ 45 rfl w.heap.size 36 i0 _ 4 48 Try.underlying45 hi0 hz0 hz1 hz2 rfl _ _ _ rfl (HH.out.1.alloc _) (some ⟨wr.heap.size, 0, none⟩) 1 1 [.int .u64 (xl : Int), .int .u64 (xs : Int), .bool xa, .slice Ab xb.length cb] rfl rfl (by intro e; cases e) (new_cells _ _ _ rfl) (by intro u hu; simp at hu; rcases hu with rfl | rfl | rfl | rfl <;> rfl) (by unfold maxLen; omega) (by omega) (by simp; omega) ?_))
        intro v2 w4 ha
        have HN4 : Hid (w4.ownsRow w.heap.size 36 4 v2 (cutL es a (k + 1)).length (sgC (cutL es a (k + 1)))) := Lib.hid (by
          rw [HNX.out, sgC_app, List.length_append]
          exact ha.own)
        have HB4 : Hid (Below w.heap.size w w4) := Lib.hid (ha.below (HH.out.2.alloc HH.out.2.size _) (by simp; omega) (own_block_ge HH.out.1))
        clear ha HH
        go_wp2
        go_roundg (gk - 1)
        case measure => omega
        case rel => exact ⟨k + 1, v2, rfl, by go_num, by omega, Lib.hid ⟨HN4.out, HB4.out⟩⟩
    · obtain rfl : k = n := by omega
      go_wp2
      go_ret
      exact ⟨_, rfl, HH.out.1, HH.out.2⟩
end Go.Proofs.Ytfdlhefbbhblnaa
