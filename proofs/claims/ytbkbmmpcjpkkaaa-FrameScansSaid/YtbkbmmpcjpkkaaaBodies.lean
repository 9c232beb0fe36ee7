/- The bodies of frames, in a row; frames where one other block was turned. -/
import Derived.Test.YtbkbmmpcjpkkaaaSame2
import Derived.Test.YtbkbmmpcjpkkaaaAppend2
import Derived.Deep.RegionHeld3
namespace Go.Proofs.Ytbkbmmpcjpkkaaa
open Go.RowKit

theorem Frames.turned {w w' : World} {base g : Nat} {v : Value} {vals : List Value} {fs : List Fr} (h : Frames w base v vals fs) (hg : w.grownBy w' (some g)) (hlt : g < base) : Frames w' base v vals fs :=
  ⟨own_grown h.row hg hlt, h.fam.grown hg fun i u hu => by
    cases ho : u.ownBlock with
    | none => exact .inl rfl
    | some k => have := ((h.fam.each i u hu).lt k ho).1; exact .inr fun e => by injection e with e; omega⟩

set_option maxHeartbeats 1000000 in
theorem bodies_any (A : Option Addr) (n c base : Nat) (vals : List Value) (fs : List Fr) (w : World) (hn : n ≤ 1099511627776) (h : Frames w base (.slice A n c) vals fs) :
    Calls Try.prog 28 #[.slice A n c] w fun e w' => ∃ v, e = .returned v ∧ w'.ownsRow w.heap.size 22 1 v vals.length vals ∧ Below w.heap.size w w' := by
  obtain ⟨i1, hi1, hy0, hy1, hy2⟩ := info_parts Try.infoBytes
  have hlen := h.len
  obtain ⟨A0, c0, hv, hc1, hc2⟩ := own_shape h.row
  injection hv with e1 hnf e3
  clear e1 e3
  have HL : Hid (vals.length = n) := Lib.hid (by omega)
  have hcell : ∀ k, k < n → ∃ g, A = some ⟨g, 0, none⟩ ∧ g < w.heap.size ∧ ∃ Ax nx cx, vals[k]? = some (.slice Ax nx cx) ∧ w.cell? ⟨g, k * 2 + 1, none⟩ = some (.slice Ax nx cx) := by
    intro k hk
    obtain ⟨b, o, A', n', c', hA, hlt, _, hc, _⟩ := h.rd.2 k (by omega)
    rcases h.row.2 with ⟨_, h0⟩ | ⟨g, cap, cur, hv0, hg, hh, _⟩
    · omega
    · have hA2 : A = some ⟨g, 0, none⟩ := by injection hv0
      subst hA2
      have q2 := h.row.cells (g := g) rfl _ _ (frCells_at fs vals h.len k (by omega)).2
      rw [Addr.add_lit, Nat.zero_add] at q2
      have hvk : vals[k]? = some (vals[k]'(by omega)) := List.getElem?_eq_getElem _
      have ho := h.fam.each k _ hvk
      obtain ⟨Ax, cx, hx, _⟩ := own_shape ho
      refine ⟨g, rfl, (Array.getElem?_eq_some_iff.1 hh).1, Ax, ((fs.map (·.2)).getD k []).length, cx, ?_, ?_⟩
      · rw [hvk, hx]
      · rw [q2, hx]
  have HC := Lib.hid hcell
  clear hcell h hc1 hc2 hnf hlen
  go_enter Try.func28, Try.ntmps28
  go_wp2
  go_loopg [3, 4] n (fun g v i wr => ∃ (k : Nat) (V : Value), v = V ∧ i = .int .i64 k ∧ k + g = n ∧ Hid (wr.ownsRow w.heap.size 22 1 V k (vals.take k)) ∧ Hid (Below w.heap.size w wr))
  case atStart => exact ⟨0, _, rfl, rfl, by omega, World.ownsRow_nil _ _ _ _, Below.refl _ _⟩
  case round =>
    obtain ⟨k, V, rfl, rfl, hk, HV, HB⟩ := hrel
    obtain ⟨Av, cv, rfl, hcv⟩ := own_shape HV.out
    by_cases hkn : k < n
    · obtain ⟨g, rfl, hlt, Ax, nx, cx, hvk, W0⟩ := HC.out k hkn
      have c0 := (HB.out.cell (p := ⟨g, k * 2 + 1, none⟩) hlt).trans W0
      have ht : vals.take (k + 1) = vals.take k ++ [.slice Ax nx cx] := by
        rw [List.take_add_one, hvk]; rfl
      have Ht := Lib.hid ht
      have g1 : (k : Int) < (n : Int) := by omega
      clear ht hvk HC
      go_wp2_with (at_builtin; go_loud (refine wpList_append_app _ rfl _ _ 49 rfl w.heap.size 22 i1 (.slice none 0 0) 1 24 Try.underlying49 hi1 hy0 hy1 hy2 rfl _ _ _ rfl (HV.out.alloc _) (some ⟨wr.heap.size, 0, none⟩) 1 1 [.slice Ax nx cx] rfl rfl (by intro e; cases e) (one_new _ _ _ rfl) (by intro u hu; simp at hu; subst hu; rfl) (by unfold maxLen; omega) (by omega) (by have := HB.out.size; simp; omega) ?_))
      intro v' w3 ha
      have HV3 : Hid (w3.ownsRow w.heap.size 22 1 v' (k + 1) (vals.take (k + 1))) := Lib.hid (by rw [Ht.out]; exact ha.own)
      have HB3 := Lib.hid (ha.below (HB.out.alloc HB.out.size _) (by have := HB.out.size; simp; omega) (own_block_ge HV.out))
      clear ha HV HB c0 W0
      go_wp2
      go_roundg (gk - 1)
      case measure => omega
      case rel => exact ⟨k + 1, v', rfl, by go_num, by omega, HV3, HB3⟩
    · have hkn2 : k = n := by omega
      subst hkn2
      have hf : vals.take k = vals := List.take_of_length_le (by rw [HL.out]; omega)
      rw [hf] at HV
      go_wp2
      go_ret
      exact ⟨_, rfl, by rw [HL.out]; exact HV.out, HB.out⟩
end Go.Proofs.Ytbkbmmpcjpkkaaa
