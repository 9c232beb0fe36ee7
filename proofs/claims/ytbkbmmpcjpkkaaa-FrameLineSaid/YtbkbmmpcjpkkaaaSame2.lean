/- Whether two rows of frames are the same: the document's own. -/
import Derived.Test.YtbkbmmpcjpkkaaaScan
import Derived.Deep.QuietTactic
namespace Go.Proofs.Ytbkbmmpcjpkkaaa
open Go.RowKit

/-- A slice of frames reads as these. -/
def FrRd (w : World) (B : Nat) (A : Option Addr) (k : Nat) (fs : List Fr) : Prop :=
  fs.length = k ∧ ∀ i (h : i < fs.length), ∃ b o A' n' c', A = some ⟨b, o, none⟩ ∧ b < B ∧ w.cell? ⟨b, o + i * 2, none⟩ = some (.int .u8 (fs[i].1.toNat : Int)) ∧ w.cell? ⟨b, o + i * 2 + 1, none⟩ = some (.slice A' n' c') ∧ n' ≤ c' ∧ c' ≤ 9223372036854775807 ∧ Rd w B A' n' fs[i].2
theorem FrRd.below {w w' : World} {B k : Nat} {A : Option Addr} {fs : List Fr} (h : FrRd w B A k fs) (hb : Below B w w') : FrRd w' B A k fs :=
  ⟨h.1, fun i hi => by
    obtain ⟨b, o, A', n', c', e, hlt, hc, hc2, h1, h2, h3⟩ := h.2 i hi
    exact ⟨b, o, A', n', c', e, hlt, (hb.cell hlt).trans hc, (hb.cell hlt).trans hc2, h1, h2, h3.below hb⟩⟩
theorem FrRd.more {w : World} {B B' k : Nat} {A : Option Addr} {fs : List Fr} (h : FrRd w B A k fs) (hB : B ≤ B') : FrRd w B' A k fs :=
  ⟨h.1, fun i hi => by
    obtain ⟨b, o, A', n', c', e, hlt, hc, hc2, h1, h2, h3⟩ := h.2 i hi
    exact ⟨b, o, A', n', c', e, by omega, hc, hc2, h1, h2, h3.more hB⟩⟩

theorem takes_ne {fs gs : List Fr} {k : Nat} {f g : Fr} (h1 : fs.take (k + 1) = fs.take k ++ [f]) (h2 : gs.take (k + 1) = gs.take k ++ [g]) (h : f ≠ g) : (fs == gs) = false := by
  rw [beq_eq_false_iff_ne]
  intro e
  rw [e] at h1
  rw [h1] at h2
  exact h (by simpa using List.append_inj_right h2 rfl)

set_option maxHeartbeats 1000000 in
theorem frSame_any (A A' : Option Addr) (n c n' c' B B' : Nat) (fs gs : List Fr) (w : World) (hc : n ≤ c) (hm : c ≤ 9223372036854775807) (hc' : n' ≤ c') (_hm' : c' ≤ 9223372036854775807) (h : FrRd w B A n fs) (h' : FrRd w B' A' n' gs) :
    Calls Try.prog 26 #[.slice A n c, .slice A' n' c'] w fun e w' => e = .returned (.bool (fs == gs)) ∧ ∃ q, w.drewN q = w' := by
  have HL := Lib.hid h.1
  have HL' := Lib.hid h'.1
  have H := Lib.hid h
  have H' := Lib.hid h'
  clear h h'
  by_cases hnn : n = n'
  · subst hnn
    go_enter Try.func26, Try.ntmps26
    go_wp2
    go_loopg [5] n (fun g r wr => ∃ (k : Nat), r = .int .i64 k ∧ k + g = n ∧ Hid (fs.take k = gs.take k) ∧ ∃ q, w.drewN q = wr)
    case atStart => exact ⟨0, rfl, by omega, Lib.hid rfl, 0, rfl⟩
    case round =>
      obtain ⟨k, rfl, hk, Ht, q, rfl⟩ := hrel
      by_cases hkn : k < n
      · obtain ⟨b, o, A1, n1, c1, rfl, _, x1, y1, hn1, hm1, r1⟩ := H.out.2 k (by rw [HL.out]; exact hkn)
        obtain ⟨b', o', A2, n2, c2, rfl, _, x2, y2, hn2, hm2, r2⟩ := H'.out.2 k (by rw [HL'.out]; exact hkn)
        have t1 : fs.take (k + 1) = fs.take k ++ [fs[k]'(by rw [HL.out]; exact hkn)] := List.take_succ_eq_append_getElem _
        have t2 : gs.take (k + 1) = gs.take k ++ [gs[k]'(by rw [HL'.out]; exact hkn)] := List.take_succ_eq_append_getElem _
        generalize hf : fs[k]'(by rw [HL.out]; exact hkn) = f at *
        generalize hg : gs[k]'(by rw [HL'.out]; exact hkn) = g at *
        have k1 := fun q => (r1.drewN q).str Try.underlying22 Try.underlying5 Try.underlying9 c1
        have k2 := fun q => (r2.drewN q).str Try.underlying22 Try.underlying5 Try.underlying9 c2
        have T1 := Lib.hid t1
        have T2 := Lib.hid t2
        clear r1 r2 t1 t2 hf hg
        by_cases hfg : f.1 = g.1
        · rw [hfg] at x1
          go_wp2
          go_quiet (fail)
          go_wp2
          · go_ret
            refine ⟨?_, q + nq, by rw [← World.drewN_drewN]⟩
            have : (fs == gs) = false := takes_ne T1.out T2.out (fun e => by rename_i hh; rw [e] at hh; simp at hh)
            rw [this]; rfl
          · go_roundg (gk - 1)
            case measure => omega
            case rel =>
              refine ⟨k + 1, by go_num, by omega, Lib.hid ?_, q + nq, rfl⟩
              have he : f.2 = g.2 := by rename_i hh; simpa using hh
              rw [T1.out, T2.out, Ht.out, show f = g from Prod.ext hfg he]
        · have hne : ((f.1.toNat : Int) != (g.1.toNat : Int)) = true := by
            simp
            intro e
            exact hfg (UInt8.toNat_inj.1 (by omega))
          go_wp2
          go_quiet (fail)
          go_wp2
          go_ret
          refine ⟨?_, q + nq, by rw [← World.drewN_drewN]⟩
          have : (fs == gs) = false := takes_ne T1.out T2.out (fun e => hfg (by rw [e]))
          rw [this]; rfl
      · have hf : fs.take k = fs := List.take_of_length_le (by rw [HL.out]; omega)
        have hg : gs.take k = gs := List.take_of_length_le (by rw [HL'.out]; omega)
        have he : (fs == gs) = true := by rw [← hf, ← hg, Ht.out]; simp
        go_wp2
        go_ret
        exact ⟨by rw [he]; rfl, q, rfl⟩
  · have hne : ((n : Int) != (n' : Int)) = true := by simp; omega
    have hq : (fs == gs) = false := by
      rw [beq_eq_false_iff_ne]
      intro e
      exact hnn (by rw [← HL.out, ← HL'.out, e])
    go_enter Try.func26, Try.ntmps26
    go_wp2
    go_ret
    exact ⟨by rw [hq]; rfl, 0, rfl⟩

theorem frCells_at (fs : List Fr) (vals : List Value) (h : vals.length = fs.length) (i : Nat) (hi : i < fs.length) : (frCells fs vals)[i * 2]? = some (.int .u8 (fs[i].1.toNat : Int)) ∧ (frCells fs vals)[i * 2 + 1]? = some (vals[i]'(by omega)) := by
  induction fs generalizing vals i with
  | nil => simp at hi
  | cons f fs ih =>
    cases vals with
    | nil => simp at h
    | cons v vals =>
      cases i with
      | zero => exact ⟨rfl, rfl⟩
      | succ i =>
        have := ih vals (by simpa using h) i (by simpa using hi)
        show (_ :: _ :: frCells fs vals)[(i + 1) * 2]? = _ ∧ (_ :: _ :: frCells fs vals)[(i + 1) * 2 + 1]? = _
        rw [show (i + 1) * 2 = i * 2 + 1 + 1 by omega, show i * 2 + 1 + 1 + 1 = (i * 2 + 1) + 1 + 1 by omega]
        simpa using this

/-- What the call owns reads. -/
theorem Frames.rd {w : World} {base n c : Nat} {A : Option Addr} {vals : List Value} {fs : List Fr} (h : Frames w base (.slice A n c) vals fs) : FrRd w w.heap.size A n fs := by
  obtain ⟨A0, c0, hv, _⟩ := own_shape h.row
  injection hv with _ hn _
  subst hn
  refine ⟨rfl, fun i hi => ?_⟩
  obtain ⟨c1, c2⟩ := frCells_at fs vals h.len i hi
  have hvi : vals[i]? = some (vals[i]'(by rw [h.len]; exact hi)) := List.getElem?_eq_getElem _
  have ho := h.fam.each i _ hvi
  have hl : (fs.map (·.2)).getD i [] = fs[i].2 := by simp [List.getD, hi]
  rw [hl] at ho
  generalize vals[i]'(by rw [h.len]; exact hi) = x at *
  obtain ⟨Ax, cx, rfl, hx1, hx2⟩ := own_shape ho
  rcases h.row.2 with ⟨hv0, h0⟩ | ⟨g, cap, cur, hv0, hg, hh, _⟩
  · omega
  · have hA : A = some ⟨g, 0, none⟩ := by injection hv0
    subst hA
    have q1 := h.row.cells (g := g) rfl _ _ c1
    have q2 := h.row.cells (g := g) rfl _ _ c2
    rw [Addr.add_lit] at q1 q2
    refine ⟨g, 0, Ax, _, cx, rfl, (Array.getElem?_eq_some_iff.1 hh).1, q1, ?_, hx1, by unfold maxLen at hx2; omega, Rd.of_own ho⟩
    rw [Nat.add_assoc]; exact q2
end Go.Proofs.Ytbkbmmpcjpkkaaa
