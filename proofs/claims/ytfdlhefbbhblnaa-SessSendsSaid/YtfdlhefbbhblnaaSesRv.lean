/- The document's Sames of two rows that hold the same segments. -/
import Derived.Test.YtfdlhefbbhblnaaSesRu
import Derived.Test.YtfdlhefbbhblnaaSesR
namespace Go.Proofs.Ytfdlhefbbhblnaa
open Go.RowKit Go.Maps

/-- A row that reads as these segments. -/
def SgRd (w : World) (A : Option Addr) (n : Nat) (L : List Sg) : Prop :=
  L.length = n ∧ ∀ i (h : i < L.length), ∃ b o Ax cx, A = some ⟨b, o, none⟩ ∧ b < w.heap.size ∧ w.cell? ⟨b, o + i * 4, none⟩ = some (.int .u64 (L[i].life : Int)) ∧ w.cell? ⟨b, o + i * 4 + 1, none⟩ = some (.int .u64 (L[i].seq : Int)) ∧ w.cell? ⟨b, o + i * 4 + 2, none⟩ = some (.bool L[i].ack) ∧ w.cell? ⟨b, o + i * 4 + 3, none⟩ = some (.slice Ax L[i].body.length cx) ∧ Rd w w.heap.size Ax L[i].body.length L[i].body
theorem SgRd.below {w w' : World} {A : Option Addr} {n : Nat} {L : List Sg} (h : SgRd w A n L) (hb : Below w.heap.size w w') : SgRd w' A n L :=
  ⟨h.1, fun i hi => by
    obtain ⟨b, o, Ax, cx, e, hlt, x0, x1, x2, x3, r⟩ := h.2 i hi
    exact ⟨b, o, Ax, cx, e, Nat.lt_of_lt_of_le hlt hb.size, (hb.cell (p := ⟨b, o + i * 4, none⟩) hlt).trans x0, (hb.cell (p := ⟨b, o + i * 4 + 1, none⟩) hlt).trans x1, (hb.cell (p := ⟨b, o + i * 4 + 2, none⟩) hlt).trans x2, (hb.cell (p := ⟨b, o + i * 4 + 3, none⟩) hlt).trans x3, r.up hb⟩⟩
/-- A row of the call's own. -/
theorem SgRd.of_own {w : World} {base n c : Nat} {A : Option Addr} {es : List Sge} (ho : w.ownsRow base 36 4 (.slice A n c) es.length (sgC es)) (hb : ∀ e ∈ es, w.ownsRow 0 5 1 e.2 e.1.body.length (u8s e.1.body)) : SgRd w A n (es.map (·.1)) := by
  rcases ho.2 with ⟨e, h0⟩ | ⟨g, cap, cur, e, hh, _⟩
  · obtain ⟨rfl, rfl, rfl⟩ : A = none ∧ n = 0 ∧ c = 0 := by simpa using e
    have : es = [] := List.length_eq_zero_iff.1 h0
    subst this
    exact ⟨rfl, fun i hi => by simp at hi⟩
  · obtain ⟨rfl, rfl, rfl⟩ : A = some ⟨g, 0, none⟩ ∧ n = es.length ∧ c = cap := by simpa using e
    refine ⟨by simp, fun i hi => ?_⟩
    have hi2 : i < es.length := by simpa using hi
    have q := fun j (hj : j < 4) u (hu : (sgE es[i])[j]? = some u) => ho.cells (g := g) rfl (i * 4 + j) u (by rw [sgC_at es i j hi2 hj]; exact hu)
    have q0 := q 0 (by omega) _ rfl
    have q1 := q 1 (by omega) _ rfl
    have q2 := q 2 (by omega) _ rfl
    have q3 := q 3 (by omega) _ rfl
    rw [Addr.add_lit, Nat.zero_add] at q0 q1 q2 q3
    have hbe := hb es[i] (List.getElem_mem hi2)
    obtain ⟨Ax, cx, hx, _⟩ := own_shape hbe
    rw [hx] at hbe q3
    refine ⟨g, 0, Ax, cx, rfl, World.block_lt_of_cell? w _ q0, ?_, ?_, ?_, ?_, ?_⟩
    all_goals simp only [List.getElem_map, Nat.zero_add]
    · exact q0
    · exact q1
    · exact q2
    · exact q3
    · exact Rd.of_own hbe
set_option maxRecDepth 100000 in
set_option maxHeartbeats 4000000 in
theorem dSames_any (A A' : Option Addr) (n c c' : Nat) (L : List Sg) (w : World) (hn : n ≤ 1000000) (h : SgRd w A n L) (h' : SgRd w A' n L) :
    Calls Try.prog 17 #[.slice A n c, .slice A' n c'] w fun e w' => e = .returned (.bool true) ∧ Below w.heap.size w w' := by
  have HL := Lib.hid h.1
  have H := Lib.hid h
  have H' := Lib.hid h'
  clear h h'
  go_enter Try.func17, Try.ntmps17
  go_wp2_with fail
  go_loopg [5] n (fun g r wr => ∃ (k : Nat), r = .int .i64 k ∧ k + g = n ∧ Hid (Below w.heap.size w wr))
  case atStart => exact ⟨0, rfl, by omega, Lib.hid (Below.refl _ _)⟩
  case round =>
    obtain ⟨k, rfl, hk, HB⟩ := hrel
    by_cases hkn : k < n
    · have m1 : (k : Int) < (n : Int) := by omega
      obtain ⟨b, o, A1, c1, rfl, hb1, x0, x1, x2, x3, r1⟩ := (H.out.below HB.out).2 k (by rw [HL.out]; exact hkn)
      obtain ⟨b', o', A2, c2, rfl, hb2, y0, y1, y2, y3, r2⟩ := (H'.out.below HB.out).2 k (by rw [HL.out]; exact hkn)
      generalize hs : L[k]'(by rw [HL.out]; exact hkn) = s at *
      have HS : Hid (∀ W, Below wr.heap.size wr W → Calls Try.prog 27 #[sgV s (.slice A1 s.body.length c1), sgV s (.slice A2 s.body.length c2)] W fun e w' => e = .returned (.bool true) ∧ Below W.heap.size W w') := Lib.hid fun W hb => by
        have := sSame_any s s A1 A2 s.body.length c1 s.body.length c2 W (r1.up hb) (r2.up hb)
        rw [sameSg_self] at this
        exact this
      obtain ⟨sl, ss, sa, sb⟩ := s
      unfold sgV at HS
      dsimp only at x0 x1 x2 x3 y0 y1 y2 y3 HS
      generalize sb.length = nb at *
      clear r1 r2 hb1 hb2 hs
      go_wp2_with fail
      first
      | (go_region_law ((go_simp; go_at_call 27; (refine (HS.out _ (by (repeat' (first | assumption | exact Below.refl _ _ | apply Below.drew | exact bel_drewN (Below.refl _ _) _)))).mono ?_); rintro e w1 ⟨rfl, hb3⟩)))
      | fail
      all_goals
        have HB3 := Lib.hid (below_then HB.out (below_then (by (repeat' (first | assumption | exact Below.refl _ _ | apply Below.drew | exact bel_drewN (Below.refl _ _) _))) hb3))
        clear hb3 x0 x1 x2 x3 y0 y1 y2 y3 HS
        go_wp2
        go_roundg (gk - 1)
        case measure => omega
        case rel => exact ⟨k + 1, by go_num, by omega, HB3⟩
    · have m1 : ¬ (k : Int) < (n : Int) := by omega
      go_wp2
      go_ret
      exact ⟨rfl, HB.out⟩
end Go.Proofs.Ytfdlhefbbhblnaa
