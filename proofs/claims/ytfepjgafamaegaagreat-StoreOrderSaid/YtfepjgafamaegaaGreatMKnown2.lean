/- Of the proofs of layer 4, merged: Known2, PutAny. -/
import Derived.Test.YtfepjgafamaegaaGreatMFrameGet
import Derived.Test.YtfepjgafamaegaaGreatM1Same
import Derived.Lib.SlBytesConst

/- What the chapter's examples fix: known answers true. -/
namespace Go.Proofs.YtfepjgafamaegaaGreat
open Go.RowKit

theorem ka1 : crcSum [49, 50, 51, 52, 53, 54, 55, 56, 57] = 3421780262 := by decide +kernel
theorem ka2 : crcSum [] = 0 := by decide
theorem ka3 : getA (putF (1, [97])) 0 = (1, [97], 11, 0) := by
  have h := getF_put (1, [97]) [] (by decide)
  rw [List.append_nil] at h
  exact getA_ok (k := 0) (Nat.zero_le _) h
theorem ka4 : getA (putF (1, [97])) 1 = (0, [], 0, 20) := by
  have h : getF ((putF (1, [97])).drop 1) = .error 20 := rfl
  exact getA_err (k := 1) (by rw [putF_len]; simp only; decide) h

theorem conv_bytes (w : World) (C : Array Value) (n c g : Nat) (hg : g = w.heap.size) : (convert 23 23 (.slice (some ⟨g, 0, none⟩) n c)).run Tryz.prog (w.alloc (.cells C 5)) = .ok (.slice (some ⟨g, 0, none⟩) n c) (w.alloc (.cells C 5 (C.size, C.size + 1))) := by
  subst hg
  exact Lib.run_convert_bytes_const w 23 5 C n c Tryz.underlying23 Tryz.underlying5
theorem Rd.mark {w : World} {g : Nat} (hg : g = w.heap.size) (l : List UInt8) {cs : List Value} (h : cs = u8s l) (t : TypeId) (fr : Nat × Nat) : Rd (w.alloc (.cells cs.toArray t fr)) (g + 1) (some ⟨g, 0, none⟩) l.length l := by
  subst h hg
  refine ⟨rfl, fun _ => ⟨w.heap.size, 0, rfl, by omega, fun j hj => ?_⟩⟩
  rw [Nat.zero_add, World.cell?_alloc_mark]
  simp [u8s, hj]

theorem kp1 (w : World) : Calls Tryz.prog 126 #[.int .u8 1, .slice (some ⟨w.heap.size, 0, none⟩) 1 1] (w.alloc (.cells #[.int .u8 97] 5 (1, 2))) fun e w' =>
    ∃ A c, e = .returned (.tuple #[.slice A 11 c, .int .i64 0]) ∧ Rd w' w'.heap.size A 11 (putF (1, [97])) ∧ 11 ≤ c ∧ c ≤ 9223372036854775807 ∧ Below w.heap.size w w' := by
  have hr := (Rd.mark (w := w) rfl [97] (cs := [.int .u8 97]) rfl 5 (1, 2)).more (B' := (w.alloc (.cells #[.int .u8 97] 5 (1, 2))).heap.size) (by simp)
  refine (framePut_ok 1 (some ⟨w.heap.size, 0, none⟩) 1 1 [97] _ (by decide) (by decide) (by decide) hr).mono ?_
  rintro e w' ⟨v, rfl, ho, hb⟩
  obtain ⟨A, c, rfl, h1, h2⟩ := own_shape ho
  exact ⟨A, c, rfl, Rd.of_own ho, h1, by unfold maxLen at h2; omega, ((Below.refl _ _).alloc (Nat.le_refl _) _).trans (hb.mono (by simp))⟩
theorem kg0 (w : World) (A : Option Addr) (c : Nat) (h1 : 11 ≤ c) (h2 : c ≤ 9223372036854775807) (h : Rd w w.heap.size A 11 (putF (1, [97]))) : Calls Tryz.prog 125 #[.slice A 11 c, .int .i64 0] w fun e w' =>
    ∃ A' c', e = .returned (.tuple #[.agg #[.int .u8 1, .slice A' 1 c'], .int .i64 11, .int .i64 0]) ∧ Rd w' w'.heap.size A' 1 [97] ∧ Below w.heap.size w w' := by
  have := frameGet_any A 11 c 0 (putF (1, [97])) w h1 (by decide) h2 h
  rw [ka3] at this
  refine this.mono ?_
  rintro e w' ⟨v, rfl, ho, hb⟩
  obtain ⟨A', c', rfl, _⟩ := own_shape ho
  exact ⟨A', c', rfl, Rd.of_own ho, hb⟩
theorem kg1 (w : World) (A : Option Addr) (c : Nat) (h1 : 11 ≤ c) (h2 : c ≤ 9223372036854775807) (h : Rd w w.heap.size A 11 (putF (1, [97]))) : Calls Tryz.prog 125 #[.slice A 11 c, .int .i64 1] w fun e w' =>
    ∃ A' c', e = .returned (.tuple #[.agg #[.int .u8 0, .slice A' 0 c'], .int .i64 0, .int .i64 20]) ∧ Below w.heap.size w w' := by
  have := frameGet_any A 11 c 1 (putF (1, [97])) w h1 (by decide) h2 h
  rw [ka4] at this
  refine this.mono ?_
  rintro e w' ⟨v, rfl, ho, hb⟩
  obtain ⟨A', c', rfl, _⟩ := own_shape ho
  exact ⟨A', c', rfl, hb⟩
theorem ks0 (w : World) : Calls Tryz.prog 155 #[.slice none 0 0] w fun e w' => e = .returned (.int .u32 0) ∧ w = w' :=
  sum_any none 0 0 0 [] w (by decide) ⟨rfl, fun i h => by simp at h⟩

theorem ks3 (W : World) (g1 g2 g3 : Nat) (h1 : g1 = W.heap.size) (h2 : g2 = W.heap.size + 1) (h3 : g3 = W.heap.size + 2) :
    Calls Tryz.prog 155 #[.slice (some ⟨g3, 0, none⟩) 3 3]
      (((W.alloc (.cells #[.int .u8 49, .int .u8 50, .int .u8 51, .int .u8 52] 5 (4, 5))).alloc (.cells #[.int .u8 53, .int .u8 54, .int .u8 55, .int .u8 56, .int .u8 57] 5 (5, 6))).alloc
        (.cells #[.slice (some ⟨g1, 0, none⟩) 4 4, .slice none 0 0, .slice (some ⟨g2, 0, none⟩) 5 5] 23)) fun e w' => e = .returned (.int .u32 3421780262) ∧
      ((W.alloc (.cells #[.int .u8 49, .int .u8 50, .int .u8 51, .int .u8 52] 5 (4, 5))).alloc (.cells #[.int .u8 53, .int .u8 54, .int .u8 55, .int .u8 56, .int .u8 57] 5 (5, 6))).alloc
        (.cells #[.slice (some ⟨g1, 0, none⟩) 4 4, .slice none 0 0, .slice (some ⟨g2, 0, none⟩) 5 5] 23) = w' := by
  have r1 : Rd (W.alloc (.cells #[.int .u8 49, .int .u8 50, .int .u8 51, .int .u8 52] 5 (4, 5))) (g1 + 1) (some ⟨g1, 0, none⟩) 4 [49, 50, 51, 52] := Rd.mark h1 [49, 50, 51, 52] (cs := [.int .u8 49, .int .u8 50, .int .u8 51, .int .u8 52]) rfl 5 (4, 5)
  have r2 := Rd.mark (w := W.alloc (.cells #[.int .u8 49, .int .u8 50, .int .u8 51, .int .u8 52] 5 (4, 5))) (g := g2) (by rw [h2]; simp) [53, 54, 55, 56, 57] (cs := [.int .u8 53, .int .u8 54, .int .u8 55, .int .u8 56, .int .u8 57]) rfl 5 (5, 6)
  have hsum := sum_any (some ⟨g3, 0, none⟩) 3 3 (g3 + 1) [[49, 50, 51, 52], [], [53, 54, 55, 56, 57]] _ (by decide) (Parts.lit (w := (W.alloc (.cells #[.int .u8 49, .int .u8 50, .int .u8 51, .int .u8 52] 5 (4, 5))).alloc (.cells #[.int .u8 53, .int .u8 54, .int .u8 55, .int .u8 56, .int .u8 57] 5 (5, 6))) (t := 23) [(some ⟨g1, 0, none⟩, 4, 4), (none, 0, 0), (some ⟨g2, 0, none⟩, 5, 5)] _ rfl rfl (by rw [h3]; simp) rfl (by
    intro i k1 k2
    match i, k1, k2 with
    | 0, _, _ => exact ⟨Nat.le_refl 4, show 4 ≤ 9223372036854775807 by decide, (r1.alloc (by rw [h1]; simp) _).more (by rw [h1]; simp)⟩
    | 1, _, _ => exact ⟨Nat.le_refl 0, show 0 ≤ 9223372036854775807 by decide, Rd.nil _ _ _⟩
    | 2, _, _ => exact ⟨Nat.le_refl 5, show 5 ≤ 9223372036854775807 by decide, r2.more (by rw [h2]; simp)⟩))
  have e : crcSum [[49, 50, 51, 52], [], [53, 54, 55, 56, 57]].flatten = 3421780262 := ka1
  rw [e] at hsum
  exact hsum

end Go.Proofs.YtfepjgafamaegaaGreat

/- Put, whatever the body: the program's and the document's. And the frame's type as the laws meet it. -/
namespace Go.Proofs.YtfepjgafamaegaaGreat
open Go.RowKit

/-- What Put makes: bytes, error. -/
def putA (kind : UInt8) (l : List UInt8) : List UInt8 × Nat := if l.length ≤ 1024 then (putF (kind, l), 0) else ([], 3)
theorem framePut_any (kind : UInt8) (A : Option Addr) (n c : Nat) (l : List UInt8) (w : World) (hc : n ≤ c) (hm : c ≤ 9223372036854775807) (h : Rd w w.heap.size A n l) :
    Calls Tryz.prog 126 #[.int .u8 (kind.toNat : Int), .slice A n c] w fun e w' => ∃ v, e = .returned (.tuple #[v, .int .i64 ((putA kind l).2 : Nat)]) ∧ w'.ownsRow w.heap.size 5 1 v (putA kind l).1.length (u8s (putA kind l).1) ∧ Below w.heap.size w w' := by
  unfold putA
  by_cases hn : l.length ≤ 1024
  · rw [if_pos hn]
    have hl := h.1
    have := framePut_ok kind A n c l w (by omega) hc hm h
    simp only [putF_len, hl]
    exact this
  · rw [if_neg hn]
    have hl := h.1
    refine (framePut_long kind.toNat A n c w (by omega) (by omega)).mono ?_
    rintro e w' ⟨rfl, rfl⟩
    exact ⟨_, rfl, World.ownsRow_nil _ _ _ _, Below.refl _ _⟩
theorem refPutF_any (kind : UInt8) (A : Option Addr) (n c : Nat) (l : List UInt8) (w : World) (hc : n ≤ c) (hm : c ≤ 9223372036854775807) (h : Rd w w.heap.size A n l) :
    Calls Tryz.prog 123 #[.int .u8 (kind.toNat : Int), .slice A n c] w fun e w' => ∃ v, e = .returned (.tuple #[v, .int .i64 ((putA kind l).2 : Nat)]) ∧ w'.ownsRow w.heap.size 5 1 v (putA kind l).1.length (u8s (putA kind l).1) ∧ Below w.heap.size w w' := by
  unfold putA
  by_cases hn : l.length ≤ 1024
  · rw [if_pos hn]
    have hl := h.1
    have := refPutF_ok kind A n c l w (by omega) h
    simp only [putF_len, hl]
    exact this
  · rw [if_neg hn]
    have hl := h.1
    refine (refPutF_long kind.toNat A n c w (by omega) (by omega)).mono ?_
    rintro e w' ⟨rfl, rfl⟩
    exact ⟨_, rfl, World.ownsRow_nil _ _ _ _, Below.refl _ _⟩
end Go.Proofs.YtfepjgafamaegaaGreat
