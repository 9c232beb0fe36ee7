/- Layer 12, the document's log: Apply. -/
import Derived.Test.YtnomddhgcdoifaaRlDe
import Derived.Test.YtnomddhgcdoifaaRlO
namespace Go.Proofs.Ytnomddhgcdoifaa
open Go.RowKit

section
variable {w w1 w' w3 : World} {F G : Nat → Prop} {g n c : Nat} {p p2 : Rl} {A : Option Addr} {es es2 : List Ene} {v' : Value}
/-- What the document's Apply answers: the entry reads as what was told. -/
def RApE (w : World) (G : Nat → Prop) (g : Nat) (p : Rl) (e : Ending) (w' : World) : Prop :=
  ∃ s : Sl3, e = .returned (.tuple #[enV p.told.1 s, .bool p.told.2]) ∧ Hid (∃ G', RDx w' G' g p.apply ∧ Mv G G' w w' ∧ RdF w' G' s p.told.1.val)
set_option maxRecDepth 100000 in
set_option maxHeartbeats 8000000 in
theorem rapply_any (h : RDL w G g p A n c es) : Calls Try.prog 25 #[.pointer (some ⟨g, 0, none⟩)] w (RApE w G g p) := by
  have hgw := h.bk.lt
  have hap := h.ok.ap
  obtain ⟨T, hT⟩ : ∃ T, T = p.ap + 1 := ⟨_, rfl⟩
  obtain ⟨B, hB⟩ : ∃ B, B = w.heap.size := ⟨_, rfl⟩
  obtain ⟨w1, hw1⟩ : ∃ w1, w1 = w.alloc (.cells #[.int .u64 0, .slice none 0 0] 45) := ⟨_, rfl⟩
  have hb1 : Below w.heap.size w w1 := by rw [hw1]; exact bel1L _ _
  have hk1 : Bk w1 B 45 #[.int .u64 0, .slice none 0 0] := by rw [hw1, hB]; exact Bk.new w _ _
  have h1 := h.below hb1
  have hBG : ∀ k, G k → k ≠ B := fun k hk => by have := h.lt k hk; omega
  have HA := Lib.hid (rat_any h1 T)
  have c0 : w1.cell? ⟨g, 0, none⟩ = some (.int .u64 (p.ap : Int)) := h1.c0
  have e1 : IntKind.u64.wrap ((p.ap : Int) + 1) = (T : Int) := by rw [IntKind.wrap_u64]; omega
  have HW1 := Lib.hid hw1
  have HBB := Lib.hid hB
  have H1 := Lib.hid h1
  have HK1 := Lib.hid hk1
  have HB1 := Lib.hid hb1
  have HBG := Lib.hid hBG
  have HT := Lib.hid hT
  have Hgw := Lib.hid hgw
  clear h h1 hb1 hk1 hw1 hB hBG hT hgw
  go_enter Try.func25, Try.ntmps25
  go_upto_region 1 with (fail)
  rw [← HW1.out]
  try rw [← HBB.out]
  go_wp2_with fail
  refine HA.out.mono ?_
  clear HA
  rintro e w' ⟨⟨x, rfl, HX⟩, hw⟩
  rw [hw]
  clear hw w'
  rcases HX.out with ⟨rfl, hno⟩ | ⟨k, rfl, hk, hsl⟩
  · have ht : p.told = (⟨0, []⟩, false) := by unfold Rl.told; rw [if_neg (by rw [← HT.out, hno]; decide)]
    have ha : p.apply = p := by unfold Rl.apply; rw [if_neg (by rw [← HT.out, hno]; decide)]
    have u0 : w1.cell? ⟨B, 0, none⟩ = some (.int .u64 0) := HK1.out.cell 0
    have u1 : w1.cell? ⟨B, 1, none⟩ = some (.slice none 0 0) := HK1.out.cell 1
    have f0 := HK1.out.frozen 0
    have f1 := HK1.out.frozen 1
    obtain ⟨w5, hw5⟩ : ∃ w5, w5 = (w1.setCell ⟨B, 0, none⟩ (.int .u64 0)).setCell ⟨B, 1, none⟩ (.slice none 0 0) := ⟨_, rfl⟩
    have hk45 : Kp (fun j => j = B) w1 w5 := by rw [hw5]; exact (Kp.set_ (F := fun j => j = B) (p := ⟨B, 0, none⟩) rfl _).trans (Kp.set_ (F := fun j => j = B) (p := ⟨B, 1, none⟩) rfl _)
    have hk5 : Bk w5 B 45 #[.int .u64 0, .slice none 0 0] := by rw [hw5]; exact (HK1.out.set_ 0 _).set_ 1 _
    have HF : Hid (RApE w G g p (.returned (.tuple #[.agg #[.int .u64 0, .slice none 0 0], .bool false])) w5) := Lib.hid ⟨(none, 0, 0), by rw [ht]; rfl, Lib.hid ⟨G, by rw [ha]; exact ⟨A, n, c, es, H1.out.kp hk45 fun k hg e => HBG.out k hg e⟩, ⟨(Kp.of_below HB1.out : Kp G w w1).trans' hk45 (fun k e => .inr (by have := HBB.out; omega)), fun k hk => .inl hk⟩, by rw [ht]; exact RdF.nil _ _ _ _ (by unfold maxLen; omega)⟩⟩
    have j0 : w5.cell? ⟨B, 0, none⟩ = some (.int .u64 0) := hk5.cell 0
    have j1 : w5.cell? ⟨B, 1, none⟩ = some (.slice none 0 0) := hk5.cell 1
    have HW5 := Lib.hid hw5
    clear ht ha HX hno hk45 hk5 hw5
    go_wp2_with fail
    rw [← HW5.out]
    refine bodyPost_ret (by simp [results, Try.results25, go_sem, j0, j1]; try rfl) rfl ?_
    exact HF.out
  · have hh := H1.out.hasAt k hk
    rw [hsl] at hh
    have hT2 := (has_pos H1.out.ok hh.1).2
    have ht : p.told = (es[k].1, true) := by unfold Rl.told; rw [if_pos (by rw [← HT.out]; exact hh.1), ← HT.out, hh.2]
    have ha : p.apply = ⟨T, p.row⟩ := by unfold Rl.apply; rw [if_pos (by rw [← HT.out]; exact hh.1), ← HT.out]
    have m2 : (0 : Int) ≤ (k : Int) := by omega
    have m4 : ¬ (k : Int) < 0 := by omega
    have hkn : k < n := by rw [H1.out.len]; exact hk
    have m5 : (k : Int) < (n : Int) := by omega
    have hn4 := H1.out.n_len.2
    have fg := H1.out.bk.frozen 0
    obtain ⟨w2, hw2⟩ : ∃ w2, w2 = w1.setCell ⟨g, 0, none⟩ (.int .u64 (T : Int)) := ⟨_, rfl⟩
    have h2 := H1.out.setAp T hT2
    rw [← hw2] at h2
    have hgB : B ≠ g := by have := Hgw.out; have := HBB.out; omega
    have hk2 : Bk w2 B 45 #[.int .u64 0, .slice none 0 0] := by rw [hw2]; exact HK1.out.kp (F := fun j => j = g) (Kp.set_ (F := fun j => j = g) (p := ⟨g, 0, none⟩) rfl _) hgB
    have c1 : w2.cell? ⟨g, 1, none⟩ = some (.slice A n c) := h2.1.c1
    obtain ⟨R, rfl, b0, b1⟩ := h2.1.at_ k hkn
    have hbo : RdF w2 G es[k].2 es[k].1.val := h2.1.row.body (List.getElem_mem hk)
    obtain ⟨y, hy⟩ : ∃ y, y = es[k] := ⟨_, rfl⟩
    rw [← hy] at b0 b1 ht hbo
    obtain ⟨⟨ys, yv⟩, ⟨yA, yN, yC⟩⟩ := y
    unfold s3W at b1
    dsimp only at b0 hbo ht
    have u0 : w2.cell? ⟨B, 0, none⟩ = some (.int .u64 0) := hk2.cell 0
    have u1 : w2.cell? ⟨B, 1, none⟩ = some (.slice none 0 0) := hk2.cell 1
    have f0 := hk2.frozen 0
    have f1 := hk2.frozen 1
    obtain ⟨w5, hw5⟩ : ∃ w5, w5 = (w2.setCell ⟨B, 0, none⟩ (.int .u64 (ys : Int))).setCell ⟨B, 1, none⟩ (.slice yA yN yC) := ⟨_, rfl⟩
    have hk45 : Kp (fun j => j = B) w2 w5 := by rw [hw5]; exact (Kp.set_ (F := fun j => j = B) (p := ⟨B, 0, none⟩) rfl _).trans (Kp.set_ (F := fun j => j = B) (p := ⟨B, 1, none⟩) rfl _)
    have hk5 : Bk w5 B 45 #[.int .u64 (ys : Int), .slice yA yN yC] := by rw [hw5]; exact (hk2.set_ 0 _).set_ 1 _
    have HF : Hid (RApE w G g p (.returned (.tuple #[.agg #[.int .u64 (ys : Int), .slice yA yN yC], .bool true])) w5) := Lib.hid ⟨(yA, yN, yC), by rw [ht]; rfl, Lib.hid ⟨G, by rw [ha]; exact ⟨_, _, _, _, h2.1.kp hk45 fun k hg e => HBG.out k hg e⟩, ⟨((Kp.of_below HB1.out : Kp G w w1).trans h2.2.kp).trans' hk45 (fun k e => .inr (by have := HBB.out; omega)), fun k hk => .inl hk⟩, by rw [ht]; exact hbo.kp hk45 fun k hg e => HBG.out k hg e⟩⟩
    have j0 : w5.cell? ⟨B, 0, none⟩ = some (.int .u64 (ys : Int)) := hk5.cell 0
    have j1 : w5.cell? ⟨B, 1, none⟩ = some (.slice yA yN yC) := hk5.cell 1
    have HW5 := Lib.hid hw5
    have HW2 := Lib.hid hw2
    clear ht ha HX hh hsl hk45 hk5 hw5 hw2 hbo hy h2 hk2
    go_upto_region 5 with (fail)
    rw [← HW2.out]
    go_wp2_with fail
    rw [← HW5.out]
    refine bodyPost_ret (by simp [results, Try.results25, go_sem, j0, j1]; try rfl) rfl ?_
    exact HF.out
end
end Go.Proofs.Ytnomddhgcdoifaa
