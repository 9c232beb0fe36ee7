/- The document's Reader, method by method: over all bytes, at a place. -/
import Derived.Test.YtgippbbbfpkhhaaReaderP
import Derived.Test.YtgippbbbfpkhhaaLent2
import Derived.BigQuiet
import Derived.Deep.QuietTactic
import Derived.Deep.RegionHeld3
namespace Go.Proofs.Ytgippbbbfpkhhaa
open Go.RowKit

/-- The document's Reader at block M. -/
structure MR (w : World) (M : Nat) (l : List UInt8) (p err : Nat) (A : Option Addr) (n c : Nat) : Prop where
  blk : Bk w M 105 #[.slice A n c, .int .i64 p, .int .i64 err]
  cap : n ≤ c ∧ c ≤ 9223372036854775807
  rd : Rd w M A n l
  le : p ≤ n

theorem MR.grown {w w' : World} {M p err n c g : Nat} {l : List UInt8} {A : Option Addr} (h : MR w M l p err A n c) (hg : w.grownBy w' (some g)) (hne : M ≠ g) (hgl : ∀ b, b < M → b ≠ g ∨ ¬ (∃ o, A = some ⟨b, o, none⟩)) : MR w' M l p err A n c := by
  refine ⟨h.blk.grown hg (by intro e; injection e with e; exact hne e), h.cap, ⟨h.rd.1, fun hn => ?_⟩, h.le⟩
  obtain ⟨b, o, rfl, hb, hc⟩ := h.rd.2 hn
  refine ⟨b, o, rfl, hb, fun j hj => ?_⟩
  rw [← hc j hj]
  refine World.cell?_of_block (hg.block b (by have := h.blk.lt; omega) ?_)
  intro e
  injection e with e
  rcases hgl b hb with h1 | h1
  · exact h1 e
  · exact h1 ⟨o, rfl⟩

theorem MR.drewN {w : World} {M p err n c : Nat} {l : List UInt8} {A : Option Addr} (h : MR w M l p err A n c) (q : Nat) : MR (w.drewN q) M l p err A n c := ⟨h.blk, h.cap, h.rd, h.le⟩
theorem MR.below {w w' : World} {M n c p err : Nat} {l : List UInt8} {A : Option Addr} (h : MR w M l p err A n c) {B : Nat} (hb : Below B w w') (hB : M < B) : MR w' M l p err A n c :=
  ⟨h.blk.below hb hB, h.cap, h.rd.below (hb.mono (by omega)), h.le⟩

def nextUR (l : List UInt8) (p err : Nat) : Nat × Nat × Nat :=
  if err ≠ 0 then (0, p, err)
  else if (uintAt l p).2.2 ≠ 0 then (0, p, (uintAt l p).2.2.toNat)
  else ((uintAt l p).1.toNat, (uintAt l p).2.1.toNat, 0)

set_option maxRecDepth 100000 in
set_option maxHeartbeats 1000000 in
theorem ruint_meth (M : Nat) (A : Option Addr) (n c p err : Nat) (l : List UInt8) (w : World) (h : MR w M l p err A n c) :
    Calls Try.prog 50 #[.pointer (some ⟨M, 0, none⟩)] w fun e w' => e = .returned (.int .u64 (nextUR l p err).1) ∧ MR w' M l (nextUR l p err).2.1 (nextUR l p err).2.2 A n c ∧ w.grownBy w' (some M) := by
  have c0 : w.cell? ⟨M, 0, none⟩ = some (.slice A n c) := h.blk.cell 0
  have c1 : w.cell? ⟨M, 1, none⟩ = some (.int .i64 p) := h.blk.cell 1
  have c2 : w.cell? ⟨M, 2, none⟩ = some (.int .i64 err) := h.blk.cell 2
  have f1 := h.blk.frozen 1
  have f2 := h.blk.frozen 2
  obtain ⟨hcap1, hcap2⟩ := h.cap
  have hl := h.rd.1
  have hp := h.le
  unfold nextUR
  by_cases he : err = 0
  · subst he
    rw [if_neg (by simp)]
    have Cu := fun W (hr : Rd W M A n l) => refUint_any A n c M p l W hcap1 hcap2 hr
    rcases uintAt_shift l p (by omega) (by omega) with ⟨v, k, _, h1, hk1, hk2, hv⟩ | ⟨e, _, h1, he1, he2⟩
    · rw [h1] at Cu ⊢
      rw [if_neg (by simp)]
      have HC : Hid (∀ q, Calls Try.prog 65 #[.slice A n c, .int .i64 p] (w.drewN q) _) := fun q => Cu (w.drewN q) (h.rd.drewN q)
      have HH : Hid (∀ q, MR ((w.drewN q).setCell ⟨M, 1, none⟩ (.int .i64 ((p + k : Nat) : Int))) M l (p + k) 0 A n c ∧ w.grownBy ((w.drewN q).setCell ⟨M, 1, none⟩ (.int .i64 ((p + k : Nat) : Int))) (some M)) := fun q =>
        ⟨⟨by simpa using (h.drewN q).blk.set_ 1 (.int .i64 ((p + k : Nat) : Int)), h.cap, (h.rd.drewN q).grown_below (grown_set _ _ _ _) (by have := h.blk.lt; show M ≤ w.heap.size; omega), by omega⟩, grown_trans (grown_drewN w q _) (grown_set _ _ _ _)⟩
      simp only [Int.toNat_natCast]
      clear Cu h1 h
      go_enter Try.func50, Try.ntmps50
      go_wp2_with fail
      go_quiet ((go_at_call 65; exact Calls.quiet_of_same ((HC.out _).mono fun _ _ ⟨h1, h2⟩ => ⟨h1, h2.symm⟩)))
      go_wp2
      go_ret
      exact ⟨rfl, HH.out _⟩
    · rw [h1] at Cu ⊢
      rw [if_pos (show (e : Int) ≠ 0 by omega)]
      have HC : Hid (∀ q, Calls Try.prog 65 #[.slice A n c, .int .i64 p] (w.drewN q) _) := fun q => Cu (w.drewN q) (h.rd.drewN q)
      have HH : Hid (∀ q, MR ((w.drewN q).setCell ⟨M, 2, none⟩ (.int .i64 e)) M l p e A n c ∧ w.grownBy ((w.drewN q).setCell ⟨M, 2, none⟩ (.int .i64 e)) (some M)) := fun q =>
        ⟨⟨by simpa using (h.drewN q).blk.set_ 2 (.int .i64 e), h.cap, (h.rd.drewN q).grown_below (grown_set _ _ _ _) (by have := h.blk.lt; show M ≤ w.heap.size; omega), by omega⟩, grown_trans (grown_drewN w q _) (grown_set _ _ _ _)⟩
      have hne : ((e : Int) != 0) = true := by simp; omega
      simp only [Int.toNat_natCast]
      clear Cu h1 h
      go_enter Try.func50, Try.ntmps50
      go_wp2_with fail
      go_quiet ((go_at_call 65; exact Calls.quiet_of_same ((HC.out _).mono fun _ _ ⟨h1, h2⟩ => ⟨h1, h2.symm⟩)))
      go_wp2
      go_ret
      exact ⟨rfl, HH.out _⟩
  · rw [if_pos he]
    have hne : ((err : Int) != 0) = true := by simp; omega
    have Hh := Lib.hid h
    clear h
    go_enter Try.func50, Try.ntmps50
    go_wp2
    go_ret
    exact ⟨rfl, Hh.out, World.grownBy.refl _ _⟩

end Go.Proofs.Ytgippbbbfpkhhaa
