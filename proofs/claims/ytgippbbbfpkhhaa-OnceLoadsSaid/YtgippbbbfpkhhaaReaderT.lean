/- The document's Reader: the next text. -/
import Derived.Test.YtgippbbbfpkhhaaReaderR
import Derived.Deep.RegionHeld3
namespace Go.Proofs.Ytgippbbbfpkhhaa
open Go.RowKit

def nextBR (l : List UInt8) (p err : Nat) (most : Int) : List UInt8 × Nat × Nat :=
  if err ≠ 0 then ([], p, err)
  else if (txtAt l p most).2.2 ≠ 0 then ([], p, (txtAt l p most).2.2.toNat)
  else ((txtAt l p most).1, (txtAt l p most).2.1.toNat, 0)

theorem MR.setp {w : World} {M p err n c : Nat} {l : List UInt8} {A : Option Addr} (h : MR w M l p err A n c) (k : Nat) (hk : k ≤ n) : MR (w.setCell ⟨M, 1, none⟩ (.int .i64 k)) M l k err A n c :=
  ⟨by simpa using h.blk.set_ 1 (.int .i64 k), h.cap, h.rd.grown_below (grown_set _ _ _ _) (by have := h.blk.lt; omega), hk⟩
theorem MR.sete {w : World} {M p err n c : Nat} {l : List UInt8} {A : Option Addr} (h : MR w M l p err A n c) (k : Nat) : MR (w.setCell ⟨M, 2, none⟩ (.int .i64 k)) M l p k A n c :=
  ⟨by simpa using h.blk.set_ 2 (.int .i64 k), h.cap, h.rd.grown_below (grown_set _ _ _ _) (by have := h.blk.lt; omega), h.le⟩

set_option maxRecDepth 100000 in
set_option maxHeartbeats 1000000 in
theorem rbytes_meth (M : Nat) (A : Option Addr) (n c p err : Nat) (most : Int) (l : List UInt8) (w : World) (hn : n ≤ 140737488355328) (hm1 : -9223372036854775808 ≤ most) (hm2 : most ≤ 9223372036854775807) (h : MR w M l p err A n c) :
    Calls Try.prog 51 #[.pointer (some ⟨M, 0, none⟩), .int .i64 most] w fun e w' => ∃ s, e = .returned s ∧ w'.ownsRow w.heap.size 5 1 s (nextBR l p err most).1.length (u8s (nextBR l p err most).1) ∧ MR w' M l (nextBR l p err most).2.1 (nextBR l p err most).2.2 A n c ∧ w.grownBy w' (some M) := by
  have c0 : w.cell? ⟨M, 0, none⟩ = some (.slice A n c) := h.blk.cell 0
  have c1 : w.cell? ⟨M, 1, none⟩ = some (.int .i64 p) := h.blk.cell 1
  have c2 : w.cell? ⟨M, 2, none⟩ = some (.int .i64 err) := h.blk.cell 2
  obtain ⟨hcap1, hcap2⟩ := h.cap
  have hl := h.rd.1
  have hp := h.le
  have hMlt := h.blk.lt
  unfold nextBR
  by_cases he : err = 0
  · subst he
    rw [if_neg (by simp)]
    have hw : ∀ q, (w.drewN q).heap.size = w.heap.size := fun q => rfl
    have Cu := fun q => refBytes_any A n c p most l (w.drewN q) hcap1 hn hcap2 hm1 hm2 ((h.rd.drewN q).more (by show M ≤ w.heap.size; omega))
    have Hup : Hid (∀ q w', Below w.heap.size (w.drewN q) w' → MR w' M l p 0 A n c) := fun q w' hb => (h.drewN q).below hb hMlt
    have Hgr : Hid (∀ q w', Below w.heap.size (w.drewN q) w' → w.grownBy w' (some M)) := fun q w' hb => grown_trans (grown_drewN w q _) (grown_of_below hb _)
    rcases txtAt_shift l p most (by omega) (by omega) with ⟨t, k, _, h1, hk1, hk2, _⟩ | ⟨e, _, h1, he1, he2⟩
    · simp only [h1] at Cu ⊢
      rw [if_neg (by simp)]
      have HC := Lib.hid Cu
      simp only [Int.toNat_natCast]
      clear Cu h1 h
      go_enter Try.func51, Try.ntmps51
      go_wp2_with fail
      go_region_held3 (fun w' => w'.cell? ⟨M, 0, none⟩ = some (.slice A n c) ∧ w'.cell? ⟨M, 1, none⟩ = some (.int .i64 p)) (first | exact ⟨c0, c1⟩ | exact ⟨k0, k1⟩ | go_keep)
        (first | (go_at_call 66; refine (HC.out 1).mono ?_; rintro e' w1 ⟨s, rfl, ho, hb⟩; obtain ⟨As, cs, rfl, _⟩ := own_shape ho; have Ho := Lib.hid ho; have Hm := Lib.hid (Hup.out 1 w1 hb); have Hg := Lib.hid (Hgr.out 1 w1 hb); have k0 := Hm.out.blk.cell 0; have k1 := Hm.out.blk.cell 1; have k2 := Hm.out.blk.cell 2; have f1 := Hm.out.blk.frozen 1; have f2 := Hm.out.blk.frozen 2; simp only [List.getElem?_toArray, List.getElem?_cons_zero, List.getElem?_cons_succ] at k0 k1 k2; clear ho hb))
      go_wp2
      go_ret
      exact ⟨_, rfl, own_grown Ho.out (grown_set _ M 1 _) hMlt, Hm.out.setp (p + k) (by omega), grown_trans Hg.out (grown_set _ _ _ _)⟩
    · simp only [h1] at Cu ⊢
      rw [if_pos (show (e : Int) ≠ 0 by omega)]
      have hne : ((e : Int) != 0) = true := by simp; omega
      have HC := Lib.hid Cu
      simp only [Int.toNat_natCast]
      clear Cu h1 h
      go_enter Try.func51, Try.ntmps51
      go_wp2_with fail
      go_region_held3 (fun w' => w'.cell? ⟨M, 0, none⟩ = some (.slice A n c) ∧ w'.cell? ⟨M, 1, none⟩ = some (.int .i64 p)) (first | exact ⟨c0, c1⟩ | exact ⟨k0, k1⟩ | go_keep)
        (first | (go_at_call 66; refine (HC.out 1).mono ?_; rintro e' w1 ⟨s, rfl, ho, hb⟩; obtain ⟨As, cs, rfl, _⟩ := own_shape ho; have Ho := Lib.hid ho; have Hm := Lib.hid (Hup.out 1 w1 hb); have Hg := Lib.hid (Hgr.out 1 w1 hb); have k0 := Hm.out.blk.cell 0; have k1 := Hm.out.blk.cell 1; have k2 := Hm.out.blk.cell 2; have f1 := Hm.out.blk.frozen 1; have f2 := Hm.out.blk.frozen 2; simp only [List.getElem?_toArray, List.getElem?_cons_zero, List.getElem?_cons_succ] at k0 k1 k2; clear ho hb))
      go_wp2
      go_ret
      exact ⟨_, rfl, World.ownsRow_nil _ _ _ _, Hm.out.sete e, grown_trans Hg.out (grown_set _ _ _ _)⟩
  · rw [if_pos he]
    have hne : ((err : Int) != 0) = true := by simp; omega
    have Hh := Lib.hid h
    clear h
    go_enter Try.func51, Try.ntmps51
    go_wp2
    go_ret
    exact ⟨_, rfl, World.ownsRow_nil _ _ _ _, Hh.out, World.grownBy.refl _ _⟩
end Go.Proofs.Ytgippbbbfpkhhaa
