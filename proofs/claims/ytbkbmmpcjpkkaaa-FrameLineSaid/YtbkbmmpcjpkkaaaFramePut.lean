/- frame.Put answers the plain frame. -/
import Derived.Test.YtbkbmmpcjpkkaaaConcat
namespace Go.Proofs.Ytbkbmmpcjpkkaaa
open Go.RowKit

/-- Parts that are written out. -/
theorem Parts.lit {w : World} {t k g : Nat} (vs : List (Option Addr × Nat × Nat)) (ls : List (List UInt8)) (hv : vs.length = k) (hl : ls.length = k) (hg : g = w.heap.size) {cs : Array Value} (hcs : cs = (vs.map fun v => Value.slice v.1 v.2.1 v.2.2).toArray)
    (h : ∀ i (h1 : i < vs.length) (h2 : i < ls.length), vs[i].2.1 ≤ vs[i].2.2 ∧ vs[i].2.2 ≤ 9223372036854775807 ∧ Rd w w.heap.size vs[i].1 vs[i].2.1 ls[i]) :
    Parts (w.alloc (.cells cs t)) (g + 1) (some ⟨g, 0, none⟩) k ls := by
  subst hg hcs
  refine ⟨hl, fun i hi => ?_⟩
  obtain ⟨h1, h2, h3⟩ := h i (by omega) hi
  refine ⟨w.heap.size, 0, vs[i].1, vs[i].2.1, vs[i].2.2, rfl, by omega, ?_, h1, h2, (h3.alloc (Nat.le_refl _) _).more (by omega)⟩
  have hb : Bk (w.alloc (.cells (vs.map fun v => Value.slice v.1 v.2.1 v.2.2).toArray t)) w.heap.size t (vs.map fun v => Value.slice v.1 v.2.1 v.2.2).toArray := Bk.new _ _ _
  rw [hb.cell, Nat.zero_add]
  simp [List.getElem?_map, List.getElem?_eq_getElem (show i < vs.length by omega)]

set_option maxHeartbeats 400000 in
theorem framePut_long (kind : Int) (A : Option Addr) (n c : Nat) (w : World) (hn : 1024 < n) (_hm : n ≤ 9223372036854775807) :
    Calls Try.prog 14 #[.int .u8 kind, .slice A n c] w fun e w' => e = .returned (.tuple #[.slice none 0 0, .int .i64 3]) ∧ w = w' := by
  go_enter Try.func14, Try.ntmps14
  go_wp2
  go_ret2
  exact ⟨rfl, rfl⟩

set_option maxHeartbeats 1000000 in
set_option maxRecDepth 100000 in
theorem framePut_ok (kind : UInt8) (A : Option Addr) (n c : Nat) (l : List UInt8) (w : World) (hn : n ≤ 1024) (hc : n ≤ c) (hm : c ≤ 9223372036854775807) (h : Rd w w.heap.size A n l) :
    Calls Try.prog 14 #[.int .u8 (kind.toNat : Int), .slice A n c] w fun e w' => ∃ v, e = .returned (.tuple #[v, .int .i64 0]) ∧ w'.ownsRow w.heap.size 5 1 v (10 + n) (u8s (putF (kind, l))) ∧ Below w.heap.size w w' := by
  have Cn : Hid (∀ w, Calls Try.prog 30 #[.int .u32 n] w fun e w' => ∃ v, e = .returned v ∧ w'.ownsRow w.heap.size 5 1 v 4 (u8s (fixed4 n)) ∧ Below w.heap.size w w') := fun w => binPutFixed_any n w (by omega)
  have Cs : Hid (∀ w, Calls Try.prog 30 #[.int .u32 (crcSum (headF (kind, l)))] w fun e w' => ∃ v, e = .returned v ∧ w'.ownsRow w.heap.size 5 1 v 4 (u8s (fixed4 (crcSum (headF (kind, l))))) ∧ Below w.heap.size w w') := fun w => binPutFixed_any _ w (crcSum_lt _)
  have Hl := Lib.hid h.1
  have H := Lib.hid h
  clear h
  go_enter Try.func14, Try.ntmps14
  go_wp2_with fail
  refine (Cn.out _).mono ?_
  rintro e w1 ⟨v1, rfl, ho1, hb1⟩
  have B1 : Hid (Below w.heap.size w w1) := ((Below.refl w.heap.size w).alloc (Nat.le_refl _) _).trans (hb1.mono (by simp))
  have R0 : Hid (Rd w1 w1.heap.size (some ⟨w.heap.size, 0, none⟩) 2 [167, kind]) := Lib.hid (Rd.of_own (own_below (own_lit w 5 [.int .u8 167, .int .u8 (kind.toNat : Int)] 2 rfl (by simp [maxLen])) hb1 (fun k hk => by injection hk with hk; subst hk; simp)))
  obtain ⟨A1, c1, rfl, k1⟩ := own_shape ho1
  have R1 := Lib.hid (Rd.of_own ho1)
  have R2 : Hid (Rd w1 w1.heap.size A n l) := Lib.hid ((H.out.below B1.out).more B1.out.size)
  have hk1 : 4 ≤ c1 ∧ c1 ≤ 9223372036854775807 := by unfold maxLen at k1; omega
  have P1 : Hid (Parts (w1.alloc (.cells #[.slice (some ⟨w.heap.size, 0, none⟩) 2 2, .slice A1 4 c1, .slice A n c] 22)) (w1.heap.size + 1) (some ⟨w1.heap.size, 0, none⟩) 3 [[167, kind], fixed4 n, l]) := Lib.hid (by
    refine Parts.lit [(some ⟨w.heap.size, 0, none⟩, 2, 2), (A1, 4, c1), (A, n, c)] _ rfl rfl rfl rfl ?_
    intro i h1 h2
    match i, h1, h2 with
    | 0, _, _ => exact ⟨Nat.le_refl 2, show 2 ≤ 9223372036854775807 by decide, R0.out⟩
    | 1, _, _ => exact ⟨hk1.1, hk1.2, R1.out⟩
    | 2, _, _ => exact ⟨hc, hm, R2.out⟩)
  have Su := Lib.hid (sum_any (some ⟨w1.heap.size, 0, none⟩) 3 3 (w1.heap.size + 1) _ _ (by decide) P1.out)
  have B1' := Lib.hid (B1.out.alloc B1.out.size (.cells #[.slice (some ⟨w.heap.size, 0, none⟩) 2 2, .slice A1 4 c1, .slice A n c] 22))
  clear ho1 hb1 k1 Cn P1
  have e1 : [[167, kind], fixed4 n, l].flatten = headF (kind, l) := by
    rw [← Hl.out]
    simp [headF]
  rw [e1] at Su
  go_wp2_with fail
  refine Su.out.mono ?_
  rintro e w' ⟨rfl, rfl⟩
  go_wp2_with fail
  refine (Cs.out _).mono ?_
  rintro e w2 ⟨v2, rfl, ho2, hb2⟩
  have B2 := Lib.hid (B1'.out.trans (hb2.mono B1'.out.size))
  have hz1 : w1.heap.size ≤ w2.heap.size := by have := hb2.size; simp at this; omega
  have R0' : Hid (Rd w2 w2.heap.size (some ⟨w.heap.size, 0, none⟩) 2 [167, kind]) := Lib.hid (((R0.out.alloc (Nat.le_refl _) _).below (hb2.mono (by simp))).more hz1)
  have R1' : Hid (Rd w2 w2.heap.size A1 4 (fixed4 n)) := Lib.hid (((R1.out.alloc (Nat.le_refl _) _).below (hb2.mono (by simp))).more hz1)
  have R2' : Hid (Rd w2 w2.heap.size A n l) := Lib.hid (((R2.out.alloc (Nat.le_refl _) _).below (hb2.mono (by simp))).more hz1)
  obtain ⟨A2, c2, rfl, k2⟩ := own_shape ho2
  have R3 := Lib.hid (Rd.of_own ho2)
  have hk2 : 4 ≤ c2 ∧ c2 ≤ 9223372036854775807 := by unfold maxLen at k2; omega
  have P2 : Hid (Parts (w2.alloc (.cells #[.slice (some ⟨w.heap.size, 0, none⟩) 2 2, .slice A1 4 c1, .slice A n c, .slice A2 4 c2] 22)) (w2.heap.size + 1) (some ⟨w2.heap.size, 0, none⟩) 4 [[167, kind], fixed4 n, l, fixed4 (crcSum (headF (kind, l)))]) := Lib.hid (by
    refine Parts.lit [(some ⟨w.heap.size, 0, none⟩, 2, 2), (A1, 4, c1), (A, n, c), (A2, 4, c2)] _ rfl rfl rfl rfl ?_
    intro i h1 h2
    match i, h1, h2 with
    | 0, _, _ => exact ⟨Nat.le_refl 2, show 2 ≤ 9223372036854775807 by decide, R0'.out⟩
    | 1, _, _ => exact ⟨hk1.1, hk1.2, R1'.out⟩
    | 2, _, _ => exact ⟨hc, hm, R2'.out⟩
    | 3, _, _ => exact ⟨hk2.1, hk2.2, R3.out⟩)
  have e2 : [[167, kind], fixed4 n, l, fixed4 (crcSum (headF (kind, l)))].flatten = putF (kind, l) := by
    rw [← Hl.out]
    simp [putF, headF]
  have elen : (putF (kind, l)).length = 10 + n := by rw [putF_len]; simp only; rw [Hl.out]
  have Cc := concat_any (some ⟨w2.heap.size, 0, none⟩) 4 4 _ (w2.alloc (.cells #[.slice (some ⟨w.heap.size, 0, none⟩) 2 2, .slice A1 4 c1, .slice A n c, .slice A2 4 c2] 22)) (by decide) (by rw [e2, elen]; omega) (by
    have e : (w2.alloc (.cells #[.slice (some ⟨w.heap.size, 0, none⟩) 2 2, .slice A1 4 c1, .slice A n c, .slice A2 4 c2] 22)).heap.size = w2.heap.size + 1 := by simp
    rw [e]
    exact P2.out)
  rw [e2, elen] at Cc
  have CC := Lib.hid Cc
  have B2' := Lib.hid (B2.out.alloc B2.out.size (.cells #[.slice (some ⟨w.heap.size, 0, none⟩) 2 2, .slice A1 4 c1, .slice A n c, .slice A2 4 c2] 22))
  clear ho2 hb2 k2 P2 Cc e2 elen e1 Su R0 R1 R2 R0' R1' R2' R3
  go_wp2_with fail
  refine CC.out.mono ?_
  rintro e w3 ⟨v3, rfl, ho3, hb3⟩
  have Ho := Lib.hid (own_mono ho3 B2'.out.size)
  have Hb := Lib.hid (B2'.out.trans (hb3.mono B2'.out.size))
  clear ho3 hb3 CC
  go_wp2
  go_ret2
  exact ⟨_, rfl, Ho.out, Hb.out⟩
end Go.Proofs.Ytbkbmmpcjpkkaaa
