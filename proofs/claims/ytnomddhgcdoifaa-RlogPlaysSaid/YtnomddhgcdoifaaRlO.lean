/- Layer 12, the program's log: Apply. -/
import Derived.Test.YtnomddhgcdoifaaRlL
namespace Go.Proofs.Ytnomddhgcdoifaa
open Go.RowKit

def ApE (w : World) (F : Nat → Prop) (g : Nat) (p : Rl) (e : Ending) (w' : World) : Prop :=
  ∃ s, e = .returned (.tuple #[enV p.told.1 s, .bool p.told.2]) ∧ w'.ownsRow w.heap.size 5 1 (s3W s) p.told.1.val.length (u8s p.told.1.val) ∧ PL w' F g p.apply ∧ Kp F w w'
set_option maxRecDepth 100000 in
theorem eapply_nil (w : World) : Calls Try.prog 19 #[.pointer none] w fun e w' => e = .returned (.tuple #[enV ⟨0, []⟩ (none, 0, 0), .bool false]) ∧ Below w.heap.size w w' := by
  obtain ⟨w1, hw1⟩ : ∃ w1, w1 = w.alloc (.cells #[.int .u64 0, .slice none 0 0] 45) := ⟨_, rfl⟩
  have hb1 : Below w.heap.size w w1 := by rw [hw1]; exact bel1L _ _
  have hk1 : Bk w1 w.heap.size 45 #[.int .u64 0, .slice none 0 0] := by rw [hw1]; exact Bk.new w _ _
  have HW1 := Lib.hid hw1
  have HB1 := Lib.hid hb1
  have HK1 := Lib.hid hk1
  have u0 : w1.cell? ⟨w.heap.size, 0, none⟩ = some (.int .u64 0) := hk1.cell 0
  have u1 : w1.cell? ⟨w.heap.size, 1, none⟩ = some (.slice none 0 0) := hk1.cell 1
  have v0 := hk1.frozen 0
  have v1 := hk1.frozen 1
  clear hw1 hb1 hk1
  go_enter Try.func19, Try.ntmps19
  go_upto_region 1 with (fail)
  rw [← HW1.out]
  go_wp2_with fail
  have hk5 : Bk ((w1.setCell ⟨w.heap.size, 0, none⟩ (.int .u64 0)).setCell ⟨w.heap.size, 1, none⟩ (.slice none 0 0)) w.heap.size 45 #[.int .u64 0, .slice none 0 0] := (HK1.out.set_ 0 _).set_ 1 _
  have hk45 : Kp (fun j => j = w.heap.size) w1 ((w1.setCell ⟨w.heap.size, 0, none⟩ (.int .u64 0)).setCell ⟨w.heap.size, 1, none⟩ (.slice none 0 0)) := (Kp.set_ (F := fun j => j = w.heap.size) (p := ⟨w.heap.size, 0, none⟩) rfl _).trans (Kp.set_ (F := fun j => j = w.heap.size) (p := ⟨w.heap.size, 1, none⟩) rfl _)
  generalize (w1.setCell ⟨w.heap.size, 0, none⟩ (.int .u64 0)).setCell ⟨w.heap.size, 1, none⟩ (.slice none 0 0) = w5 at *
  have j0 : w5.cell? ⟨w.heap.size, 0, none⟩ = some (.int .u64 0) := hk5.cell 0
  have j1 : w5.cell? ⟨w.heap.size, 1, none⟩ = some (.slice none 0 0) := hk5.cell 1
  refine bodyPost_ret (by simp [results, Try.results19, go_sem, j0, j1]; try rfl) rfl ?_
  exact ⟨rfl, HB1.out.trans (hk45.below (fun k e => by omega) HB1.out.size)⟩
set_option maxRecDepth 100000 in
set_option maxHeartbeats 4000000 in
theorem eapply_any {w : World} {F : Nat → Prop} {g : Nat} {p : Rl} (h : PL w F g p) : Calls Try.prog 19 #[.pointer (some ⟨g, 0, none⟩)] w (ApE w F g p) := by
  have HP := Lib.hid h
  obtain ⟨A, N, c, es, hbk, hrow, heq, hNp, hok, hFg, hlt⟩ := h
  have hel : N = es.length := by rw [hNp, ← heq, List.length_map]
  have hN4 := hok.len
  have hap := hok.ap
  rw [← hNp] at hN4
  obtain ⟨T, hT⟩ : ∃ T, T = p.ap + 1 := ⟨_, rfl⟩
  have hgw := hbk.lt
  obtain ⟨w1, hw1⟩ : ∃ w1, w1 = w.alloc (.cells #[.int .u64 0, .slice none 0 0] 45) := ⟨_, rfl⟩
  have hb1 : Below w.heap.size w w1 := by rw [hw1]; exact bel1L _ _
  have hk1 : Bk w1 w.heap.size 45 #[.int .u64 0, .slice none 0 0] := by rw [hw1]; exact Bk.new w _ _
  have hs1 : w1.heap.size = w.heap.size + 1 := by rw [hw1]; simp
  have HFd : Hid (Calls Try.prog 34 #[.slice A N c, .int .u64 (T : Int)] w1.drew fun e w' => e = .returned (.tuple #[.int .i64 (findE T p.row : Int), .bool (hasE T p.row)]) ∧ Hid (Below w1.heap.size w1 w')) := Lib.hid (by
    have := efind_any (hrow.below (w' := w1.drew) hb1.drew) (by rw [heq]; exact hok.rise) (by omega) T
    rw [heq] at this
    refine this.mono ?_
    rintro e w' ⟨rfl, hb⟩
    exact ⟨rfl, Lib.hid (below_then (w1 := w1.drew) (Below.refl _ _).drew hb)⟩)
  have HC : Hid (∀ W, Below w1.heap.size w1 W → Bk W g 51 #[.int .u64 (p.ap : Int), .slice A N c] ∧ Bk W w.heap.size 45 #[.int .u64 0, .slice none 0 0] ∧ Below w.heap.size w W) := Lib.hid fun W hb => by
    have hb0 := below_then hb1 hb
    exact ⟨hbk.below hb0 hgw, hk1.below hb (by omega), hb0⟩
  have e1 : IntKind.u64.wrap ((p.ap : Int) + 1) = (T : Int) := by rw [IntKind.wrap_u64]; omega
  have c0 : w1.cell? ⟨g, 0, none⟩ = some (.int .u64 (p.ap : Int)) := (hbk.below hb1 hgw).cell 0
  have c1 : w1.cell? ⟨g, 1, none⟩ = some (.slice A N c) := (hbk.below hb1 hgw).cell 1
  have HW1 := Lib.hid hw1
  cases hh : hasE T p.row with
  | false =>
    have ht : p.told = (⟨0, []⟩, false) := by unfold Rl.told; rw [if_neg (by unfold Rl.has; rw [← hT, hh]; decide)]
    have ha : p.apply = p := by unfold Rl.apply; rw [if_neg (by unfold Rl.has; rw [← hT, hh]; decide)]
    rw [hh] at HFd
    unfold ApE
    rw [ht, ha]
    generalize findE T p.row = k at *
    clear hbk hrow heq hNp hok hFg hlt hel hN4 hap hT hh ht ha hw1 hb1 hk1 hs1
    go_enter Try.func19, Try.ntmps19
    go_upto_region 1 with (fail)
    rw [← HW1.out]
    go_upto_region 3 with (fail)
    go_region_law (go_simp; go_at_call 34; (refine HFd.out.mono ?_); rintro e w2 ⟨rfl, HB2⟩)
    all_goals
      obtain ⟨b1, b2, b3⟩ := HC.out w2 HB2.out
      have u0 : w2.cell? ⟨w.heap.size, 0, none⟩ = some (.int .u64 0) := b2.cell 0
      have u1 : w2.cell? ⟨w.heap.size, 1, none⟩ = some (.slice none 0 0) := b2.cell 1
      have v0 := b2.frozen 0
      have v1 := b2.frozen 1
      have HB3 := Lib.hid b3
      have HK2 := Lib.hid b2
      clear b1 b2 b3
      go_wp2_with fail
      have hk5 : Bk ((w2.setCell ⟨w.heap.size, 0, none⟩ (.int .u64 0)).setCell ⟨w.heap.size, 1, none⟩ (.slice none 0 0)) w.heap.size 45 #[.int .u64 0, .slice none 0 0] := (HK2.out.set_ 0 _).set_ 1 _
      have hk45 : Kp (fun j => j = w.heap.size) w2 ((w2.setCell ⟨w.heap.size, 0, none⟩ (.int .u64 0)).setCell ⟨w.heap.size, 1, none⟩ (.slice none 0 0)) := (Kp.set_ (F := fun j => j = w.heap.size) (p := ⟨w.heap.size, 0, none⟩) rfl _).trans (Kp.set_ (F := fun j => j = w.heap.size) (p := ⟨w.heap.size, 1, none⟩) rfl _)
      generalize (w2.setCell ⟨w.heap.size, 0, none⟩ (.int .u64 0)).setCell ⟨w.heap.size, 1, none⟩ (.slice none 0 0) = w5 at *
      have j0 : w5.cell? ⟨w.heap.size, 0, none⟩ = some (.int .u64 0) := hk5.cell 0
      have j1 : w5.cell? ⟨w.heap.size, 1, none⟩ = some (.slice none 0 0) := hk5.cell 1
      refine bodyPost_ret (by simp [results, Try.results19, go_sem, j0, j1]; try rfl) rfl ?_
      have hb5 : Below w.heap.size w w5 := HB3.out.trans (hk45.below (fun k e => by omega) HB3.out.size)
      exact ⟨(none, 0, 0), rfl, World.ownsRow_nil _ _ _ _, HP.out.below hb5, Kp.of_below hb5⟩
  | true =>
    have hhas : p.has (p.ap + 1) = true := by unfold Rl.has; rw [← hT]; exact hh
    have ht : p.told = (p.at_ (p.ap + 1), true) := by unfold Rl.told; rw [if_pos hhas]
    have ha : p.apply = { p with ap := T } := by unfold Rl.apply; rw [if_pos hhas, hT]
    have hok' : p.apply.Ok := hok.apply
    rw [hh] at HFd
    obtain ⟨hk, ea, es1⟩ := Rl.at_eq hhas
    rw [← hT] at hk
    have hke : findE T p.row < es.length := by rw [← hel, hNp]; exact hk
    have hkN : findE T p.row < N := by omega
    have eat : p.at_ (p.ap + 1) = es[findE T p.row].1 := by rw [ea]; simp only [← heq, List.getElem_map, hT]
    have hbod := hrow.body (List.getElem_mem hke)
    have hvl : es[findE T p.row].1.val.length ≤ 1000000 := by
      have := hok.val _ (by rw [← heq]; exact List.mem_map_of_mem (List.getElem_mem hke))
      omega
    have HCell : Hid (∀ W, Kp (fun j => j = g) w W → ∃ b, A = some ⟨b, 0, none⟩ ∧ W.cell? ⟨b, findE T p.row * 2, none⟩ = some (.int .u64 (es[findE T p.row].1.slot : Int)) ∧ W.cell? ⟨b, findE T p.row * 2 + 1, none⟩ = some (s3W es[findE T p.row].2) ∧ Calls Try.prog 32 #[enV es[findE T p.row].1 es[findE T p.row].2] W (EnNew W es[findE T p.row].1)) := Lib.hid fun W hk => by
      obtain ⟨b, c', e3, _, _, _, q0, q1⟩ := (hrow.keep hk (hrow.off hbk)).cell _ hke
      injection e3 with e3 _ _
      exact ⟨b, e3, q0, q1, eclone_any _ _ (RdF.rd (RdF.of_own (own_kp (hrow.each _ (List.getElem_mem hke)) hk fun k e => hrow.off hbk k (.inr ⟨_, List.getElem_mem hke, e⟩)))) hvl⟩
    have HPL : Hid (∀ W, Kp (fun j => j = g) w W → Bk W g 51 #[.int .u64 (T : Int), .slice A N c] → PL W F g p.apply) := Lib.hid fun W hk hb => by
      rw [ha]
      exact ⟨A, N, c, es, hb, hrow.keep hk (hrow.off hbk), heq, hNp, ha ▸ hok', hFg, fun k hk2 => Nat.lt_of_lt_of_le (hlt k hk2) hk.size⟩
    unfold ApE
    rw [ht, eat]
    have HFg := Lib.hid hFg
    generalize findE T p.row = k at *
    generalize es[k].1 = v at *
    generalize es[k].2 = s at *
    have m1 : (k : Int) < (N : Int) := by omega
    have m0 : ¬ (k : Int) < 0 := by omega
    clear hbk hrow heq hNp hok hFg hlt hel hN4 hap hT hh ht ha hw1 hb1 hk1 hok' hk ea es1 hke hkN eat hbod hvl hhas
    go_enter Try.func19, Try.ntmps19
    go_upto_region 1 with (fail)
    rw [← HW1.out]
    go_upto_region 3 with (fail)
    go_region_law (go_simp; go_at_call 34; (refine HFd.out.mono ?_); rintro e w2 ⟨rfl, HB2⟩)
    all_goals
      obtain ⟨b1, b2, b3⟩ := HC.out w2 HB2.out
      have d0 : w2.cell? ⟨g, 0, none⟩ = some (.int .u64 (p.ap : Int)) := b1.cell 0
      have d1 : w2.cell? ⟨g, 1, none⟩ = some (.slice A N c) := b1.cell 1
      have df := b1.frozen 0
      obtain ⟨w3, hw3⟩ : ∃ w3, w3 = w2.setCell ⟨g, 0, none⟩ (.int .u64 (T : Int)) := ⟨_, rfl⟩
      have hk23 : Kp (fun j => j = g) w2 w3 := by rw [hw3]; exact Kp.set_ (F := fun j => j = g) (p := ⟨g, 0, none⟩) rfl _
      have hb3 : Bk w3 g 51 #[.int .u64 (T : Int), .slice A N c] := by rw [hw3]; exact b1.set_ 0 _
      have hr3 : Bk w3 w.heap.size 45 #[.int .u64 0, .slice none 0 0] := b2.kp hk23 (by omega)
      have hkw3 : Kp (fun j => j = g) w w3 := (Kp.of_below b3).trans hk23
      obtain ⟨b, rfl, q0, q1, hcl⟩ := HCell.out w3 hkw3
      have HCl := Lib.hid hcl
      have t1 : w3.cell? ⟨g, 1, none⟩ = some (.slice (some ⟨b, 0, none⟩) N c) := hb3.cell 1
      have HW3 := Lib.hid hw3
      have HX := Lib.hid (And.intro hb3 (And.intro hr3 hkw3))
      clear hcl hb3 hr3 hkw3 hk23 b1 b2 b3 hw3 HCell
      go_upto_region 7 with (fail)
      rw [← HW3.out]
      unfold enV at HCl
      obtain ⟨sA, sN, sC⟩ := s
      unfold s3W at q1 HCl
      dsimp only at q1 HCl
      go_wp2_with fail
      refine HCl.out.mono ?_
      rintro e w4 ⟨⟨sA4, sN4, sC4⟩, rfl, ho, hb4⟩
      unfold enV s3W
      dsimp only
      obtain ⟨y1, y2, y3⟩ := HX.out
      have hr4 : Bk w4 w.heap.size 45 #[.int .u64 0, .slice none 0 0] := y2.below hb4 y2.lt
      have hb4g : Bk w4 g 51 #[.int .u64 (T : Int), .slice (some ⟨b, 0, none⟩) N c] := y1.below hb4 y1.lt
      have u0 : w4.cell? ⟨w.heap.size, 0, none⟩ = some (.int .u64 0) := hr4.cell 0
      have u1 : w4.cell? ⟨w.heap.size, 1, none⟩ = some (.slice none 0 0) := hr4.cell 1
      have v0 := hr4.frozen 0
      have v1 := hr4.frozen 1
      have HO := Lib.hid ho
      have HK4 := Lib.hid hr4
      have HG4 := Lib.hid hb4g
      have HB4 := Lib.hid (y3.trans (Kp.of_below hb4))
      have HS4 := Lib.hid (show w.heap.size + 1 ≤ w3.heap.size by have := y3.size; have := y2.lt; omega)
      clear ho hr4 hb4g hb4 y1 y2 y3 HX
      go_wp2_with fail
      have hk5 : Bk ((w4.setCell ⟨w.heap.size, 0, none⟩ (.int .u64 (v.slot : Int))).setCell ⟨w.heap.size, 1, none⟩ (.slice sA4 sN4 sC4)) w.heap.size 45 #[.int .u64 (v.slot : Int), .slice sA4 sN4 sC4] := (HK4.out.set_ 0 _).set_ 1 _
      have hk45 : Kp (fun j => j = w.heap.size) w4 ((w4.setCell ⟨w.heap.size, 0, none⟩ (.int .u64 (v.slot : Int))).setCell ⟨w.heap.size, 1, none⟩ (.slice sA4 sN4 sC4)) := (Kp.set_ (F := fun j => j = w.heap.size) (p := ⟨w.heap.size, 0, none⟩) rfl _).trans (Kp.set_ (F := fun j => j = w.heap.size) (p := ⟨w.heap.size, 1, none⟩) rfl _)
      generalize (w4.setCell ⟨w.heap.size, 0, none⟩ (.int .u64 (v.slot : Int))).setCell ⟨w.heap.size, 1, none⟩ (.slice sA4 sN4 sC4) = w5 at *
      have j0 : w5.cell? ⟨w.heap.size, 0, none⟩ = some (.int .u64 (v.slot : Int)) := hk5.cell 0
      have j1 : w5.cell? ⟨w.heap.size, 1, none⟩ = some (.slice sA4 sN4 sC4) := hk5.cell 1
      refine bodyPost_ret (by simp [results, Try.results19, go_sem, j0, j1]; try rfl) rfl ?_
      have hkw5 : Kp (fun j => j = g) w w5 := HB4.out.trans' hk45 fun k e => .inr (by omega)
      have hs4 := HS4.out
      refine ⟨(sA4, sN4, sC4), rfl, own_mono (own_kp HO.out hk45 fun k e1 e2 => by have := (HO.out.lt k e1).1; omega) (by omega), HPL.out w5 hkw5 (HG4.out.kp hk45 (by omega)), hkw5.mono fun k e => by rw [e]; exact HFg.out⟩
end Go.Proofs.Ytnomddhgcdoifaa
