/- The program's proposer: New; a proposer that is not there. -/
import Derived.Test.YthkkkldkpdkabaaProG
namespace Go.Proofs.Ythkkkldkpdkabaa
open Go.RowKit Go.Maps

section
variable (w : World)
set_option maxRecDepth 100000 in
set_option maxHeartbeats 1000000 in
theorem ppromise_nil (x : Int) (B : Option Addr) (N C : Nat) : Calls Try.prog 16 #[.pointer none, .int .i64 x, .slice B N C] w fun e w' => e = .returned (.int .i64 1) ∧ w = w' := by
  go_enter Try.func16, Try.ntmps16
  go_wp2
  go_ret
  exact ⟨rfl, rfl⟩
set_option maxRecDepth 100000 in
set_option maxHeartbeats 1000000 in
theorem pready_nil : Calls Try.prog 19 #[.pointer none] w fun e w' => e = .returned (.bool false) ∧ Below w.heap.size w w' := by
  go_enter Try.func19, Try.ntmps19
  go_wp2_with fail
  go_quiet (fail)
  go_wp2
  go_ret
  exact ⟨rfl, bel_drewN (Below.refl _ _) _⟩
set_option maxRecDepth 100000 in
set_option maxHeartbeats 1000000 in
theorem pmust_nil (s : Nat) : Calls Try.prog 17 #[.pointer none, .int .u64 (s : Int)] w fun e w' => e = .returned (.tuple #[.slice none 0 0, .bool false]) ∧ w = w' := by
  go_enter Try.func17, Try.ntmps17
  go_wp2
  go_ret2
  exact ⟨rfl, rfl⟩
set_option maxRecDepth 100000 in
set_option maxHeartbeats 1000000 in
theorem pchosen_nil (s : Nat) : Calls Try.prog 25 #[.pointer none, .int .u64 (s : Int)] w fun e w' => e = .returned (.tuple #[.slice none 0 0, .bool false]) ∧ w = w' := by
  go_enter Try.func25, Try.ntmps25
  go_wp2
  go_ret2
  exact ⟨rfl, rfl⟩
set_option maxRecDepth 100000 in
set_option maxHeartbeats 1000000 in
theorem ptop_nil : Calls Try.prog 30 #[.pointer none] w fun e w' => e = .returned (.int .u64 0) ∧ w = w' := by
  go_enter Try.func30, Try.ntmps30
  go_wp2
  go_ret
  exact ⟨rfl, rfl⟩
set_option maxRecDepth 100000 in
set_option maxHeartbeats 1000000 in
theorem pprefix_nil : Calls Try.prog 29 #[.pointer none] w fun e w' => e = .returned (.int .u64 0) ∧ w = w' := by
  go_enter Try.func29, Try.ntmps29
  go_wp2
  go_ret
  exact ⟨rfl, rfl⟩
set_option maxRecDepth 100000 in
set_option maxHeartbeats 1000000 in
theorem paccepted_nil (x : Int) (s : Nat) : Calls Try.prog 24 #[.pointer none, .int .i64 x, .int .u64 (s : Int)] w fun e w' => e = .returned (.int .i64 1) ∧ w = w' := by
  go_enter Try.func24, Try.ntmps24
  go_wp2
  go_ret
  exact ⟨rfl, rfl⟩
set_option maxRecDepth 100000 in
set_option maxHeartbeats 1000000 in
theorem ppropose_nil (s : Nat) (oA : Option Addr) (on oc : Nat) : Calls Try.prog 20 #[.pointer none, .int .u64 (s : Int), .slice oA on oc] w fun e w' => e = .returned (.tuple #[.agg #[.int .u64 0, .int .u64 0, .int .i64 0, .slice none 0 0], .int .i64 1]) ∧ Below w.heap.size w w' := by
  obtain ⟨w1, hw1⟩ : ∃ w1, w1 = w.alloc (.cells #[.int .u64 0, .int .u64 0, .int .i64 0, .slice none 0 0] 48) := ⟨_, rfl⟩
  have hb1 : Below w.heap.size w w1 := by rw [hw1]; exact bel1P _
  have hz : Bk w1 w.heap.size 48 #[.int .u64 0, .int .u64 0, .int .i64 0, .slice none 0 0] := by rw [hw1]; exact Bk.new w _ _
  have f0 := hz.frozen 0
  have f1 := hz.frozen 1
  have f2 := hz.frozen 2
  have f3 := hz.frozen 3
  have z0 : w1.cell? ⟨w.heap.size, 0, none⟩ = some (.int .u64 0) := hz.cell 0
  have z1 : w1.cell? ⟨w.heap.size, 1, none⟩ = some (.int .u64 0) := hz.cell 1
  have z2 : w1.cell? ⟨w.heap.size, 2, none⟩ = some (.int .i64 0) := hz.cell 2
  have z3 : w1.cell? ⟨w.heap.size, 3, none⟩ = some (.slice none 0 0) := hz.cell 3
  have HZ := Lib.hid hz
  have HB := Lib.hid hb1
  have HW := Lib.hid hw1
  clear hz hb1 hw1
  go_enter Try.func20, Try.ntmps20
  go_upto_region 1 with (fail)
  rw [← HW.out]
  go_wp2
  have hkp := st4P w1 w.heap.size (.int .u64 0) (.int .u64 0) (.int .i64 0) (.slice none 0 0)
  have hk4 := HZ.out.s4P (.int .u64 0) (.int .u64 0) (.int .i64 0) (.slice none 0 0)
  generalize (((w1.setCell ⟨w.heap.size, 0, none⟩ (.int .u64 0)).setCell ⟨w.heap.size, 1, none⟩ (.int .u64 0)).setCell ⟨w.heap.size, 2, none⟩ (.int .i64 0)).setCell ⟨w.heap.size, 3, none⟩ (.slice none 0 0) = w9 at *
  have j0 : w9.cell? ⟨w.heap.size, 0, none⟩ = some (.int .u64 0) := hk4.cell 0
  have j1 : w9.cell? ⟨w.heap.size, 1, none⟩ = some (.int .u64 0) := hk4.cell 1
  have j2 : w9.cell? ⟨w.heap.size, 2, none⟩ = some (.int .i64 0) := hk4.cell 2
  have j3 : w9.cell? ⟨w.heap.size, 3, none⟩ = some (.slice none 0 0) := hk4.cell 3
  refine bodyPost_ret (by simp [results, Try.results20, go_sem, j0, j1, j2, j3]; try rfl) rfl ?_
  exact ⟨rfl, HB.out.trans (hkp.below (fun k e => by omega) HB.out.size)⟩
end
/-! ### New -/
theorem infoIntP : (Try.prog.info? 3).map (fun i => (i.zero, i.size, i.bytes)) = some (some (.int .i64 0), 1, 8) := by kernel_rfl
theorem RdI.cellsP {w : World} {B n : Nat} {A : Option Addr} {l : List Int} (h : RdI w B A n l) : ∀ ad, A = some ad → ∀ j u, (l.map (Value.int .i64))[j]? = some u → w.cell? (ad.add j) = some u := by
  intro ad e j u hu
  rw [List.getElem?_map] at hu
  obtain ⟨x, hx, rfl⟩ := Option.map_eq_some_iff.1 hu
  have hj : j < l.length := (List.getElem?_eq_some_iff.1 hx).1
  obtain ⟨b, o, e', _, hc⟩ := h.2.2 (by have := h.1; omega)
  rw [e'] at e
  obtain rfl := Option.some.inj e
  rw [Addr.add_lit, hc j hj, (List.getElem?_eq_some_iff.1 hx).2]
/-- slices.Clone of the sites. -/
theorem sit_of {w' : World} {A : Option Addr} {n c : Nat} {l : List Int} {B : Nat} (hl : l.length = n) (hr : ∀ x ∈ l, -9223372036854775808 ≤ x ∧ x ≤ 9223372036854775807) (ho : w'.ownsRow B 3 1 (.slice A n c) n (l.map (Value.int .i64))) : Sit w' (fun k => B ≤ k) A n c l := by
  obtain ⟨A', c', e, h1, h2⟩ := own_shape ho
  injection e with e1 e2 e3
  subst e3
  unfold maxLen at h2
  exact ⟨⟨h1, by omega⟩, hl, hr, fun _ => own_mono ho (Nat.zero_le _), fun _ k e => (ho.lt k e).1⟩
set_option maxRecDepth 100000 in
set_option maxHeartbeats 1000000 in
theorem cloneI_any (A : Option Addr) (n c : Nat) (l : List Int) (w : World) (hn : n ≤ 1000000) (h : RdI w w.heap.size A n l) :
    Calls Try.prog 33 #[.slice A n c] w fun e w' => ∃ A' c', e = .returned (.slice A' n c') ∧ Sit w' (fun k => w.heap.size ≤ k) A' n c' l ∧ Below w.heap.size w w' := by
  obtain ⟨i0, hi0, hz0, hz1, hz2⟩ := info_parts infoIntP
  have q := fun (w : World) (a : Option Addr) (n c n' c' : Nat) => Lib.run_eql_slice_nil (P := Try.prog) w 22 3 a n c n' c' Try.underlying22
  have hl := h.1
  have hrg := h.2.1
  cases A with
  | none =>
    have hn0 : n = 0 := by
      rcases Nat.eq_zero_or_pos n with h0 | h0
      · exact h0
      · obtain ⟨b, o, e, _⟩ := h.2.2 h0; cases e
    subst hn0
    obtain rfl : l = [] := List.eq_nil_of_length_eq_zero hl
    clear h
    go_enter Try.func33, Try.ntmps33
    go_wp2
    go_ret
    exact ⟨none, 0, rfl, sit_of rfl hrg (World.ownsRow_nil _ _ _ _), Below.refl _ _⟩
  | some a =>
    have hb0 := (Below.refl w.heap.size w).alloc (Nat.le_refl _) (.cells #[] 3)
    have h' := h.below hb0
    have Hcells := Lib.hid h'.cellsP
    have Hl := Lib.hid hl
    have Hrg := Lib.hid hrg
    clear hl hrg h h'
    go_enter Try.func33, Try.ntmps33
    go_wp2_with (at_builtin; go_loud (refine wpList_append_app _ rfl _ _ 22 rfl w.heap.size 3 i0 (.int .i64 0) 1 8 Try.underlying22 hi0 hz0 hz1 hz2 rfl _ 0 [] rfl (World.ownsRow_made w #[] 0 (Nat.le_refl _) (Nat.zero_le _) rfl) (some a) n c (l.map (Value.int .i64)) rfl (by rw [List.length_map, Hl.out, Nat.mul_one]) (by intro e; cases e) Hcells.out (by intro u hu; obtain ⟨x, _, rfl⟩ := List.mem_map.1 hu; rfl) (by unfold maxLen; omega) (by omega) (by simp) ?_))
    intro v' w1 ha
    have hb1 := ha.below hb0 (by simp) (by intro k hk; simp [Value.ownBlock] at hk; omega)
    have ho := ha.own
    rw [Nat.zero_add, List.nil_append] at ho
    obtain ⟨A', c', rfl, _⟩ := own_shape ho
    have HS := Lib.hid (sit_of Hl.out Hrg.out ho)
    have HB := Lib.hid hb1
    clear Hcells ha ho hb0 hb1
    go_wp2
    go_ret
    exact ⟨A', c', rfl, HS.out, HB.out⟩
section
variable (q : Qm) (A : Option Addr) (n c : Nat) (b : Bl) (s : Nat) (w : World) (hq : Qi w q A n c)
include hq
set_option maxRecDepth 100000 in
set_option maxHeartbeats 2000000 in
theorem pnew_bad (E : Int) (hE : E = (if q.right ≠ 0 then q.right else if b.right = false ∨ s = 0 then 2 else 0)) (h0 : E ≠ 0) : Calls Try.prog 12 #[qV q (.slice A n c), blV b, .int .u64 (s : Int)] w fun e w' => e = .returned (.tuple #[.pointer none, .int .i64 E]) ∧ Below w.heap.size w w' := by
  obtain ⟨bn, bd⟩ := b
  obtain ⟨w1, HW1, HB1, HK1⟩ := boxed q.kind q.nodes q.one q.two A n c w
  obtain ⟨w2, hw2⟩ : ∃ w2, w2 = w1.alloc (.cells #[.int .u64 (bn : Int), .int .i64 bd] 27) := ⟨_, rfl⟩
  have hb2 : Below w1.heap.size w1 w2 := by rw [hw2]; exact bel1P _
  have hs1 : w1.heap.size = w.heap.size + 1 := by rw [HW1.out]; simp
  have hk2 : Bk w2 (w.heap.size + 1) 27 #[.int .u64 (bn : Int), .int .i64 bd] := by rw [hw2, ← hs1]; exact Bk.new w1 _ _
  have HQ : Hid (∀ W, Below w2.heap.size w2 W → (W.cell? ⟨w.heap.size, 0, none⟩ = some (.int .i64 q.kind) ∧ W.cell? ⟨w.heap.size, 1, none⟩ = some (.int .i64 q.nodes) ∧ W.cell? ⟨w.heap.size, 2, none⟩ = some (.int .i64 q.one) ∧ W.cell? ⟨w.heap.size, 3, none⟩ = some (.int .i64 q.two) ∧ W.cell? ⟨w.heap.size, 4, none⟩ = some (.slice A n c)) ∧ W.cell? ⟨w.heap.size + 1, 0, none⟩ = some (.int .u64 (bn : Int)) ∧ W.cell? ⟨w.heap.size + 1, 1, none⟩ = some (.int .i64 bd)) := Lib.hid fun W hb =>
    ⟨QB.cells q.kind q.nodes q.one q.two A n c ((HK1.out.below hb2 HK1.out.lt).below hb (HK1.out.below hb2 HK1.out.lt).lt), (hk2.below hb hk2.lt).cell 0, (hk2.below hb hk2.lt).cell 1⟩
  have HRT := Lib.hid (right_any q A n c w2 (hq.up (below_then HB1.out hb2)))
  have HRA := Lib.hid (fun W => aright_any ⟨bn, bd⟩ W)
  have HB2 := Lib.hid (below_then HB1.out hb2)
  have HW2 := Lib.hid hw2
  obtain ⟨⟨q0, q1, q2, q3, q4⟩, q5, q6⟩ := HQ.out w2 (Below.refl _ _)
  unfold qV blV at *
  dsimp only at HRA ⊢
  clear hb2 hk2 hw2 hq HK1 hs1
  generalize q.right = r at *
  obtain ⟨kd, nd, on, tw, l⟩ := q
  dsimp only at *
  by_cases hr : r = 0
  · subst hr
    simp only [ne_eq, not_true_eq_false, ↓reduceIte] at hE
    cases hbr : Bl.right ⟨bn, bd⟩ with
    | false =>
      rw [hbr] at HRA hE
      simp only [true_or, ↓reduceIte] at hE
      subst hE
      clear hbr h0
      go_enter Try.func12, Try.ntmps12
      go_upto_region 1 with (fail)
      rw [← HW1.out]
      rw [← HW2.out]
      go_wp2_with fail
      refine HRT.out.mono ?_
      rintro e w3 ⟨rfl, hb3⟩
      obtain ⟨_, y5, y6⟩ := HQ.out w3 hb3
      have HB3 := Lib.hid (below_then HB2.out hb3)
      clear hb3 q0 q1 q2 q3 q4 q5 q6
      go_wp2_with fail
      refine (HRA.out _).mono ?_
      rintro e w4 ⟨rfl, hb4⟩
      have HB4 := Lib.hid (below_then HB3.out hb4)
      clear hb4 y5 y6
      go_wp2
      go_ret2
      exact ⟨rfl, HB4.out⟩
    | true =>
      rw [hbr] at HRA hE
      have hs : s = 0 := by
        rcases Nat.eq_zero_or_pos s with h | h
        · exact h
        · rw [if_neg (by simp; omega)] at hE
          exact absurd hE h0
      subst hs
      simp only [or_true, ↓reduceIte] at hE
      subst hE
      clear hbr h0
      go_enter Try.func12, Try.ntmps12
      go_upto_region 1 with (fail)
      rw [← HW1.out]
      rw [← HW2.out]
      go_wp2_with fail
      refine HRT.out.mono ?_
      rintro e w3 ⟨rfl, hb3⟩
      obtain ⟨_, y5, y6⟩ := HQ.out w3 hb3
      have HB3 := Lib.hid (below_then HB2.out hb3)
      clear hb3 q0 q1 q2 q3 q4 q5 q6
      go_wp2_with fail
      refine (HRA.out _).mono ?_
      rintro e w4 ⟨rfl, hb4⟩
      have HB4 := Lib.hid (below_then HB3.out hb4)
      clear hb4 y5 y6
      go_wp2
      go_ret2
      exact ⟨rfl, HB4.out⟩
  · rw [if_pos hr] at hE
    subst hE
    clear h0
    go_enter Try.func12, Try.ntmps12
    go_upto_region 1 with (fail)
    rw [← HW1.out]
    rw [← HW2.out]
    go_wp2_with fail
    refine HRT.out.mono ?_
    rintro e w3 ⟨rfl, hb3⟩
    have HB3 := Lib.hid (below_then HB2.out hb3)
    clear hb3 q0 q1 q2 q3 q4 q5 q6
    go_wp2
    go_ret2
    exact ⟨rfl, HB3.out⟩
/-- A new proposer: all of it is new. -/
def NewR (q : Qm) (b : Bl) (s : Nat) (w : World) (e : Ending) (w' : World) : Prop := ∃ g F, e = .returned (.tuple #[.pointer (some ⟨g, 0, none⟩), .int .i64 0]) ∧ PPM w' F g (Pp.new q b s) ∧ (∀ k, F k → w.heap.size ≤ k) ∧ Below w.heap.size w w'
set_option maxRecDepth 100000 in
set_option maxHeartbeats 4000000 in
theorem pnew_any (hr : q.right = 0) (hbr : b.right = true) (hbn : b.n < 18446744073709551616) (hs0 : 0 < s) (hs : s < 18446744073709551616) (hn : n ≤ 1000000) : Calls Try.prog 12 #[qV q (.slice A n c), blV b, .int .u64 (s : Int)] w (NewR q b s w) := by
  obtain ⟨bn, bd⟩ := b
  dsimp only at hbn
  obtain ⟨w1, HW1, HB1, HK1⟩ := boxed q.kind q.nodes q.one q.two A n c w
  obtain ⟨w2, hw2⟩ : ∃ w2, w2 = w1.alloc (.cells #[.int .u64 (bn : Int), .int .i64 bd] 27) := ⟨_, rfl⟩
  have hb2 : Below w1.heap.size w1 w2 := by rw [hw2]; exact bel1P _
  have hs1 : w1.heap.size = w.heap.size + 1 := by rw [HW1.out]; simp
  have hs2 : w2.heap.size = w.heap.size + 2 := by rw [hw2]; simp [hs1]
  have hk2 : Bk w2 (w.heap.size + 1) 27 #[.int .u64 (bn : Int), .int .i64 bd] := by rw [hw2, ← hs1]; exact Bk.new w1 _ _
  have HQ : Hid (∀ W, Below w2.heap.size w2 W → (W.cell? ⟨w.heap.size, 0, none⟩ = some (.int .i64 q.kind) ∧ W.cell? ⟨w.heap.size, 1, none⟩ = some (.int .i64 q.nodes) ∧ W.cell? ⟨w.heap.size, 2, none⟩ = some (.int .i64 q.one) ∧ W.cell? ⟨w.heap.size, 3, none⟩ = some (.int .i64 q.two) ∧ W.cell? ⟨w.heap.size, 4, none⟩ = some (.slice A n c)) ∧ W.cell? ⟨w.heap.size + 1, 0, none⟩ = some (.int .u64 (bn : Int)) ∧ W.cell? ⟨w.heap.size + 1, 1, none⟩ = some (.int .i64 bd) ∧ W.frozen? ⟨w.heap.size, 4, none⟩ = false) := Lib.hid fun W hb =>
    ⟨QB.cells q.kind q.nodes q.one q.two A n c ((HK1.out.below hb2 HK1.out.lt).below hb (HK1.out.below hb2 HK1.out.lt).lt), (hk2.below hb hk2.lt).cell 0, (hk2.below hb hk2.lt).cell 1, ((HK1.out.below hb2 HK1.out.lt).below hb (HK1.out.below hb2 HK1.out.lt).lt).frozen 4⟩
  have HRT := Lib.hid (right_any q A n c w2 (hq.up (below_then HB1.out hb2)))
  rw [hr] at HRT
  have HRA := Lib.hid (fun W => aright_any ⟨bn, bd⟩ W)
  rw [hbr] at HRA
  have HCl := Lib.hid (fun W (hb : Below w2.heap.size w2 W) => cloneI_any A n c q.sites W hn (hq.up (below_then HB1.out (below_then hb2 hb))).rd)
  have HB2 := Lib.hid (below_then HB1.out hb2)
  have HW2 := Lib.hid hw2
  have HS2 := Lib.hid hs2
  have m1 : ¬ ((s : Int) = 0) := by omega
  have m2 : IntKind.u64.wrap ((s : Int) - 1) = ((s - 1 : Nat) : Int) := by rw [IntKind.wrap_u64]; omega
  have hmm := @run_makeMap Try.prog
  -- the end: two maps and the proposer's block, made one behind the other
  have HD : Hid (∀ W A' c', Below w.heap.size w W → Sit W (fun k => w2.heap.size ≤ k) A' n c' q.sites → NewR q ⟨bn, bd⟩ s w (.returned (.tuple #[.pointer (some ⟨W.heap.size + 1 + 1, 0, none⟩), .int .i64 0])) (((W.alloc (.map #[] 0)).alloc (.map #[] 0)).alloc (.cells (ppA (Pp.new q ⟨bn, bd⟩ s) (.slice A' n c') W.heap.size (W.heap.size + 1)) 81))) := Lib.hid fun W A' c' hb hsit => by
    have b1 : Below W.heap.size W (W.alloc (.map #[] 0)) := bel1P _
    have s1 : (W.alloc (.map #[] 0)).heap.size = W.heap.size + 1 := by simp
    have b2 : Below (W.alloc (.map #[] 0)).heap.size (W.alloc (.map #[] 0)) ((W.alloc (.map #[] 0)).alloc (.map #[] 0)) := bel1P _
    have s2 : ((W.alloc (.map #[] 0)).alloc (.map #[] 0)).heap.size = W.heap.size + 1 + 1 := by simp
    have b3 : Below ((W.alloc (.map #[] 0)).alloc (.map #[] 0)).heap.size ((W.alloc (.map #[] 0)).alloc (.map #[] 0)) (((W.alloc (.map #[] 0)).alloc (.map #[] 0)).alloc (.cells (ppA (Pp.new q ⟨bn, bd⟩ s) (.slice A' n c') W.heap.size (W.heap.size + 1)) 81)) := bel1P _
    have hbA := below_then b1 (below_then b2 b3)
    have m1 : OwnB tmE (W.alloc (.map #[] 0)) W.heap.size 0 [] := OwnB.made W
    have m2 : OwnB prE ((W.alloc (.map #[] 0)).alloc (.map #[] 0)) (W.alloc (.map #[] 0)).heap.size 0 [] := OwnB.made _
    have hb' := below_then b2 b3
    have hz := hb.size
    have hz2 := HS2.out
    have hbk := Bk.new ((W.alloc (.map #[] 0)).alloc (.map #[] 0)) 81 (ppA (Pp.new q ⟨bn, bd⟩ s) (.slice A' n c') W.heap.size (W.heap.size + 1))
    rw [s2] at hbk
    rw [s1] at m2
    refine ⟨W.heap.size + 1 + 1, fun k => w.heap.size ≤ k ∧ k < (((W.alloc (.map #[] 0)).alloc (.map #[] 0)).alloc (.cells (ppA (Pp.new q ⟨bn, bd⟩ s) (.slice A' n c') W.heap.size (W.heap.size + 1)) 81)).heap.size, rfl, ⟨W.heap.size, W.heap.size + 1, A', n, c', [], [], ?_⟩, fun k hk => hk.1, hb.trans (hbA.mono hb.size)⟩
    refine ⟨hbk, ?_, m1.kp (F := fun _ => False) (Kp.of_below hb') (fun h => h), m2.kp (F := fun _ => False) (Kp.of_below b3) (fun h => h), fun e he => (List.not_mem_nil he).elim, fun e he => (List.not_mem_nil he).elim, fun e he => (List.not_mem_nil he).elim, fun e he => (List.not_mem_nil he).elim, rfl, rfl, Pp.Ok.new hr hbr hbn hs0 hs, ⟨hq.kind, hq.nodes, hq.one, hq.two⟩, ⟨by omega, by simp⟩, ⟨hz, by simp; omega⟩, ⟨by omega, by simp⟩, by omega, fun e he => (List.not_mem_nil he).elim, fun e he => (List.not_mem_nil he).elim, fun e he => (List.not_mem_nil he).elim, fun k hk => hk.2⟩
    have hs3 := hsit.keep (F' := fun k => w.heap.size ≤ k) (Kp.of_below hbA) (fun _ _ _ hf => hf) (fun k hk => by omega)
    exact ⟨hs3.cap, hs3.len, hs3.num, hs3.own, fun hn k e => ⟨hs3.foot hn k e, ((hs3.own hn).lt k e).2⟩⟩
  obtain ⟨⟨q0, q1, q2, q3, q4⟩, q5, q6, _⟩ := HQ.out w2 (Below.refl _ _)
  unfold ppA Pp.new at HD
  unfold qV blV at *
  dsimp only at HRA HD ⊢
  clear hb2 hk2 hw2 hq HK1 hs1 hs2 hr hbr
  obtain ⟨kd, nd, on, tw, l⟩ := q
  dsimp only at *
  go_enter Try.func12, Try.ntmps12
  go_upto_region 1 with (fail)
  rw [← HW1.out]
  rw [← HW2.out]
  go_wp2_with fail
  refine HRT.out.mono ?_
  rintro e w3 ⟨rfl, hb3⟩
  obtain ⟨_, y5, y6, _⟩ := HQ.out w3 hb3
  have HB3 := Lib.hid hb3
  clear hb3 q0 q1 q2 q3 q4 q5 q6
  go_wp2_with fail
  refine (HRA.out _).mono ?_
  rintro e w4 ⟨rfl, hb4⟩
  have HB4 := Lib.hid (below_then HB3.out hb4)
  clear hb4 y5 y6
  obtain ⟨⟨q0, q1, q2, q3, q4⟩, q5, q6, fr4⟩ := HQ.out w4 HB4.out
  go_wp2_with fail
  refine (HCl.out w4 HB4.out).mono ?_
  rintro e w5 ⟨A5, c5, rfl, hsit, hb5⟩
  have hb25 := below_then HB4.out hb5
  clear q0 q1 q2 q3 q4 q5 q6 fr4
  obtain ⟨⟨q0, q1, q2, q3, q4⟩, q5, q6, fr4⟩ := HQ.out w5 hb25
  have hk6 : Kp (fun j => j = w.heap.size) w5 (w5.setCell ⟨w.heap.size, 4, none⟩ (.slice A5 n c5)) := Kp.set_ (F := fun j => j = w.heap.size) (p := ⟨w.heap.size, 4, none⟩) rfl _
  have HD6 := Lib.hid (HD.out (w5.setCell ⟨w.heap.size, 4, none⟩ (.slice A5 n c5)) A5 c5 ((below_then HB2.out hb25).trans (hk6.below (fun k e => by omega) (below_then HB2.out hb25).size))
    (hsit.keep hk6 (fun hn k e1 e2 => by have h1 := ((hsit.own hn).lt k e1).1; have h2 := hsit.foot hn k e1; have h3 := HB4.out.size; have h4 := HS2.out; omega) (fun k hk => by have h3 := HB4.out.size; omega)))
  clear hsit hb5 hb25 HD HCl HRA HRT hk6 HQ
  have hz6 : (w5.setCell ⟨w.heap.size, 4, none⟩ (.slice A5 n c5)).heap.size = w5.heap.size := by simp [World.setCell]
  rw [hz6] at HD6
  clear hz6
  go_upto_region 7 with (fail)
  go_wp2
  go_ret2
  exact HD6.out
end
end Go.Proofs.Ythkkkldkpdkabaa
