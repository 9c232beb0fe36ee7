/- Of the proofs of layer 4, merged: SynLo. -/
import Derived.Test.YtjapmolmgfaocaaM1SynLm

/- The program's Look, walked: a letter with a vote. -/
namespace Go.Proofs.Ytjapmolmgfaocaa
open Go.RowKit Go.Maps

section
variable {w : World} {col : Nat → Nat} {g N n : Nat} {r : Ro}
set_option maxRecDepth 100000 in
set_option maxHeartbeats 4000000 in
theorem look_one (h : RoM w col g N n r) (a : Int) (hi : r.is a = true) (v : Vt) (hlen : (r.at_ a).votes = [v]) : Calls Try.prog 25 #[.pointer (some ⟨g, 0, none⟩), .int .i64 a] w (LookR w (r.look a).1 (r.look a).2) := by
  have hi' := Ro.is_iff.1 hi
  obtain ⟨k, rfl⟩ := Int.eq_ofNat_of_zero_le hi'.1
  rw [Int.toNat_natCast] at hi'
  have ht : r.look (k : Int) = (r.at_ (k : Int), true) := by unfold Ro.look; rw [if_pos hi]
  rw [ht]
  obtain ⟨W0, hW0⟩ : ∃ W0, W0 = w.alloc (.cells #[.int .i64 0, .int .i64 0, .int .i64 0, .int .u64 0, .int .i64 0, .slice none 0 0] 63) := ⟨_, rfl⟩
  have hb0 : Below w.heap.size w W0 := by rw [hW0]; exact bel1P _
  have hs0 : W0.heap.size = w.heap.size + 1 := by rw [hW0]; simp
  have hk0 : Bk W0 w.heap.size 63 #[.int .i64 0, .int .i64 0, .int .i64 0, .int .u64 0, .int .i64 0, .slice none 0 0] := by rw [hW0]; exact Bk.new w _ _
  have HT := Lib.hid (thereM (h.below hb0) (k : Int))
  rw [hi] at HT
  obtain ⟨A, sn', sc, R0, rc, np, es, hc⟩ := h.below hb0
  have hke : k < es.length := by rw [hc.elen]; exact hi'.2
  have hki : (k : Int) < (es.length : Int) := by omega
  have hat := hc.at_ k hke
  obtain ⟨bb, rfl, hrl, hrm, q0, q1, q2, q3, q4, q5⟩ := hc.letter k hke
  have c6 : W0.cell? ⟨g, 6, none⟩ = some (.slice (some ⟨bb, 0, none⟩) es.length rc) := hc.bk.cell 6
  obtain ⟨hv, hvm⟩ := hc.each _ (List.getElem_mem hke)
  have hmo := h.ok.row _ (Ro.at_mem hi)
  rw [hat] at hlen hmo ⊢
  obtain ⟨⟨m, ⟨sA, sN, sC⟩, vs⟩, hek⟩ : ∃ x, es[k] = x := ⟨_, rfl⟩
  rw [hek] at q0 q1 q2 q3 q4 q5 hv hvm hlen hmo ⊢
  dsimp only at q0 q1 q2 q3 q4 q5 hv hvm hlen hmo ⊢
  obtain ⟨W1, hW1⟩ : ∃ W1, W1 = W0.alloc (.cells #[.int .i64 (m.kind : Int), .int .i64 (m.frm : Int), .int .i64 (m.dst : Int), .int .u64 (m.bal.n : Int), .int .i64 m.bal.node, .slice sA sN sC] 63) := ⟨_, rfl⟩
  have hb1 : Below W0.heap.size W0 W1 := by rw [hW1]; exact bel1P _
  have hs1 : W1.heap.size = w.heap.size + 2 := by rw [hW1]; simp [hs0]
  have hk1 : Bk W1 (w.heap.size + 1) 63 #[.int .i64 (m.kind : Int), .int .i64 (m.frm : Int), .int .i64 (m.dst : Int), .int .u64 (m.bal.n : Int), .int .i64 m.bal.node, .slice sA sN sC] := by
    rw [hW1, ← hs0]; exact Bk.new W0 _ _
  have hk01 := hk0.below hb1 hk0.lt
  have hv1 : VsR W1 (fun k => col k = 4) sA sN sC vs := VsR.below hv hb1
  have hsN : vs.length = sN := hv1.len
  obtain ⟨⟨v2, ⟨xA, xn, xc⟩⟩, rfl⟩ : ∃ x, vs = [x] := by
    rw [hvm] at hlen
    match vs, hlen with
    | [x], _ => exact ⟨x, rfl⟩
  obtain rfl : v2 = v := by rw [hvm] at hlen; exact (List.cons.inj hlen).1
  obtain rfl : sN = 1 := by rw [← hsN]; rfl
  have HVm := Lib.hid hlen
  have HCl := Lib.hid (cloneVs_any hv1 (by omega))
  have hxe := hv1.each _ (List.mem_cons_self ..)
  dsimp only at hxe
  have hxl : v2.val.length ≤ 100 := (hmo.votes v2 (by rw [hlen]; exact List.mem_cons_self ..)).len
  obtain rfl : v2.val.length = xn := hxe.2.2.1.1
  have hclt := hc.lt
  have HV : Hid (∀ W, Kp (fun j => j = w.heap.size + 1) W1 W → Calls Try.prog 32 #[.agg #[.int .u64 (v2.slot : Int), .int .u64 (v2.bal.n : Int), .int .i64 v2.bal.node, .slice xA v2.val.length xc]] W (CloneV W v2)) := Lib.hid fun W hb => vclone_any v2 xA xc W (RdG.kp hxe.2.2.1 hb fun j e e2 => by have := hclt j (by rw [e]; decide); omega).rd hxl
  clear hvm hlen hsN hxe hxl hclt
  have HW0 := Lib.hid hW0
  have HW1 := Lib.hid hW1
  have HK0 := Lib.hid hk01
  have HK1 := Lib.hid hk1
  have HB := Lib.hid (below_then hb0 hb1)
  have HS1 := Lib.hid hs1
  have m5 : W1.cell? ⟨w.heap.size + 1, 5, none⟩ = some (.slice sA 1 sC) := hk1.cell 5
  clear hW0 hW1 hk0 hk01 hk1 hb0 hb1 hs1 h hi hi' ht hc hat hek hv hv1 hmo
  go_enter Try.func25, Try.ntmps25
  go_upto_region 1 with (fail)
  rw [← HW0.out]
  go_wp2_with fail
  refine HT.out.mono ?_
  rintro e w2 ⟨rfl, rfl⟩
  go_upto_region 4 with (fail)
  rw [← HW1.out]
  clear q0 q1 q2 q3 q4 q5 c6 HT HW0
  go_wp2_with fail
  refine HCl.out.mono ?_
  rintro e W2 ⟨A2, c2, rfl, ho2, hb2⟩
  have g5 : W2.cell? ⟨w.heap.size + 1, 5, none⟩ = some (.slice sA 1 sC) := (HK1.out.below hb2 HK1.out.lt).cell 5
  have g6 := (HK1.out.below hb2 HK1.out.lt).frozen 5
  have ho2' : W2.ownsRow W1.heap.size 46 4 (.slice A2 1 c2) 1 (vrE (v2, (xA, v2.val.length, xc))) := ho2
  obtain ⟨R, rfl, hR⟩ : ∃ R, A2 = some ⟨R, 0, none⟩ ∧ W1.heap.size ≤ R := by
    rcases ho2'.2 with ⟨h', h0⟩ | ⟨gr, cap, cur, hv, hb, _⟩
    · omega
    · injection hv with hv
      exact ⟨gr, hv, hb⟩
  obtain ⟨W3, hW3⟩ : ∃ W3, W3 = W2.setCell ⟨w.heap.size + 1, 5, none⟩ (.slice (some ⟨R, 0, none⟩) 1 c2) := ⟨_, rfl⟩
  have hkp : Kp (fun j => j = w.heap.size + 1) W2 W3 := by rw [hW3]; exact Kp.set_ (F := fun j => j = w.heap.size + 1) (p := ⟨w.heap.size + 1, 5, none⟩) rfl _
  have hz1 := HS1.out
  have hd1 : Bk W3 (w.heap.size + 1) 63 #[.int .i64 (m.kind : Int), .int .i64 (m.frm : Int), .int .i64 (m.dst : Int), .int .u64 (m.bal.n : Int), .int .i64 m.bal.node, .slice (some ⟨R, 0, none⟩) 1 c2] := by rw [hW3]; exact (HK1.out.below hb2 HK1.out.lt).set_ 5 _
  have ho3 : W3.ownsRow W1.heap.size 46 4 (.slice (some ⟨R, 0, none⟩) 1 c2) 1 (vrE (v2, (xA, v2.val.length, xc))) := own_kp ho2' hkp fun j e e2 => by have := (ho2'.lt j e).1; omega
  have HRf : Hid (∀ W, Below W3.heap.size W3 W → ∀ j, j < 4 → W.frozen? ⟨R, j, none⟩ = false) := Lib.hid fun W hb j hj => by
    have ho := own_below ho3 hb fun k e => (ho3.lt k e).2
    rcases ho.2 with ⟨h', h0⟩ | ⟨gr, cap, cur, hv, _, hh, _⟩
    · omega
    · injection hv with hv
      injection hv with hv
      injection hv with hv
      subst hv
      exact Bk.frozen (t := 46) (cs := cur) hh j
  have r0 := ho3.cells (g := R) rfl 0 _ rfl
  have r1 := ho3.cells (g := R) rfl 1 _ rfl
  have r2 := ho3.cells (g := R) rfl 2 _ rfl
  have r3 := ho3.cells (g := R) rfl 3 _ rfl
  rw [Addr.add_lit, Nat.zero_add] at r0 r1 r2 r3
  have HD0 := Lib.hid ((HK0.out.below hb2 HK0.out.lt).kp hkp (by omega))
  have HD1 := Lib.hid hd1
  have hbl : Below w.heap.size w W3 := (below_then HB.out hb2).trans (hkp.below (fun k e => by omega) (by have := hb2.size; omega))
  have HBl := Lib.hid hbl
  have HO3 := Lib.hid ho3
  have HRge := Lib.hid hR
  have HW3 := Lib.hid hW3
  have HVc : Hid (∀ W, Below W3.heap.size W3 W → Calls Try.prog 32 #[.agg #[.int .u64 (v2.slot : Int), .int .u64 (v2.bal.n : Int), .int .i64 v2.bal.node, .slice xA v2.val.length xc]] W (CloneV W v2)) := Lib.hid fun W hb => HV.out W (((Kp.of_below hb2).trans hkp).trans (Kp.of_below hb))
  have m6 : W3.cell? ⟨w.heap.size + 1, 5, none⟩ = some (.slice (some ⟨R, 0, none⟩) 1 c2) := hd1.cell 5
  clear ho2 ho2' ho3 hb2 hkp hd1 hbl hW3 hR hz1 HK0 HK1 HB HCl HW1 HV
  go_upto_region 5 with (fail)
  rw [← HW3.out]
  clear g5 g6 m5 HW3
  go_wp2_with fail
  go_loopg [28] 1 (fun gk i wy => (gk = 1 ∧ i = .int .i64 0 ∧ W3 = wy) ∨ (gk = 0 ∧ i = .int .i64 1 ∧ Hid (Bk wy w.heap.size 63 #[.int .i64 0, .int .i64 0, .int .i64 0, .int .u64 0, .int .i64 0, .slice none 0 0] ∧ Bk wy (w.heap.size + 1) 63 #[.int .i64 (m.kind : Int), .int .i64 (m.frm : Int), .int .i64 (m.dst : Int), .int .u64 (m.bal.n : Int), .int .i64 m.bal.node, .slice (some ⟨R, 0, none⟩) 1 c2] ∧ Below w.heap.size w wy ∧
    ∃ A' c', wy.ownsRow W1.heap.size 46 4 (.slice (some ⟨R, 0, none⟩) 1 c2) 1 (vrE (v2, (A', v2.val.length, c'))) ∧ wy.ownsRow W1.heap.size 5 1 (.slice A' v2.val.length c') v2.val.length (u8s v2.val) ∧ ∀ k, (Value.slice A' v2.val.length c').ownBlock = some k → k ≠ R)))
  case atStart => exact .inl ⟨rfl, rfl, rfl⟩
  case round =>
  rcases hrel with ⟨rfl, rfl, hwr⟩ | ⟨rfl, rfl, HD⟩
  · subst hwr
    obtain ⟨W4, hW4⟩ : ∃ W4, W4 = W3.alloc (.cells #[.int .u64 (v2.slot : Int), .int .u64 (v2.bal.n : Int), .int .i64 v2.bal.node, .slice xA v2.val.length xc] 46) := ⟨_, rfl⟩
    have hb4 : Below W3.heap.size W3 W4 := by rw [hW4]; exact bel1P _
    have hk4 : Bk W4 W3.heap.size 46 #[.int .u64 (v2.slot : Int), .int .u64 (v2.bal.n : Int), .int .i64 v2.bal.node, .slice xA v2.val.length xc] := by rw [hW4]; exact Bk.new W3 _ _
    have y0 : W4.cell? ⟨W3.heap.size, 0, none⟩ = some (.int .u64 (v2.slot : Int)) := hk4.cell 0
    have y1 : W4.cell? ⟨W3.heap.size, 1, none⟩ = some (.int .u64 (v2.bal.n : Int)) := hk4.cell 1
    have y2 : W4.cell? ⟨W3.heap.size, 2, none⟩ = some (.int .i64 v2.bal.node) := hk4.cell 2
    have y3 : W4.cell? ⟨W3.heap.size, 3, none⟩ = some (.slice xA v2.val.length xc) := hk4.cell 3
    have m7 : W4.cell? ⟨w.heap.size + 1, 5, none⟩ = some (.slice (some ⟨R, 0, none⟩) 1 c2) := (HD1.out.below hb4 HD1.out.lt).cell 5
    have HB4 := Lib.hid hb4
    have HV4 : Hid (∀ W, Below W4.heap.size W4 W → Calls Try.prog 32 #[.agg #[.int .u64 (v2.slot : Int), .int .u64 (v2.bal.n : Int), .int .i64 v2.bal.node, .slice xA v2.val.length xc]] W (CloneV W v2)) := Lib.hid fun W hb => HVc.out W (below_then HB4.out hb)
    have HX : Hid (∀ W, Below W4.heap.size W4 W → (W.cell? ⟨w.heap.size + 1, 5, none⟩ = some (.slice (some ⟨R, 0, none⟩) 1 c2) ∧ (∃ u0 u1 u2 u3, W.cell? ⟨R, 0, none⟩ = some u0 ∧ W.cell? ⟨R, 1, none⟩ = some u1 ∧ W.cell? ⟨R, 2, none⟩ = some u2 ∧ W.cell? ⟨R, 3, none⟩ = some u3) ∧ W.frozen? ⟨R, 0, none⟩ = false ∧ W.frozen? ⟨R, 1, none⟩ = false ∧ W.frozen? ⟨R, 2, none⟩ = false ∧ W.frozen? ⟨R, 3, none⟩ = false)) := Lib.hid fun W hb => by
      have hb35 := below_then HB4.out hb
      have hR5 := own_below HO3.out hb35 fun k e => (HO3.out.lt k e).2
      have s0 := hR5.cells (g := R) rfl 0 _ rfl
      have s1 := hR5.cells (g := R) rfl 1 _ rfl
      have s2 := hR5.cells (g := R) rfl 2 _ rfl
      have s3 := hR5.cells (g := R) rfl 3 _ rfl
      rw [Addr.add_lit, Nat.zero_add] at s0 s1 s2 s3
      exact ⟨(HD1.out.below hb35 HD1.out.lt).cell 5, ⟨_, _, _, _, s0, s1, s2, s3⟩, HRf.out W hb35 0 (by omega), HRf.out W hb35 1 (by omega), HRf.out W hb35 2 (by omega), HRf.out W hb35 3 (by omega)⟩
    have HW4 := Lib.hid hW4
    clear hb4 hk4 hW4
    go_upto_region 8 with (fail)
    rw [← HW4.out]
    clear r0 r1 r2 r3 m6 HW4
    go_region_law (go_simp; go_at_call 32; (refine (HV4.out _ (by (repeat' (first | assumption | exact Below.refl _ _ | apply Below.drew | exact bel_drewN (Below.refl _ _) _)))).mono ?_); rintro e W5 ⟨A', c', rfl, ho5, hb5⟩; (have hd5 : Below W4.heap.size W4 W5 := below_then (by (repeat' (first | assumption | exact Below.refl _ _ | apply Below.drew | exact bel_drewN (Below.refl _ _) _))) hb5); (obtain ⟨m8, ⟨u0, u1, u2, u3, s0, s1, s2, s3⟩, f0, f1, f2, f3⟩ := HX.out W5 hd5))
    all_goals
      have hb35 := below_then HB4.out hd5
      have hR5 := own_below HO3.out hb35 fun k e => (HO3.out.lt k e).2
      obtain ⟨W6, hW6⟩ : ∃ W6, W6 = (((W5.setCell ⟨R, 0, none⟩ (.int .u64 (v2.slot : Int))).setCell ⟨R, 1, none⟩ (.int .u64 (v2.bal.n : Int))).setCell ⟨R, 2, none⟩ (.int .i64 v2.bal.node)).setCell ⟨R, 3, none⟩ (.slice A' v2.val.length c') := ⟨_, rfl⟩
      have hkR : Kp (fun j => j = R) W5 W6 := by rw [hW6]; exact st4P W5 R _ _ _ _
      have ho6 : W6.ownsRow W1.heap.size 46 4 (.slice (some ⟨R, 0, none⟩) 1 c2) 1 (vrE (v2, (A', v2.val.length, c'))) := by
        have := own_sets hR5 0 (vrE (v2, (A', v2.val.length, c'))) (Nat.le_refl 4)
        rw [hW6]
        exact this
      have hRlt := (HO3.out.lt R rfl).2
      have hRge := HRge.out
      have hz1 := HS1.out
      have hz4 := HB4.out.size
      have hne : ∀ k, (Value.slice A' v2.val.length c').ownBlock = some k → k ≠ R := fun k e e2 => by
        have h9 : W4.heap.size ≤ k := (ho5.lt k e).1
        omega
      have ho5b : W6.ownsRow W1.heap.size 5 1 (.slice A' v2.val.length c') v2.val.length (u8s v2.val) := own_mono (own_kp ho5 hkR hne) (by show W1.heap.size ≤ W4.heap.size; omega)
      have HF := Lib.hid (And.intro ((HD0.out.below hb35 HD0.out.lt).kp hkR (by omega)) (And.intro ((HD1.out.below hb35 HD1.out.lt).kp hkR (by omega)) (And.intro ((below_then HBl.out hb35).trans (hkR.below (fun k e => by omega) (by have := hb35.size; omega))) (⟨A', c', ho6, ho5b, hne⟩ : ∃ A' c', W6.ownsRow W1.heap.size 46 4 (.slice (some ⟨R, 0, none⟩) 1 c2) 1 (vrE (v2, (A', v2.val.length, c'))) ∧ W6.ownsRow W1.heap.size 5 1 (.slice A' v2.val.length c') v2.val.length (u8s v2.val) ∧ ∀ k, (Value.slice A' v2.val.length c').ownBlock = some k → k ≠ R))))
      rw [← hW6]
      clear hkR ho6 hne ho5b ho5 hb5 hR5 hb35 hRlt hRge hz1 hz4 hd5 m8 s0 s1 s2 s3 f0 f1 f2 f3 y0 y1 y2 y3 hW6 HV4 HX
      go_wp2
      go_roundg 0
      case measure => omega
      case rel => exact .inr ⟨rfl, rfl, HF⟩
  · obtain ⟨hd0, hd1, hbl, A', c', p4, p5, p6⟩ := HD.out
    have HD0 := Lib.hid hd0
    have HD1 := Lib.hid hd1
    have HBl := Lib.hid hbl
    have HP4 := Lib.hid p4
    have HP5 := Lib.hid p5
    clear hd0 hd1 hbl p4 p5 m6 r0 r1 r2 r3 HD HO3 HRf HVc
    have e0 : wr.cell? ⟨w.heap.size + 1, 0, none⟩ = some (.int .i64 (m.kind : Int)) := HD1.out.cell 0
    have e1 : wr.cell? ⟨w.heap.size + 1, 1, none⟩ = some (.int .i64 (m.frm : Int)) := HD1.out.cell 1
    have e2 : wr.cell? ⟨w.heap.size + 1, 2, none⟩ = some (.int .i64 (m.dst : Int)) := HD1.out.cell 2
    have e3 : wr.cell? ⟨w.heap.size + 1, 3, none⟩ = some (.int .u64 (m.bal.n : Int)) := HD1.out.cell 3
    have e4 : wr.cell? ⟨w.heap.size + 1, 4, none⟩ = some (.int .i64 m.bal.node) := HD1.out.cell 4
    have e5 : wr.cell? ⟨w.heap.size + 1, 5, none⟩ = some (.slice (some ⟨R, 0, none⟩) 1 c2) := HD1.out.cell 5
    have z0 : wr.cell? ⟨w.heap.size, 0, none⟩ = some (.int .i64 0) := HD0.out.cell 0
    have z1 : wr.cell? ⟨w.heap.size, 1, none⟩ = some (.int .i64 0) := HD0.out.cell 1
    have z2 : wr.cell? ⟨w.heap.size, 2, none⟩ = some (.int .i64 0) := HD0.out.cell 2
    have z3 : wr.cell? ⟨w.heap.size, 3, none⟩ = some (.int .u64 0) := HD0.out.cell 3
    have z4 : wr.cell? ⟨w.heap.size, 4, none⟩ = some (.int .i64 0) := HD0.out.cell 4
    have z5 : wr.cell? ⟨w.heap.size, 5, none⟩ = some (.slice none 0 0) := HD0.out.cell 5
    have f0 := HD0.out.frozen 0
    have f1 := HD0.out.frozen 1
    have f2 := HD0.out.frozen 2
    have f3 := HD0.out.frozen 3
    have f4 := HD0.out.frozen 4
    have f5 := HD0.out.frozen 5
    go_wp2
    obtain ⟨w9, hw9⟩ : ∃ w9, w9 = (((((wr.setCell ⟨w.heap.size, 0, none⟩ (.int .i64 (m.kind : Int))).setCell ⟨w.heap.size, 1, none⟩ (.int .i64 (m.frm : Int))).setCell ⟨w.heap.size, 2, none⟩ (.int .i64 (m.dst : Int))).setCell ⟨w.heap.size, 3, none⟩ (.int .u64 (m.bal.n : Int))).setCell ⟨w.heap.size, 4, none⟩ (.int .i64 m.bal.node)).setCell ⟨w.heap.size, 5, none⟩ (.slice (some ⟨R, 0, none⟩) 1 c2) := ⟨_, rfl⟩
    rw [← hw9]
    have p2 := st6S wr w.heap.size (.int .i64 (m.kind : Int)) (.int .i64 (m.frm : Int)) (.int .i64 (m.dst : Int)) (.int .u64 (m.bal.n : Int)) (.int .i64 m.bal.node) (.slice (some ⟨R, 0, none⟩) 1 c2)
    have p1 := HD0.out.s6S (.int .i64 (m.kind : Int)) (.int .i64 (m.frm : Int)) (.int .i64 (m.dst : Int)) (.int .u64 (m.bal.n : Int)) (.int .i64 m.bal.node) (.slice (some ⟨R, 0, none⟩) 1 c2)
    rw [← hw9] at p1 p2
    have j0 : w9.cell? ⟨w.heap.size, 0, none⟩ = some (.int .i64 (m.kind : Int)) := p1.cell 0
    have j1 : w9.cell? ⟨w.heap.size, 1, none⟩ = some (.int .i64 (m.frm : Int)) := p1.cell 1
    have j2 : w9.cell? ⟨w.heap.size, 2, none⟩ = some (.int .i64 (m.dst : Int)) := p1.cell 2
    have j3 : w9.cell? ⟨w.heap.size, 3, none⟩ = some (.int .u64 (m.bal.n : Int)) := p1.cell 3
    have j4 : w9.cell? ⟨w.heap.size, 4, none⟩ = some (.int .i64 m.bal.node) := p1.cell 4
    have j5 : w9.cell? ⟨w.heap.size, 5, none⟩ = some (.slice (some ⟨R, 0, none⟩) 1 c2) := p1.cell 5
    clear hw9
    refine bodyPost_ret (by simp [results, Try.results25, go_sem, j0, j1, j2, j3, j4, j5]; try rfl) rfl ?_
    have hz1 := HS1.out
    have hge := HRge.out
    refine ⟨some ⟨R, 0, none⟩, c2, by rw [HVm.out]; rfl, HBl.out.trans (p2.below (fun k e => by omega) HBl.out.size), fun v9 e9 => ?_⟩
    rw [HVm.out] at e9
    obtain rfl := (List.cons.inj e9).1
    refine ⟨R, A', c', rfl, by omega, own_mono (own_kp HP4.out p2 fun k e e2 => ?_) (by omega), own_mono (own_kp HP5.out p2 fun k e e2 => ?_) (by omega), p6⟩
    · have := (HP4.out.lt k e).1
      omega
    · have := (HP5.out.lt k e).1
      omega
end
end Go.Proofs.Ytjapmolmgfaocaa
