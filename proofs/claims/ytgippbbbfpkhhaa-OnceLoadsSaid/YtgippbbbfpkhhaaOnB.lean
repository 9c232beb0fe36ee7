/- Layer 13, the program's table: Begin. -/
import Derived.Test.YtgippbbbfpkhhaaOnE
import Derived.Test.YtgippbbbfpkhhaaClone
namespace Go.Proofs.Ytgippbbbfpkhhaa
open Go.RowKit Go.Maps

section
variable {w w' : World} {F F' G : Nat → Prop} {g n c : Nat} {t : Tb} {A : Option Addr} {es : List Cle} {dn : Bool} {mp : Option Nat}
theorem PTm.set_ (h : PTm w F g t A n c es dn mp) {t' : Tb} {i : Nat} {u : Value} (hc : (tbC t (.slice A n c) dn mp).setIfInBounds i u = tbC t' (.slice A n c) dn mp) (hr : t'.row = t.row) : PTm (w.setCell ⟨g, i, none⟩ u) F g t' A n c es dn mp := by
  have hk : Kp (fun k => k = g) w (w.setCell ⟨g, i, none⟩ u) := Kp.set_ (F := fun k => k = g) (p := ⟨g, i, none⟩) rfl _
  have hb := h.bk.set_ i u
  rw [hc] at hb
  refine ⟨⟨hb, h.row.keep hk (fun k e => h.row.off h.bk (by decide) (by decide) k e), by rw [hr]; exact h.eq, by rw [hr]; exact h.len, h.fg, fun k e => Nat.lt_of_lt_of_le (h.lt k e) hk.size⟩, fun e => ?_⟩
  have hoff := h.offMap e
  obtain ⟨b, L, rfl, h2, h3, h4⟩ := h.map e
  exact ⟨b, L, rfl, h2, h3.kp hk (fun e2 => hoff b rfl b (.inr e2) rfl), by rw [hr]; exact h4⟩
theorem PT.setNb (h : PT w F g t) : w.cell? ⟨g, 6, none⟩ = some (.int .i64 t.nb) ∧ w.frozen? ⟨g, 6, none⟩ = false ∧ PT (w.setCell ⟨g, 6, none⟩ (.int .i64 (more1 t.nb))) F g { t with nb := more1 t.nb } ∧ Mv F F w (w.setCell ⟨g, 6, none⟩ (.int .i64 (more1 t.nb))) := by
  obtain ⟨A, n, c, es, dn, mp, h⟩ := h
  exact ⟨h.cells.2.2.2.2.2.2.1, h.frz 6, ⟨A, n, c, es, dn, mp, h.set_ rfl rfl⟩, Mv.of ((Kp.set_ (F := fun k => k = g) (p := ⟨g, 6, none⟩) rfl _).mono fun k e => e ▸ h.fg)⟩
theorem PT.setNa (h : PT w F g t) : w.cell? ⟨g, 7, none⟩ = some (.int .i64 t.na) ∧ w.frozen? ⟨g, 7, none⟩ = false ∧ PT (w.setCell ⟨g, 7, none⟩ (.int .i64 (more1 t.na))) F g { t with na := more1 t.na } ∧ Mv F F w (w.setCell ⟨g, 7, none⟩ (.int .i64 (more1 t.na))) := by
  obtain ⟨A, n, c, es, dn, mp, h⟩ := h
  exact ⟨h.cells.2.2.2.2.2.2.2, h.frz 7, ⟨A, n, c, es, dn, mp, h.set_ rfl rfl⟩, Mv.of ((Kp.set_ (F := fun k => k = g) (p := ⟨g, 7, none⟩) rfl _).mono fun k e => e ▸ h.fg)⟩
/-- What Begin answers. -/
def BegE (w : World) (F : Nat → Prop) (g : Nat) (b : Bg) (e : Ending) (w' : World) : Prop :=
  ∃ s : Sl3, e = .returned (.tuple #[.int .i64 (b.kind : Int), s3W s, .int .i64 b.err]) ∧ Hid (w'.ownsRow w.heap.size 5 1 (s3W s) b.rep.length (u8s b.rep) ∧ ∃ F', PT w' F' g b.tb ∧ Mv F F' w w' ∧ ∀ k, (s3W s).ownBlock = some k → ¬ F' k)
theorem BegE.noRep {kind : Nat} {err : Int} (ht : ∃ F', PT w' F' g t ∧ Mv F F' w w') : BegE w F g ⟨kind, [], err, t⟩ (.returned (.tuple #[.int .i64 (kind : Int), .slice none 0 0, .int .i64 err])) w' := by
  obtain ⟨F', h1, h2⟩ := ht
  exact ⟨(none, 0, 0), rfl, Lib.hid ⟨World.ownsRow_nil _ _ _ _, F', h1, h2, fun k e => by cases e⟩⟩
theorem PTm.pt (h : PTm w F g t A n c es dn mp) : PT w F g t := ⟨A, n, c, es, dn, mp, h⟩
set_option maxRecDepth 100000 in
theorem begin0_any (h : PT w F g t) (id : Nat) : Calls Try.prog 13 #[.pointer (some ⟨g, 0, none⟩), .int .u64 (id : Int), .int .u64 0] w (BegE w F g (t.begin id 0)) := by
  have hb : t.begin id 0 = ⟨0, [], 2, t⟩ := rfl
  rw [hb]
  have HZ : Hid (∃ F', PT w F' g t ∧ Mv F F' w w) := Lib.hid ⟨F, h, Mv.refl _ _⟩
  clear h hb
  go_enter Try.func13, Try.ntmps13
  go_wp2
  refine bodyPost_ret (by simp [results, Try.results13, go_sem]; try rfl) rfl ?_
  exact BegE.noRep HZ.out
/-- The client that stands there. -/
theorem PTm.stands (h : PTm w F g t A n c es dn mp) (k : Nat) (hk : k < t.row.length) : ∃ b s, A = some ⟨b, 0, none⟩ ∧ w.cell? ⟨b, k * 4, none⟩ = some (.int .u64 (t.row[k].id : Int)) ∧ w.cell? ⟨b, k * 4 + 1, none⟩ = some (.int .u64 (t.row[k].num : Int)) ∧ w.cell? ⟨b, k * 4 + 2, none⟩ = some (.bool t.row[k].busy) ∧ w.cell? ⟨b, k * 4 + 3, none⟩ = some (s3W s) ∧
    w.ownsRow 0 5 1 (s3W s) t.row[k].rep.length (u8s t.row[k].rep) ∧ (∀ k, (s3W s).ownBlock = some k → F k) := by
  have hel := h.elen
  have hlen := h.len
  have hke : k < es.length := by omega
  obtain ⟨b, c', e, _, _, _, q0, q1, q2, q3⟩ := h.row.cell k hke
  injection e with e _ _
  have h1 : t.row[k] = es[k].1 := by simp only [← h.eq, List.getElem_map]
  rw [h1]
  exact ⟨b, es[k].2, e, q0, q1, q2, q3, h.row.each _ (List.getElem_mem hke), h.row.bods _ (List.getElem_mem hke)⟩
set_option maxRecDepth 100000 in
set_option maxHeartbeats 4000000 in
theorem beginK_any (h : PT w F g t) (hok : t.Ok) (id num : Nat) (hid : id < 18446744073709551616) (hn0 : num ≠ 0) (k : Nat) (hf : findC id t.row = some k) :
    Calls Try.prog 13 #[.pointer (some ⟨g, 0, none⟩), .int .u64 (id : Int), .int .u64 (num : Int)] w (BegE w F g (t.begin id num)) := by
  obtain ⟨A, n, c, es, dn, mp, h⟩ := h
  obtain ⟨hkl, hkid⟩ := findC_some hf
  have hlen := h.len
  have hmost := hok.most
  have hrl := hok.len
  have m0 : ¬ (num : Int) = 0 := by omega
  have m1 : ((num : Int) == 0) = false := by simp; omega
  have mk0 : ¬ (k : Int) < 0 := by omega
  have mkn : (k : Int) < (n : Int) := by omega
  have HFd : Hid (Calls Try.prog 30 #[.pointer (some ⟨g, 0, none⟩), .int .u64 (id : Int)] w fun e w1 => e = .returned (.tuple #[.int .i64 (k : Int), .bool true]) ∧ Hid (DoneE w F g t A n c es w1)) := Lib.hid (by
    have := find_any h hok.sure id hid
    rw [hf] at this
    exact this)
  have hrep := (hok.each _ (List.getElem_mem hkl)).rep
  have HKid := Lib.hid hkid
  have HOk := Lib.hid hok
  have hat := Tb.at_eq t hkl
  have hc3 : num < t.row[k].num ∨ (¬ num < t.row[k].num ∧ t.row[k].num < num) ∨ (num = t.row[k].num ∧ t.row[k].busy = true) ∨ (num = t.row[k].num ∧ t.row[k].busy = false) := by
    cases t.row[k].busy <;> simp <;> omega
  rcases hc3 with h1 | ⟨h1, h2⟩ | ⟨h1, h2⟩ | ⟨h1, h2⟩
  · have hb : t.begin id num = ⟨0, [], 70, t⟩ := by unfold Tb.begin; simp only [if_neg hn0, hf, hat]; rw [if_pos h1]
    rw [hb]
    clear h hn0 hok hlen hmost hrl hf hb hat
    go_enter Try.func13, Try.ntmps13
    go_wp2_with fail
    refine HFd.out.mono ?_
    clear HFd
    rintro e w1 ⟨rfl, HX⟩
    obtain ⟨F1, b1, hp1, hm1, hk1⟩ := HX.out
    obtain ⟨bR, ⟨sA, sN, sC⟩, rfl, q0, q1, q2, q3, hrow, hfo⟩ := hp1.stands k hkl
    have g1 : w1.cell? ⟨g, 1, none⟩ = some (.slice (some ⟨bR, 0, none⟩) n c) := hp1.cells.2.1
    obtain ⟨w2, hw2⟩ : ∃ w2, w2 = w1.alloc (.cells #[.int .u64 (t.row[k].id : Int), .int .u64 (t.row[k].num : Int), .bool t.row[k].busy, .slice sA sN sC] 64) := ⟨_, rfl⟩
    have hb2 : Below w1.heap.size w1 w2 := by rw [hw2]; exact bel1N _ _
    have hbx : Bk w2 w1.heap.size 64 #[.int .u64 (t.row[k].id : Int), .int .u64 (t.row[k].num : Int), .bool t.row[k].busy, .slice sA sN sC] := by rw [hw2]; exact Bk.new w1 _ _
    have HP2 := Lib.hid (hp1.below hb2)
    have HM2 := Lib.hid (hm1.trans (Mv.of (Kp.of_below hb2)))
    have HO2 := Lib.hid (own_kp (F := fun _ => False) hrow (Kp.of_below hb2) (fun _ _ h => h))
    have HFo := Lib.hid hfo
    have HFl : Hid (∀ k, F1 k → k < w1.heap.size) := Lib.hid hp1.lt
    have HRg := Lib.hid hp1.toPRm.rg
    have HOff := Lib.hid (hp1.toPRm.offRep hrow)
    have HW2 := Lib.hid hw2
    have HBX := Lib.hid hbx
    obtain ⟨bx, hbxe⟩ : ∃ bx, bx = w1.heap.size := ⟨_, rfl⟩
    have HXE := Lib.hid hbxe
    rw [← hbxe] at hbx
    obtain ⟨⟨cid, cnum, cbusy, crep⟩, hcl⟩ : ∃ cl, cl = t.row[k] := ⟨_, rfl⟩
    rw [← hcl] at h1  hbx q0 q1 q2 HO2 HW2 HKid hrep
    try rw [← hcl]
    unfold s3W at q3
    dsimp only at h1  hbx q0 q1 q2 HO2 HW2 HKid hrep
    have z1 : w2.cell? ⟨bx, 1, none⟩ = some (.int .u64 (cnum : Int)) := hbx.cell 1
    have z2 : w2.cell? ⟨bx, 2, none⟩ = some (.bool cbusy) := hbx.cell 2
    have z0 : w2.cell? ⟨bx, 0, none⟩ = some (.int .u64 (cid : Int)) := hbx.cell 0
    have z3 : w2.cell? ⟨bx, 3, none⟩ = some (.slice sA sN sC) := hbx.cell 3
    have HCl := Lib.hid hcl
    have Hkl := Lib.hid hkl
    clear hp1 hm1 hk1 hb2 hw2 HX hrow hfo hbxe hcl HBX
    go_upto_region 11 with (fail)
    rw [← HW2.out]
    try rw [← HXE.out]
    clear q0 q1 q2 q3 g1
    have mm : (cnum : Int) > (num : Int) := by omega
    have HZ : Hid (∃ F', PT w2 F' g t ∧ Mv F F' w w2) := Lib.hid ⟨F1, HP2.out.pt, HM2.out⟩
    clear HP2 HM2 HO2 z0 z2 z3
    go_wp2
    refine bodyPost_ret (by simp [results, Try.results13, go_sem]; try rfl) rfl ?_
    exact BegE.noRep HZ.out
  · have hb : t.begin id num = t.fresh id num (t.row.eraseIdx k) := by unfold Tb.begin; simp only [if_neg hn0, hf, hat]; rw [if_neg h1, if_pos h2]
    rw [hb]
    clear h hn0 hok hlen hmost hrl hf hb hat
    go_enter Try.func13, Try.ntmps13
    go_wp2_with fail
    refine HFd.out.mono ?_
    clear HFd
    rintro e w1 ⟨rfl, HX⟩
    obtain ⟨F1, b1, hp1, hm1, hk1⟩ := HX.out
    obtain ⟨bR, ⟨sA, sN, sC⟩, rfl, q0, q1, q2, q3, hrow, hfo⟩ := hp1.stands k hkl
    have g1 : w1.cell? ⟨g, 1, none⟩ = some (.slice (some ⟨bR, 0, none⟩) n c) := hp1.cells.2.1
    obtain ⟨w2, hw2⟩ : ∃ w2, w2 = w1.alloc (.cells #[.int .u64 (t.row[k].id : Int), .int .u64 (t.row[k].num : Int), .bool t.row[k].busy, .slice sA sN sC] 64) := ⟨_, rfl⟩
    have hb2 : Below w1.heap.size w1 w2 := by rw [hw2]; exact bel1N _ _
    have hbx : Bk w2 w1.heap.size 64 #[.int .u64 (t.row[k].id : Int), .int .u64 (t.row[k].num : Int), .bool t.row[k].busy, .slice sA sN sC] := by rw [hw2]; exact Bk.new w1 _ _
    have HP2 := Lib.hid (hp1.below hb2)
    have HM2 := Lib.hid (hm1.trans (Mv.of (Kp.of_below hb2)))
    have HO2 := Lib.hid (own_kp (F := fun _ => False) hrow (Kp.of_below hb2) (fun _ _ h => h))
    have HFo := Lib.hid hfo
    have HFl : Hid (∀ k, F1 k → k < w1.heap.size) := Lib.hid hp1.lt
    have HRg := Lib.hid hp1.toPRm.rg
    have HOff := Lib.hid (hp1.toPRm.offRep hrow)
    have HW2 := Lib.hid hw2
    have HBX := Lib.hid hbx
    obtain ⟨bx, hbxe⟩ : ∃ bx, bx = w1.heap.size := ⟨_, rfl⟩
    have HXE := Lib.hid hbxe
    rw [← hbxe] at hbx
    obtain ⟨⟨cid, cnum, cbusy, crep⟩, hcl⟩ : ∃ cl, cl = t.row[k] := ⟨_, rfl⟩
    rw [← hcl] at h1 h2 hbx q0 q1 q2 HO2 HW2 HKid hrep
    try rw [← hcl]
    unfold s3W at q3
    dsimp only at h1 h2 hbx q0 q1 q2 HO2 HW2 HKid hrep
    have z1 : w2.cell? ⟨bx, 1, none⟩ = some (.int .u64 (cnum : Int)) := hbx.cell 1
    have z2 : w2.cell? ⟨bx, 2, none⟩ = some (.bool cbusy) := hbx.cell 2
    have z0 : w2.cell? ⟨bx, 0, none⟩ = some (.int .u64 (cid : Int)) := hbx.cell 0
    have z3 : w2.cell? ⟨bx, 3, none⟩ = some (.slice sA sN sC) := hbx.cell 3
    have HCl := Lib.hid hcl
    have Hkl := Lib.hid hkl
    clear hp1 hm1 hk1 hb2 hw2 HX hrow hfo hbxe hcl HBX
    go_upto_region 11 with (fail)
    rw [← HW2.out]
    try rw [← HXE.out]
    clear q0 q1 q2 q3 g1
    have mm : ¬ (cnum : Int) > (num : Int) := by omega
    have mm1 : ¬ (num : Int) < (cnum : Int) := by omega
    have mm2 : (cnum : Int) < (num : Int) := by omega
    clear h1 h2
    have HU := Lib.hid (cuse_any HP2.out (by have := HOk.out.len; have := HOk.out.most; have := HP2.out.len; omega) k (by have := HP2.out.len; have := Hkl.out; omega) ⟨id, num, true, []⟩ (none, 0, 0) (World.ownsRow_nil _ _ _ _) (fun k e => by cases e) (by rw [Tb.at_eq t Hkl.out, ← HCl.out]; exact HKid.out.symm))
    unfold clV s3W at HU
    dsimp only at HU
    clear HP2 HO2 z0 z2 z3
    go_wp2_with fail
    refine HU.out.mono ?_
    clear HU
    rintro e w3 ⟨rfl, HX⟩
    obtain ⟨F3, hp3, hm3, hk3⟩ := HX.out
    obtain ⟨d6, df, hp4, hm4⟩ := hp3.setNb
    have HAd := Lib.hid (o_add g 6 t.nb w3 d6 df)
    have HZ : Hid (∃ F', PT (w3.setCell ⟨g, 6, none⟩ (.int .i64 (more1 t.nb))) F' g { t with row := useC k ⟨id, num, true, []⟩ t.row, nb := more1 t.nb } ∧ Mv F F' w (w3.setCell ⟨g, 6, none⟩ (.int .i64 (more1 t.nb)))) := Lib.hid ⟨F3, hp4, (HM2.out.trans hm3).trans hm4⟩
    clear hp3 hm3 hk3 hp4 hm4 HX d6 df HM2 z1
    go_wp2_with fail
    refine HAd.out.mono ?_
    clear HAd
    rintro e w4 ⟨rfl, hw4⟩
    rw [← hw4] at HZ
    clear hw4
    go_wp2
    refine bodyPost_ret (by simp [results, Try.results13, go_sem]; try rfl) rfl ?_
    exact BegE.noRep HZ.out
  · have hb : t.begin id num = ⟨3, [], 0, { t with row := useC k t.row[k] t.row }⟩ := by unfold Tb.begin; simp only [if_neg hn0, hf, hat]; rw [if_neg (by omega), if_neg (by omega), if_pos h2]
    rw [hb]
    clear h hn0 hok hlen hmost hrl hf hb hat
    go_enter Try.func13, Try.ntmps13
    go_wp2_with fail
    refine HFd.out.mono ?_
    clear HFd
    rintro e w1 ⟨rfl, HX⟩
    obtain ⟨F1, b1, hp1, hm1, hk1⟩ := HX.out
    obtain ⟨bR, ⟨sA, sN, sC⟩, rfl, q0, q1, q2, q3, hrow, hfo⟩ := hp1.stands k hkl
    have g1 : w1.cell? ⟨g, 1, none⟩ = some (.slice (some ⟨bR, 0, none⟩) n c) := hp1.cells.2.1
    obtain ⟨w2, hw2⟩ : ∃ w2, w2 = w1.alloc (.cells #[.int .u64 (t.row[k].id : Int), .int .u64 (t.row[k].num : Int), .bool t.row[k].busy, .slice sA sN sC] 64) := ⟨_, rfl⟩
    have hb2 : Below w1.heap.size w1 w2 := by rw [hw2]; exact bel1N _ _
    have hbx : Bk w2 w1.heap.size 64 #[.int .u64 (t.row[k].id : Int), .int .u64 (t.row[k].num : Int), .bool t.row[k].busy, .slice sA sN sC] := by rw [hw2]; exact Bk.new w1 _ _
    have HP2 := Lib.hid (hp1.below hb2)
    have HM2 := Lib.hid (hm1.trans (Mv.of (Kp.of_below hb2)))
    have HO2 := Lib.hid (own_kp (F := fun _ => False) hrow (Kp.of_below hb2) (fun _ _ h => h))
    have HFo := Lib.hid hfo
    have HFl : Hid (∀ k, F1 k → k < w1.heap.size) := Lib.hid hp1.lt
    have HRg := Lib.hid hp1.toPRm.rg
    have HOff := Lib.hid (hp1.toPRm.offRep hrow)
    have HW2 := Lib.hid hw2
    have HBX := Lib.hid hbx
    obtain ⟨bx, hbxe⟩ : ∃ bx, bx = w1.heap.size := ⟨_, rfl⟩
    have HXE := Lib.hid hbxe
    rw [← hbxe] at hbx
    obtain ⟨⟨cid, cnum, cbusy, crep⟩, hcl⟩ : ∃ cl, cl = t.row[k] := ⟨_, rfl⟩
    rw [← hcl] at h1 h2 hbx q0 q1 q2 HO2 HW2 HKid hrep
    try rw [← hcl]
    unfold s3W at q3
    dsimp only at h1 h2 hbx q0 q1 q2 HO2 HW2 HKid hrep
    have z1 : w2.cell? ⟨bx, 1, none⟩ = some (.int .u64 (cnum : Int)) := hbx.cell 1
    have z2 : w2.cell? ⟨bx, 2, none⟩ = some (.bool cbusy) := hbx.cell 2
    have z0 : w2.cell? ⟨bx, 0, none⟩ = some (.int .u64 (cid : Int)) := hbx.cell 0
    have z3 : w2.cell? ⟨bx, 3, none⟩ = some (.slice sA sN sC) := hbx.cell 3
    have HCl := Lib.hid hcl
    have Hkl := Lib.hid hkl
    clear hp1 hm1 hk1 hb2 hw2 HX hrow hfo hbxe hcl HBX
    subst h1 h2
    go_upto_region 11 with (fail)
    rw [← HW2.out]
    try rw [← HXE.out]
    clear q0 q1 q2 q3 g1
    have mm : ¬ (num : Int) > (num : Int) := by omega
    have mm2 : ¬ (num : Int) < (num : Int) := by omega
    have HU := Lib.hid (cuse_any HP2.out (by have := HOk.out.len; have := HOk.out.most; have := HP2.out.len; omega) k (by have := HP2.out.len; have := Hkl.out; omega) ⟨cid, num, true, crep⟩ (sA, sN, sC) HO2.out HFo.out (by rw [Tb.at_eq t Hkl.out, ← HCl.out]))
    have hcat : t.at_ k = ⟨cid, num, true, crep⟩ := by rw [Tb.at_eq t Hkl.out, ← HCl.out]
    unfold clV s3W at HU
    dsimp only at HU
    clear HP2
    go_wp2_with fail
    refine HU.out.mono ?_
    clear HU
    rintro e w3 ⟨rfl, HX⟩
    obtain ⟨F3, hp3, hm3, hk3⟩ := HX.out
    have HZ : Hid (∃ F', PT w3 F' g { t with row := useC k ⟨cid, num, true, crep⟩ t.row } ∧ Mv F F' w w3) := Lib.hid ⟨F3, hp3, HM2.out.trans hm3⟩
    clear hp3 hm3 hk3 HX HM2 z0 z1 z2 z3 HO2
    go_wp2
    refine bodyPost_ret (by simp [results, Try.results13, go_sem]; try rfl) rfl ?_
    rw [← HCl.out]
    exact BegE.noRep HZ.out
  · have hb : t.begin id num = ⟨2, t.row[k].rep, 0, { t with row := useC k t.row[k] t.row, na := more1 t.na }⟩ := by unfold Tb.begin; simp only [if_neg hn0, hf, hat]; rw [if_neg (by omega), if_neg (by omega), h2]; rfl
    rw [hb]
    clear h hn0 hok hlen hmost hrl hf hb hat
    go_enter Try.func13, Try.ntmps13
    go_wp2_with fail
    refine HFd.out.mono ?_
    clear HFd
    rintro e w1 ⟨rfl, HX⟩
    obtain ⟨F1, b1, hp1, hm1, hk1⟩ := HX.out
    obtain ⟨bR, ⟨sA, sN, sC⟩, rfl, q0, q1, q2, q3, hrow, hfo⟩ := hp1.stands k hkl
    have g1 : w1.cell? ⟨g, 1, none⟩ = some (.slice (some ⟨bR, 0, none⟩) n c) := hp1.cells.2.1
    obtain ⟨w2, hw2⟩ : ∃ w2, w2 = w1.alloc (.cells #[.int .u64 (t.row[k].id : Int), .int .u64 (t.row[k].num : Int), .bool t.row[k].busy, .slice sA sN sC] 64) := ⟨_, rfl⟩
    have hb2 : Below w1.heap.size w1 w2 := by rw [hw2]; exact bel1N _ _
    have hbx : Bk w2 w1.heap.size 64 #[.int .u64 (t.row[k].id : Int), .int .u64 (t.row[k].num : Int), .bool t.row[k].busy, .slice sA sN sC] := by rw [hw2]; exact Bk.new w1 _ _
    have HP2 := Lib.hid (hp1.below hb2)
    have HM2 := Lib.hid (hm1.trans (Mv.of (Kp.of_below hb2)))
    have HO2 := Lib.hid (own_kp (F := fun _ => False) hrow (Kp.of_below hb2) (fun _ _ h => h))
    have HFo := Lib.hid hfo
    have HFl : Hid (∀ k, F1 k → k < w1.heap.size) := Lib.hid hp1.lt
    have HRg := Lib.hid hp1.toPRm.rg
    have HOff := Lib.hid (hp1.toPRm.offRep hrow)
    have HW2 := Lib.hid hw2
    have HBX := Lib.hid hbx
    obtain ⟨bx, hbxe⟩ : ∃ bx, bx = w1.heap.size := ⟨_, rfl⟩
    have HXE := Lib.hid hbxe
    rw [← hbxe] at hbx
    obtain ⟨⟨cid, cnum, cbusy, crep⟩, hcl⟩ : ∃ cl, cl = t.row[k] := ⟨_, rfl⟩
    rw [← hcl] at h1 h2 hbx q0 q1 q2 HO2 HW2 HKid hrep
    try rw [← hcl]
    unfold s3W at q3
    dsimp only at h1 h2 hbx q0 q1 q2 HO2 HW2 HKid hrep
    have z1 : w2.cell? ⟨bx, 1, none⟩ = some (.int .u64 (cnum : Int)) := hbx.cell 1
    have z2 : w2.cell? ⟨bx, 2, none⟩ = some (.bool cbusy) := hbx.cell 2
    have z0 : w2.cell? ⟨bx, 0, none⟩ = some (.int .u64 (cid : Int)) := hbx.cell 0
    have z3 : w2.cell? ⟨bx, 3, none⟩ = some (.slice sA sN sC) := hbx.cell 3
    have HCl := Lib.hid hcl
    have Hkl := Lib.hid hkl
    clear hp1 hm1 hk1 hb2 hw2 HX hrow hfo hbxe hcl HBX
    subst h1 h2
    go_upto_region 11 with (fail)
    rw [← HW2.out]
    try rw [← HXE.out]
    clear q0 q1 q2 q3 g1
    have mm : ¬ (num : Int) > (num : Int) := by omega
    have mm2 : ¬ (num : Int) < (num : Int) := by omega
    have HU := Lib.hid (cuse_any HP2.out (by have := HOk.out.len; have := HOk.out.most; have := HP2.out.len; omega) k (by have := HP2.out.len; have := Hkl.out; omega) ⟨cid, num, false, crep⟩ (sA, sN, sC) HO2.out HFo.out (by rw [Tb.at_eq t Hkl.out, ← HCl.out]))
    have hcat : t.at_ k = ⟨cid, num, false, crep⟩ := by rw [Tb.at_eq t Hkl.out, ← HCl.out]
    unfold clV s3W at HU
    dsimp only at HU
    clear HP2
    go_wp2_with fail
    refine HU.out.mono ?_
    clear HU
    rintro e w3 ⟨rfl, HX⟩
    obtain ⟨F3, hp3, hm3, hk3⟩ := HX.out
    obtain ⟨d7, df, hp4, hm4⟩ := hp3.setNa
    have HAd := Lib.hid (o_add g 7 t.na w3 d7 df)
    have HPz := Lib.hid hp4
    have HMz := Lib.hid ((HM2.out.trans hm3).trans hm4)
    have hk24 : Kp (RG g (.slice (some ⟨bR, 0, none⟩) n c)) w2 (w3.setCell ⟨g, 7, none⟩ (.int .i64 (more1 t.na))) := hk3.trans ((Kp.set_ (F := fun k => k = g) (p := ⟨g, 7, none⟩) rfl _).mono fun k e => .inl e)
    have hbx4 := hbx.kp hk24 (fun e => by have := HXE.out; have := HFl.out bx (HRg.out bx e); omega)
    have hro4 := own_kp HO2.out hk24 (fun k e e2 => HOff.out k e e2)
    obtain ⟨w4, hw4⟩ : ∃ w4, w4 = w3.setCell ⟨g, 7, none⟩ (.int .i64 (more1 t.na)) := ⟨_, rfl⟩
    rw [← hw4] at HPz HMz hbx4 hro4
    have zr : w4.cell? ⟨bx, 3, none⟩ = some (.slice sA sN sC) := hbx4.cell 3
    have hsn : crep.length = sN := by
      obtain ⟨_, _, hs, _⟩ := own_shape hro4
      injection hs with _ hs _
      exact hs.symm
    have hrd := (RdF.of_own hro4).rd
    have HCn := Lib.hid (cloneB_any sA sN sC w4.heap.size crep w4 (by omega) (Nat.le_refl _) hrd)
    have HW4 := Lib.hid hw4
    have Hsn := Lib.hid hsn
    clear hp3 hm3 hk3 hp4 hm4 HX d7 df HM2 z0 z1 z2 z3 HO2 hk24 hbx4 hro4 hw4 hsn hrd
    go_wp2_with fail
    refine HAd.out.mono ?_
    clear HAd
    rintro e w5 ⟨rfl, hw5⟩
    rw [← HW4.out] at hw5
    subst hw5
    go_wp2_with fail
    refine HCn.out.mono ?_
    clear HCn
    rintro e w6 ⟨v6, rfl, ho6, hb6⟩
    have HE6 : Hid (BegE w F g ⟨2, crep, 0, { t with row := useC k ⟨cid, num, false, crep⟩ t.row, na := more1 t.na }⟩ (.returned (.tuple #[.int .i64 2, v6, .int .i64 0])) w6) := Lib.hid (by
      rw [← Hsn.out] at ho6
      obtain ⟨A6, c6, rfl, _⟩ := own_shape ho6
      have hsz := HMz.out.kp.size
      refine ⟨(A6, crep.length, c6), rfl, Lib.hid ⟨own_mono ho6 (by omega), F3, HPz.out.below hb6, HMz.out.trans (Mv.of (Kp.of_below hb6)), fun k e hf => ?_⟩⟩
      have h1 := (ho6.lt k e).1
      have h2 := HPz.out.lt k hf
      omega)
    clear ho6 hb6
    go_wp2
    refine bodyPost_ret (by simp [results, Try.results13, go_sem]; try rfl) rfl ?_
    rw [← HCl.out]
    exact HE6.out
end
end Go.Proofs.Ytgippbbbfpkhhaa

/- Layer 13, the program's table: Begin of a client that is not remembered; Begin. -/
namespace Go.Proofs.Ytgippbbbfpkhhaa
open Go.RowKit Go.Maps

theorem roomy_len {t : Tb} (h : t.Ok) (hr : t.roomy.1 = true) : t.roomy.2.row.length < t.most ∧ t.roomy.2 = { t with row := t.roomy.2.row } ∧ t.roomy.2.row.Sublist t.row := by
  have hl := h.len
  unfold Tb.roomy at hr ⊢
  split
  · exact ⟨by assumption, rfl, List.Sublist.refl _⟩
  · rename_i h1
    rw [if_neg h1] at hr
    split
    · rename_i k hk
      refine ⟨?_, rfl, List.eraseIdx_sublist _ _⟩
      obtain ⟨hk, _⟩ := freeC_some hk
      show (t.row.eraseIdx k).length < _
      rw [List.length_eraseIdx_of_lt hk]
      omega
    · rename_i hk
      rw [hk] at hr
      cases hr
theorem roomy_no {t : Tb} (hr : t.roomy.1 = false) : t.roomy.2 = t := by
  unfold Tb.roomy at hr ⊢
  split
  · rfl
  · rename_i h1
    rw [if_neg h1] at hr
    split
    · rename_i k hk; rw [hk] at hr; cases hr
    · rfl
theorem begin_none {t : Tb} {id num : Nat} (hn : num ≠ 0) (hf : findC id t.row = none) : t.begin id num = if t.roomy.1 then t.fresh id num t.roomy.2.row else ⟨0, [], 130, t⟩ := by
  unfold Tb.begin Tb.roomy
  simp only [if_neg hn, hf]
  by_cases h : t.row.length < t.most
  · rw [if_pos h, if_pos h]; rfl
  · rw [if_neg h, if_neg h]
    cases freeC t.row <;> rfl
section
variable {w w' : World} {F F' G : Nat → Prop} {g n c : Nat} {t : Tb} {A : Option Addr} {es : List Cle} {dn : Bool} {mp : Option Nat}
theorem use_last (l : List Cl) (x y : Cl) : useC l.length y (l ++ [x]) = l ++ [y] := by
  unfold useC
  rw [List.eraseIdx_append_of_length_le (Nat.le_refl _), Nat.sub_self]
  simp
set_option maxRecDepth 100000 in
set_option maxHeartbeats 4000000 in
theorem beginN_any (h : PT w F g t) (hok : t.Ok) (id num : Nat) (hid : id < 18446744073709551616) (hn0 : num ≠ 0) (hf : findC id t.row = none) :
    Calls Try.prog 13 #[.pointer (some ⟨g, 0, none⟩), .int .u64 (id : Int), .int .u64 (num : Int)] w (BegE w F g (t.begin id num)) := by
  obtain ⟨A, n, c, es, dn, mp, h⟩ := h
  have hlen := h.len
  have hmost := hok.most
  have hrl := hok.len
  have m0 : ¬ (num : Int) = 0 := by omega
  have m1 : ((num : Int) == 0) = false := by simp; omega
  have HFd : Hid (Calls Try.prog 30 #[.pointer (some ⟨g, 0, none⟩), .int .u64 (id : Int)] w fun e w1 => e = .returned (.tuple #[.int .i64 0, .bool false]) ∧ Hid (DoneE w F g t A n c es w1)) := Lib.hid (by
    have := find_any h hok.sure id hid
    rw [hf] at this
    exact this)
  have hnot : ∀ (x : Bool) (w : World), (Op.unary .not (.bool x)).run Try.prog w = .ok (.bool (!x)) w := fun _ _ => rfl
  have hb := begin_none hn0 hf
  rw [hb]
  have HRm : Hid (∀ w1 F1 b, PTm w1 F1 g t A n c es true (some b) → Calls Try.prog 31 #[.pointer (some ⟨g, 0, none⟩)] w1 (UsedE w1 F1 g t.roomy.2 (.bool t.roomy.1))) := Lib.hid fun w1 F1 b hp => room_any hp (by omega)
  cases hr : t.roomy.1 with
  | false =>
    rw [hr] at HRm
    rw [roomy_no hr] at HRm
    rw [if_neg (by decide)]
    clear h hok hlen hmost hrl hn0 hf hb hr
    go_enter Try.func13, Try.ntmps13
    go_wp2_with fail
    refine HFd.out.mono ?_
    clear HFd
    rintro e w1 ⟨rfl, HX⟩
    obtain ⟨F1, b1, hp1, hm1, hk1⟩ := HX.out
    have HRm1 := Lib.hid (HRm.out w1 F1 b1 hp1)
    have HM1 := Lib.hid hm1
    clear hp1 hm1 hk1 HX HRm
    go_wp2_with fail
    refine HRm1.out.mono ?_
    rintro e w2 ⟨rfl, HY⟩
    have HZ : Hid (∃ F', PT w2 F' g t ∧ Mv F F' w w2) := Lib.hid (by
      obtain ⟨F2, hp2, hm2⟩ := HY.out
      exact ⟨F2, hp2, HM1.out.trans hm2⟩)
    clear HY HRm1 HM1
    go_wp2
    refine bodyPost_ret (by simp [results, Try.results13, go_sem]; try rfl) rfl ?_
    exact BegE.noRep HZ.out
  | true =>
    rw [hr] at HRm
    rw [if_pos rfl]
    obtain ⟨hl2, he2, hsub⟩ := roomy_len hok hr
    obtain ⟨l2, hl2e⟩ : ∃ l2, l2 = t.roomy.2.row := ⟨_, rfl⟩
    rw [← hl2e] at hl2 he2 ⊢
    rw [he2] at HRm
    obtain ⟨K, hK⟩ : ∃ K, K = l2.length := ⟨_, rfl⟩
    obtain ⟨t3, ht3⟩ : ∃ t3 : Tb, t3 = { t with row := l2 ++ [⟨id, 0, false, []⟩] } := ⟨_, rfl⟩
    have hK3 : K < t3.row.length := by rw [ht3, hK]; simp
    have hKl : t3.row.length ≤ 100 := by rw [ht3]; simp; omega
    have hat3 : t3.row[K] = ⟨id, 0, false, []⟩ := by subst ht3 hK; simp
    have huse : useC K ⟨id, num, true, []⟩ t3.row = l2 ++ [⟨id, num, true, []⟩] := by subst ht3 hK; exact use_last _ _ _
    have hfr : t.fresh id num l2 = ⟨1, [], 0, { t3 with row := useC K ⟨id, num, true, []⟩ t3.row, nb := more1 t3.nb }⟩ := by rw [huse, ht3]; rfl
    rw [hfr]
    have HAd : Hid (∀ w2 F2, PT w2 F2 g { t with row := l2 } → Calls Try.prog 32 #[.pointer (some ⟨g, 0, none⟩), .agg #[.int .u64 (id : Int), .int .u64 0, .bool false, .slice none 0 0]] w2 (UsedE w2 F2 g t3 (.int .i64 (K : Int)))) := Lib.hid fun w2 F2 hp => by
      obtain ⟨A2, n2, c2, es2, dn2, mp2, hp⟩ := hp
      have := add_any hp (by have := hp.len; dsimp only at this; omega) ⟨id, 0, false, []⟩ (none, 0, 0) (World.ownsRow_nil _ _ _ _) (fun k e => by cases e)
      rw [← ht3] at this
      dsimp only at this
      rw [← hK] at this
      exact this
    have HUs : Hid (∀ w4 F4 A4 n4 c4 es4 d4 m4, PTm w4 F4 g t3 A4 n4 c4 es4 d4 m4 → Calls Try.prog 33 #[.pointer (some ⟨g, 0, none⟩), .int .i64 (K : Int), .agg #[.int .u64 (id : Int), .int .u64 (num : Int), .bool true, .slice none 0 0]] w4 (UsedK w4 F4 g { t3 with row := useC K ⟨id, num, true, []⟩ t3.row } (.slice A4 n4 c4))) := Lib.hid fun w4 F4 A4 n4 c4 es4 d4 m4 hp =>
      cuse_any hp (by have := hp.len; omega) K (by have := hp.len; omega) ⟨id, num, true, []⟩ (none, 0, 0) (World.ownsRow_nil _ _ _ _) (fun k e => by cases e) (by rw [Tb.at_eq t3 hK3, hat3])
    have mK : ¬ (K : Int) < 0 := by omega
    have HK3 := Lib.hid hK3
    have HAt : Hid (∀ h : K < t3.row.length, t3.row[K] = ⟨id, 0, false, []⟩) := Lib.hid fun _ => hat3
    have mm : ¬ (0 : Int) > (num : Int) := by omega
    have mm2 : (0 : Int) < (num : Int) := by omega
    have mm3 : ¬ (num : Int) < 0 := by omega
    clear h hok hlen hmost hrl hn0 hf hb hr hl2 he2 hsub hl2e hK ht3 hK3 hKl hat3 huse hfr
    go_enter Try.func13, Try.ntmps13
    go_wp2_with fail
    refine HFd.out.mono ?_
    clear HFd
    rintro e w1 ⟨rfl, HX⟩
    obtain ⟨F1, b1, hp1, hm1, hk1⟩ := HX.out
    have HRm1 := Lib.hid (HRm.out w1 F1 b1 hp1)
    have HM1 := Lib.hid hm1
    clear hp1 hm1 hk1 HX HRm
    go_wp2_with fail
    refine HRm1.out.mono ?_
    rintro e w2 ⟨rfl, HY⟩
    obtain ⟨F2, hp2, hm2⟩ := HY.out
    have HAd2 := Lib.hid (HAd.out w2 F2 hp2)
    have HM2 := Lib.hid (HM1.out.trans hm2)
    clear hp2 hm2 HY HRm1 HM1 HAd
    go_wp2_with fail
    refine HAd2.out.mono ?_
    clear HAd2
    rintro e w3 ⟨rfl, HY⟩
    obtain ⟨F3, ⟨A3, n3, c3, es3, d3, p3, hp3⟩, hm3⟩ := HY.out
    obtain ⟨bR, ⟨sA, sN, sC⟩, rfl, q0, q1, q2, q3, -, -⟩ := hp3.stands K HK3.out
    rw [HAt.out HK3.out] at q0 q1 q2
    unfold s3W at q3
    dsimp only at q0 q1 q2
    have g1 : w3.cell? ⟨g, 1, none⟩ = some (.slice (some ⟨bR, 0, none⟩) n3 c3) := hp3.cells.2.1
    obtain ⟨w4, hw4⟩ : ∃ w4, w4 = w3.alloc (.cells #[.int .u64 (id : Int), .int .u64 0, .bool false, .slice sA sN sC] 64) := ⟨_, rfl⟩
    have hb4 : Below w3.heap.size w3 w4 := by rw [hw4]; exact bel1N _ _
    have hbx : Bk w4 w3.heap.size 64 #[.int .u64 (id : Int), .int .u64 0, .bool false, .slice sA sN sC] := by rw [hw4]; exact Bk.new w3 _ _
    have hbxz : w4.cell? ⟨w3.heap.size, 1, none⟩ = some (.int .u64 0) := hbx.cell 1
    have HU4 := Lib.hid (HUs.out w4 F3 _ n3 c3 es3 d3 p3 (hp3.below hb4))
    have HM4 := Lib.hid ((HM2.out.trans hm3).trans (Mv.of (Kp.of_below hb4)))
    have HW4 := Lib.hid hw4
    have mKn : (K : Int) < (n3 : Int) := by have := hp3.len; have := HK3.out; omega
    obtain ⟨bx, hbxe⟩ : ∃ bx, bx = w3.heap.size := ⟨_, rfl⟩
    rw [← hbxe] at hbxz
    have HXE := Lib.hid hbxe
    clear hp3 hm3 hb4 hbx hw4 HY HM2 HUs hbxe
    go_upto_region 11 with (fail)
    rw [← HW4.out]
    rw [← HXE.out]
    clear q0 q1 q2 q3 g1 HW4 HXE
    go_wp2_with fail
    refine HU4.out.mono ?_
    clear HU4
    rintro e w5 ⟨rfl, HX⟩
    obtain ⟨F5, hp5, hm5, _⟩ := HX.out
    obtain ⟨d6, df, hp6, hm6⟩ := hp5.setNb
    have HAd := Lib.hid (o_add g 6 t3.nb w5 d6 df)
    have HZ : Hid (∃ F', PT (w5.setCell ⟨g, 6, none⟩ (.int .i64 (more1 t3.nb))) F' g { t3 with row := useC K ⟨id, num, true, []⟩ t3.row, nb := more1 t3.nb } ∧ Mv F F' w (w5.setCell ⟨g, 6, none⟩ (.int .i64 (more1 t3.nb)))) := Lib.hid ⟨F5, hp6, (HM4.out.trans hm5).trans hm6⟩
    clear hp5 hm5 hp6 hm6 HX d6 df HM4 hbxz
    go_wp2_with fail
    refine HAd.out.mono ?_
    clear HAd
    rintro e w6 ⟨rfl, hw6⟩
    rw [← hw6] at HZ
    clear hw6
    go_wp2
    refine bodyPost_ret (by simp [results, Try.results13, go_sem]; try rfl) rfl ?_
    exact BegE.noRep HZ.out
theorem cbegin_any (h : PT w F g t) (hok : t.Ok) (id num : Nat) (hid : id < 18446744073709551616) :
    Calls Try.prog 13 #[.pointer (some ⟨g, 0, none⟩), .int .u64 (id : Int), .int .u64 (num : Int)] w (BegE w F g (t.begin id num)) := by
  by_cases h0 : num = 0
  · subst h0
    exact begin0_any h id
  · cases hf : findC id t.row with
    | some k => exact beginK_any h hok id num hid h0 k hf
    | none => exact beginN_any h hok id num hid h0 hf
set_option maxRecDepth 100000 in
theorem cbegin_nil (id num : Int) (w : World) : Calls Try.prog 13 #[.pointer none, .int .u64 id, .int .u64 num] w fun e w' => e = .returned (.tuple #[.int .i64 0, .slice none 0 0, .int .i64 1]) ∧ w = w' := by
  go_enter Try.func13, Try.ntmps13
  go_wp2
  refine bodyPost_ret (by simp [results, Try.results13, go_sem]; try rfl) rfl ?_
  exact ⟨rfl, rfl⟩
end
end Go.Proofs.Ytgippbbbfpkhhaa
