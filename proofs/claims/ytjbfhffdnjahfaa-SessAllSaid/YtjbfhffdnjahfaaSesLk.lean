/- Layer 7's laws: what happens to a line. -/
import Derived.Test.YtjbfhffdnjahfaaSesLn
namespace Go.Proofs.Ytjbfhffdnjahfaa
open Go.RowKit Go.Maps

def LnX (W w : World) (gx gy g : Nat) (ls : List (List UInt8)) (i : Nat) : Prop :=
  ∃ Fx Fy sx ry vt vb vo ts bk out, LnR W w Fx Fy gx gy g sx ry (lnA gx gy vt vb vo) vt vb vo ts bk out ∧ LnOk ls sx ry (ts.map (·.1)) (bk.map (·.1)) (out.map (·.1)) ∧ ts.length ≤ 60 * i ∧ bk.length ≤ i ∧ sx.tick ≤ i ∧ ry.window ≤ 64
section
variable {W w : World} {gx gy g : Nat} {ls : List (List UInt8)} {i : Nat} {Fx Fy : Nat → Prop} {sx : Sd} {ry : Rc} {vt vb vo : Value} {ts bk : List Sge} {out : List (List UInt8 × Value)}
/-- The source of an append of a whole row of segments. -/
theorem SgR.src {w : World} {base n c : Nat} {G : Nat → Prop} {A : Option Addr} {es : List Sge} (h : SgR w base G (.slice A n c) es) : n = es.length ∧ (A = none → n = 0) ∧ (∀ a, A = some a → ∀ j u, (sgC es)[j]? = some u → w.cell? (a.add j) = some u) ∧ ∀ u ∈ sgC es, u.oneCell' = true := by
  have hone : ∀ u ∈ sgC es, u.oneCell' = true := fun u hu => by
    unfold sgC at hu
    rw [List.mem_flatMap] at hu
    obtain ⟨e, he, hu⟩ := hu
    obtain ⟨A2, c2, e2, _⟩ := h.body e he
    unfold sgE at hu
    simp only [List.mem_cons, List.not_mem_nil, or_false] at hu
    rcases hu with rfl | rfl | rfl | rfl
    · rfl
    · rfl
    · rfl
    · rw [e2]; rfl
  rcases h.own.2 with ⟨e, h0⟩ | ⟨g, cap, cur, e, _⟩
  · obtain ⟨rfl, rfl, rfl⟩ : A = none ∧ n = 0 ∧ c = 0 := by simpa using e
    exact ⟨h0.symm, fun _ => rfl, (fun a e => by cases e), hone⟩
  · obtain ⟨rfl, rfl, rfl⟩ : A = some ⟨g, 0, none⟩ ∧ n = es.length ∧ c = cap := by simpa using e
    refine ⟨rfl, (fun e => by cases e), fun a ha j u hu => ?_, hone⟩
    injection ha with ha
    subst ha
    exact h.own.cells (g := g) rfl j u hu
set_option maxRecDepth 100000 in
set_option maxHeartbeats 8000000 in
theorem pick_tick (h : LnR W w Fx Fy gx gy g sx ry (lnA gx gy vt vb vo) vt vb vo ts bk out) (how a : Int) (ack : Bool) (ht : sx.tick + 1 < 4611686018427387904) (hl : ts.length ≤ 100000) (hso : sx.out.length ≤ 1000)
    (hc : how < 0 ∨ 2 < how ∨ (if ack then bk.length else ts.length) = 0 ∨ 200 < (if ack then bk.length else ts.length)) :
    Calls Try.prog 30 #[.pointer (some ⟨g, 0, none⟩), .agg #[.int .i64 how, .int .i64 a, .bool ack]] w fun e w' => e = .returned (.bool true) ∧ ∃ vt' es2, es2.map (·.1) = sx.out ∧ LnR W w' Fx Fy gx gy g sx.tickS ry (lnA gx gy vt' vb vo) vt' vb vo (ts ++ es2) bk out := by
  obtain ⟨w1, hw1⟩ : ∃ w1, w1 = w.alloc (.cells #[.int .i64 how, .int .i64 a, .bool ack] 74) := ⟨_, rfl⟩
  have hb1 : Below w.heap.size w w1 := by rw [hw1]; exact (Below.refl _ _).alloc (Nat.le_refl _) _
  have h1 := h.below hb1
  obtain ⟨At, ct, hvt, hct⟩ := own_shape h.toR.own
  obtain ⟨Ab, cb, hvb, hcb⟩ := own_shape h.bkR.own
  obtain ⟨nt, hnt⟩ : ∃ nt, nt = ts.length := ⟨_, rfl⟩
  obtain ⟨nb, hnb⟩ : ∃ nb, nb = bk.length := ⟨_, rfl⟩
  obtain ⟨no, hno⟩ : ∃ no, no = sx.out.length := ⟨_, rfl⟩
  have hob : (lnA gx gy vt vb vo) = lnA gx gy (.slice At nt ct) (.slice Ab nb cb) vo := by rw [hvt, hvb, hnt, hnb]
  rw [← hnt] at hvt hl hct
  rw [← hnb] at hvb hcb
  rw [← hnt, ← hnb] at hc
  rw [← hno] at hso
  have HT : Hid (∀ q, Calls Try.prog 15 #[.pointer (some ⟨gx, 0, none⟩)] (w1.drewN q) fun e w' => ∃ A c es, e = .returned (.slice A no c) ∧ Hid (es.map (·.1) = sx.out ∧ SgR w' (w1.drewN q).heap.size (Un Fx Fy) (.slice A no c) es ∧ LnR W w' Fx Fy gx gy g sx.tickS ry (lnA gx gy vt vb vo) vt vb vo ts bk out)) := Lib.hid fun q => by
    have h2 := h1.below (bel_drewN (Below.refl w1.heap.size w1) q)
    refine (h2.tw.tick ht).mono ?_
    rintro e w' ⟨A, c, es, rfl, t1, t2, t3, t4⟩
    rw [hno]
    exact ⟨A, c, es, rfl, Lib.hid ⟨t1, t2, h2.mv t3 t4⟩⟩
  obtain ⟨j0, j1, j2, j3, j4⟩ := h1.cells
  have HW := Lib.hid hw1
  have HV := Lib.hid (And.intro hvt (And.intro hvb (And.intro hnt (And.intro hnb hno))))
  rw [hvt] at j2
  rw [hvb] at j3
  rw [hw1] at j0 j2 j3
  have HF : Hid (∀ w2 A c es, Hid (es.map (·.1) = sx.out ∧ SgR w2 (w1.drewN 1).heap.size (Un Fx Fy) (.slice A no c) es ∧ LnR W w2 Fx Fy gx gy g sx.tickS ry (lnA gx gy vt vb vo) vt vb vo ts bk out) → w2.cell? ⟨g, 2, none⟩ = some (.slice At nt ct) ∧ w2.frozen? ⟨g, 2, none⟩ = false ∧ Hid (w2.ownsRow W.heap.size 36 4 (.slice At nt ct) nt (sgC ts)) ∧ W.heap.size ≤ w2.heap.size ∧ Hid (no = es.length ∧ (A = none → no = 0) ∧ (∀ a, A = some a → ∀ j u, (sgC es)[j]? = some u → w2.cell? (a.add j) = some u) ∧ ∀ u ∈ sgC es, u.oneCell' = true)) := Lib.hid fun w2 A c es t => by
    have l := t.out.2.2
    have c2 : w2.cell? ⟨g, 2, none⟩ = some vt := l.box.cell 2
    have ho := l.toR.own
    rw [hvt] at c2 ho
    rw [← hnt] at ho
    exact ⟨c2, l.box.frozen 2, Lib.hid ho, l.tw.below.size, Lib.hid t.out.2.1.src⟩
  have HG : Hid (∀ w2 A c es, Hid (es.map (·.1) = sx.out ∧ SgR w2 (w1.drewN 1).heap.size (Un Fx Fy) (.slice A no c) es ∧ LnR W w2 Fx Fy gx gy g sx.tickS ry (lnA gx gy vt vb vo) vt vb vo ts bk out) → ∀ v' w3, App w2 w3 W.heap.size 36 4 (.slice At nt ct) v' nt no (sgC ts) (sgC es) → w3.cell? ⟨g, 2, none⟩ = some (.slice At nt ct) ∧ w3.frozen? ⟨g, 2, none⟩ = false ∧ Hid (LnR W w3 Fx Fy gx gy g sx.tickS ry (lnA gx gy vt vb vo) v' vb vo (ts ++ es) bk out)) := Lib.hid fun w2 A c es t v' w3 happ => by
    have hl2 : no = es.length := t.out.2.1.src.1
    have l := t.out.2.2
    have a3 : App w2 w3 W.heap.size 36 4 vt v' ts.length es.length (sgC ts) (sgC es) := by rw [hvt, ← hnt, ← hl2]; exact happ
    have l3 := l.appTo (fun e he => t.out.2.1.each e he) a3
    have c3 : w3.cell? ⟨g, 2, none⟩ = some vt := l3.box.cell 2
    rw [hvt] at c3
    exact ⟨c3, l3.box.frozen 2, Lib.hid l3⟩
  obtain ⟨i1, hi1, hy0, hy1, hy2⟩ := info_parts infoSeg7
  have HI1 := Lib.hid (And.intro hi1 (And.intro hy0 (And.intro hy1 hy2)))
  clear h h1 hb1 j1 j4 hw1 hnt hnb hno hvt hvb hi1 hy0 hy1 hy2 hob
  cases ack with
  | true =>
    rw [show (if true = true then nb else nt) = nb from rfl] at hc
    by_cases c1 : how < 0
    · clear hc
      go_enter Try.func30, Try.ntmps30
      go_wp2_with fail
      rw [← HW.out] at j0 j2 j3 ⊢
      first
      | (go_region_law (first
          | (go_simp; go_at_call 15; refine (HT.out 1).mono ?_; rintro e w2 ⟨Ae, ce, es, rfl, t1⟩; obtain ⟨m2, mf, mo, mz, ms⟩ := HF.out _ _ _ _ t1)
          | ((refine step_append_app _ rfl _ _ 45 (by rfl) W.heap.size 36 i1 _ 4 48 Try.underlying45 HI1.out.1 HI1.out.2.1 HI1.out.2.2.1 HI1.out.2.2.2 rfl (.slice At nt ct) nt (sgC ts) (by rfl) mo.out Ae no ce (sgC es) (by rfl) (by rw [sgC_len, ← ms.out.1]) ms.out.2.1 ms.out.2.2.1 ms.out.2.2.2 (by unfold maxLen; omega) (by omega) mz ?_); intro v' w3 happ; (obtain ⟨k3, fk3, H9⟩ := HG.out _ _ _ _ t1 v' w3 happ); (obtain ⟨A9, c9, rfl, _⟩ := own_shape happ.own); clear happ)))
      | fail
      all_goals
        have HL := Lib.hid (H9.out.set 2 (.slice A9 (nt + no) c9))
        clear k3 fk3 H9 m2 mf mo ms HF HG HT j0 j2 j3
        go_wp2
        go_ret
        exact ⟨rfl, _, es, t1.out.1, HL.out⟩
    by_cases c2 : 2 < how
    · clear hc
      go_enter Try.func30, Try.ntmps30
      go_wp2_with fail
      rw [← HW.out] at j0 j2 j3 ⊢
      first
      | (go_region_law (first
          | (go_simp; go_at_call 15; refine (HT.out 1).mono ?_; rintro e w2 ⟨Ae, ce, es, rfl, t1⟩; obtain ⟨m2, mf, mo, mz, ms⟩ := HF.out _ _ _ _ t1)
          | ((refine step_append_app _ rfl _ _ 45 (by rfl) W.heap.size 36 i1 _ 4 48 Try.underlying45 HI1.out.1 HI1.out.2.1 HI1.out.2.2.1 HI1.out.2.2.2 rfl (.slice At nt ct) nt (sgC ts) (by rfl) mo.out Ae no ce (sgC es) (by rfl) (by rw [sgC_len, ← ms.out.1]) ms.out.2.1 ms.out.2.2.1 ms.out.2.2.2 (by unfold maxLen; omega) (by omega) mz ?_); intro v' w3 happ; (obtain ⟨k3, fk3, H9⟩ := HG.out _ _ _ _ t1 v' w3 happ); (obtain ⟨A9, c9, rfl, _⟩ := own_shape happ.own); clear happ)))
      | fail
      all_goals
        have HL := Lib.hid (H9.out.set 2 (.slice A9 (nt + no) c9))
        clear k3 fk3 H9 m2 mf mo ms HF HG HT j0 j2 j3
        go_wp2
        go_ret
        exact ⟨rfl, _, es, t1.out.1, HL.out⟩
    by_cases c3 : nb = 0
    · clear hc
      have c3' : (nb : Int) = 0 := by omega
      go_enter Try.func30, Try.ntmps30
      go_wp2_with fail
      rw [← HW.out] at j0 j2 j3 ⊢
      first
      | (go_region_law (first
          | (go_simp; go_at_call 15; refine (HT.out 1).mono ?_; rintro e w2 ⟨Ae, ce, es, rfl, t1⟩; obtain ⟨m2, mf, mo, mz, ms⟩ := HF.out _ _ _ _ t1)
          | ((refine step_append_app _ rfl _ _ 45 (by rfl) W.heap.size 36 i1 _ 4 48 Try.underlying45 HI1.out.1 HI1.out.2.1 HI1.out.2.2.1 HI1.out.2.2.2 rfl (.slice At nt ct) nt (sgC ts) (by rfl) mo.out Ae no ce (sgC es) (by rfl) (by rw [sgC_len, ← ms.out.1]) ms.out.2.1 ms.out.2.2.1 ms.out.2.2.2 (by unfold maxLen; omega) (by omega) mz ?_); intro v' w3 happ; (obtain ⟨k3, fk3, H9⟩ := HG.out _ _ _ _ t1 v' w3 happ); (obtain ⟨A9, c9, rfl, _⟩ := own_shape happ.own); clear happ)))
      | fail
      all_goals
        have HL := Lib.hid (H9.out.set 2 (.slice A9 (nt + no) c9))
        clear k3 fk3 H9 m2 mf mo ms HF HG HT j0 j2 j3
        go_wp2
        go_ret
        exact ⟨rfl, _, es, t1.out.1, HL.out⟩
    · have c4 : (200 : Int) < (nb : Int) := by omega
      have c3' : ¬ (nb : Int) = 0 := by omega
      clear hc
      go_enter Try.func30, Try.ntmps30
      go_wp2_with fail
      rw [← HW.out] at j0 j2 j3 ⊢
      first
      | (go_region_law (first
          | (go_simp; go_at_call 15; refine (HT.out 1).mono ?_; rintro e w2 ⟨Ae, ce, es, rfl, t1⟩; obtain ⟨m2, mf, mo, mz, ms⟩ := HF.out _ _ _ _ t1)
          | ((refine step_append_app _ rfl _ _ 45 (by rfl) W.heap.size 36 i1 _ 4 48 Try.underlying45 HI1.out.1 HI1.out.2.1 HI1.out.2.2.1 HI1.out.2.2.2 rfl (.slice At nt ct) nt (sgC ts) (by rfl) mo.out Ae no ce (sgC es) (by rfl) (by rw [sgC_len, ← ms.out.1]) ms.out.2.1 ms.out.2.2.1 ms.out.2.2.2 (by unfold maxLen; omega) (by omega) mz ?_); intro v' w3 happ; (obtain ⟨k3, fk3, H9⟩ := HG.out _ _ _ _ t1 v' w3 happ); (obtain ⟨A9, c9, rfl, _⟩ := own_shape happ.own); clear happ)))
      | fail
      all_goals
        have HL := Lib.hid (H9.out.set 2 (.slice A9 (nt + no) c9))
        clear k3 fk3 H9 m2 mf mo ms HF HG HT j0 j2 j3
        go_wp2
        go_ret
        exact ⟨rfl, _, es, t1.out.1, HL.out⟩
  | false =>
    rw [show (if false = true then nb else nt) = nt from rfl] at hc
    by_cases c1 : how < 0
    · clear hc
      go_enter Try.func30, Try.ntmps30
      go_wp2_with fail
      rw [← HW.out] at j0 j2 j3 ⊢
      first
      | (go_region_law (first
          | (go_simp; go_at_call 15; refine (HT.out 1).mono ?_; rintro e w2 ⟨Ae, ce, es, rfl, t1⟩; obtain ⟨m2, mf, mo, mz, ms⟩ := HF.out _ _ _ _ t1)
          | ((refine step_append_app _ rfl _ _ 45 (by rfl) W.heap.size 36 i1 _ 4 48 Try.underlying45 HI1.out.1 HI1.out.2.1 HI1.out.2.2.1 HI1.out.2.2.2 rfl (.slice At nt ct) nt (sgC ts) (by rfl) mo.out Ae no ce (sgC es) (by rfl) (by rw [sgC_len, ← ms.out.1]) ms.out.2.1 ms.out.2.2.1 ms.out.2.2.2 (by unfold maxLen; omega) (by omega) mz ?_); intro v' w3 happ; (obtain ⟨k3, fk3, H9⟩ := HG.out _ _ _ _ t1 v' w3 happ); (obtain ⟨A9, c9, rfl, _⟩ := own_shape happ.own); clear happ)))
      | fail
      all_goals
        have HL := Lib.hid (H9.out.set 2 (.slice A9 (nt + no) c9))
        clear k3 fk3 H9 m2 mf mo ms HF HG HT j0 j2 j3
        go_wp2
        go_ret
        exact ⟨rfl, _, es, t1.out.1, HL.out⟩
    by_cases c2 : 2 < how
    · clear hc
      go_enter Try.func30, Try.ntmps30
      go_wp2_with fail
      rw [← HW.out] at j0 j2 j3 ⊢
      first
      | (go_region_law (first
          | (go_simp; go_at_call 15; refine (HT.out 1).mono ?_; rintro e w2 ⟨Ae, ce, es, rfl, t1⟩; obtain ⟨m2, mf, mo, mz, ms⟩ := HF.out _ _ _ _ t1)
          | ((refine step_append_app _ rfl _ _ 45 (by rfl) W.heap.size 36 i1 _ 4 48 Try.underlying45 HI1.out.1 HI1.out.2.1 HI1.out.2.2.1 HI1.out.2.2.2 rfl (.slice At nt ct) nt (sgC ts) (by rfl) mo.out Ae no ce (sgC es) (by rfl) (by rw [sgC_len, ← ms.out.1]) ms.out.2.1 ms.out.2.2.1 ms.out.2.2.2 (by unfold maxLen; omega) (by omega) mz ?_); intro v' w3 happ; (obtain ⟨k3, fk3, H9⟩ := HG.out _ _ _ _ t1 v' w3 happ); (obtain ⟨A9, c9, rfl, _⟩ := own_shape happ.own); clear happ)))
      | fail
      all_goals
        have HL := Lib.hid (H9.out.set 2 (.slice A9 (nt + no) c9))
        clear k3 fk3 H9 m2 mf mo ms HF HG HT j0 j2 j3
        go_wp2
        go_ret
        exact ⟨rfl, _, es, t1.out.1, HL.out⟩
    by_cases c3 : nt = 0
    · clear hc
      subst c3
      go_enter Try.func30, Try.ntmps30
      go_wp2_with fail
      rw [← HW.out] at j0 j2 j3 ⊢
      first
      | (go_region_law (first
          | (go_simp; go_at_call 15; refine (HT.out 1).mono ?_; rintro e w2 ⟨Ae, ce, es, rfl, t1⟩; obtain ⟨m2, mf, mo, mz, ms⟩ := HF.out _ _ _ _ t1)
          | ((refine step_append_app _ rfl _ _ 45 (by rfl) W.heap.size 36 i1 _ 4 48 Try.underlying45 HI1.out.1 HI1.out.2.1 HI1.out.2.2.1 HI1.out.2.2.2 rfl (.slice At 0 ct) 0 (sgC ts) (by rfl) mo.out Ae no ce (sgC es) (by rfl) (by rw [sgC_len, ← ms.out.1]) ms.out.2.1 ms.out.2.2.1 ms.out.2.2.2 (by unfold maxLen; omega) (by omega) mz ?_); intro v' w3 happ; (obtain ⟨k3, fk3, H9⟩ := HG.out _ _ _ _ t1 v' w3 happ); (obtain ⟨A9, c9, rfl, _⟩ := own_shape happ.own); clear happ)))
      | fail
      all_goals
        have HL := Lib.hid (H9.out.set 2 (.slice A9 (0 + no) c9))
        simp only [Nat.zero_add] at HL
        clear k3 fk3 H9 m2 mf mo ms HF HG HT j0 j2 j3
        go_wp2
        go_ret
        exact ⟨rfl, _, es, t1.out.1, HL.out⟩
    · have c4 : (200 : Int) < (nt : Int) := by omega
      have c3' : ¬ (nt : Int) = 0 := by omega
      clear hc
      go_enter Try.func30, Try.ntmps30
      go_wp2_with fail
      rw [← HW.out] at j0 j2 j3 ⊢
      first
      | (go_region_law (first
          | (go_simp; go_at_call 15; refine (HT.out 1).mono ?_; rintro e w2 ⟨Ae, ce, es, rfl, t1⟩; obtain ⟨m2, mf, mo, mz, ms⟩ := HF.out _ _ _ _ t1)
          | ((refine step_append_app _ rfl _ _ 45 (by rfl) W.heap.size 36 i1 _ 4 48 Try.underlying45 HI1.out.1 HI1.out.2.1 HI1.out.2.2.1 HI1.out.2.2.2 rfl (.slice At nt ct) nt (sgC ts) (by rfl) mo.out Ae no ce (sgC es) (by rfl) (by rw [sgC_len, ← ms.out.1]) ms.out.2.1 ms.out.2.2.1 ms.out.2.2.2 (by unfold maxLen; omega) (by omega) mz ?_); intro v' w3 happ; (obtain ⟨k3, fk3, H9⟩ := HG.out _ _ _ _ t1 v' w3 happ); (obtain ⟨A9, c9, rfl, _⟩ := own_shape happ.own); clear happ)))
      | fail
      all_goals
        have HL := Lib.hid (H9.out.set 2 (.slice A9 (nt + no) c9))
        clear k3 fk3 H9 m2 mf mo ms HF HG HT j0 j2 j3
        go_wp2
        go_ret
        exact ⟨rfl, _, es, t1.out.1, HL.out⟩
end
end Go.Proofs.Ytjbfhffdnjahfaa
