/- Layer 7's laws: what happens to a line: a segment comes, or is lost. -/
import Derived.Test.YtjbfhffdnjahfaaSesLk
namespace Go.Proofs.Ytjbfhffdnjahfaa
open Go.RowKit Go.Maps

section
variable {W w : World} {gx gy g : Nat} {ls : List (List UInt8)} {i : Nat} {Fx Fy : Nat → Prop} {sx : Sd} {ry : Rc} {vt vb vo : Value} {ts bk : List Sge} {out : List (List UInt8 × Value)}
theorem SgR.sub {w : World} {base : Nat} {G : Nat → Prop} {v : Value} {es : List Sge} (h : SgR w base G v es) {es' : List Sge} (hs : ∀ e ∈ es', e ∈ es) : ∀ e ∈ es', BodR w G e := fun e he => h.each e (hs e he)
theorem BodR.below {w w' : World} {G : Nat → Prop} {e : Sge} (h : BodR w G e) (hb : Below w.heap.size w w') : BodR w' G e :=
  ⟨own_kp h.1 (Kp.of_below (F := fun _ => False) hb) (fun _ _ hf => hf), fun k e => (h.2 k e).mv (Mv.below7 hb)⟩
theorem BodR.set {w : World} {G : Nat → Prop} {e : Sge} {g : Nat} {ys : Array Value} (h : BodR w G e) (hb : Bk w g 76 ys) (i : Nat) (u : Value) : BodR (w.setCell ⟨g, i, none⟩ u) G e := by
  have hk : Kp (· = g) w (w.setCell ⟨g, i, none⟩ u) := Kp.set_ (F := (· = g)) (p := ⟨g, i, none⟩) rfl u
  exact ⟨own_kp h.1 hk fun k e1 e2 => by subst e2; exact own_bk7 h.1 hb (by decide) e1, fun k e => ⟨Nat.lt_of_lt_of_le (h.2 k e).1 hk.size, (h.2 k e).2⟩⟩
/-- Where the segment lies. -/
def atL (a : Int) (n : Nat) : Nat := ((a % 18446744073709551616) % (n : Int)).toNat
theorem atL_lt (a : Int) (n : Nat) (h : 0 < n) : atL a n < n := by
  unfold atL
  have h1 := Int.emod_nonneg (a % 18446744073709551616) (show (n : Int) ≠ 0 by omega)
  have h2 := Int.emod_lt_of_pos (a % 18446744073709551616) (show (0 : Int) < (n : Int) by omega)
  omega
theorem atL_eq (a : Int) (n : Nat) (h : 0 < n) (hn : n ≤ 200) : wrap64 ((IntKind.u64.wrap a).tmod (n : Int)) = (atL a n : Int) := by
  have h0 : 0 ≤ a % 18446744073709551616 := Int.emod_nonneg _ (by decide)
  have h1 := Int.emod_nonneg (a % 18446744073709551616) (show (n : Int) ≠ 0 by omega)
  have h2 := Int.emod_lt_of_pos (a % 18446744073709551616) (show (0 : Int) < (n : Int) by omega)
  rw [IntKind.wrap_u64, Int.tmod_eq_emod_of_nonneg h0]
  unfold atL
  generalize a % 18446744073709551616 % (n : Int) = x at *
  unfold wrap64
  omega
set_option maxRecDepth 100000 in
set_option maxHeartbeats 8000000 in
theorem pick_back0 (h : LnR W w Fx Fy gx gy g sx ry (lnA gx gy vt vb vo) vt vb vo ts bk out) (a : Int) (h0 : 0 < bk.length) (h2 : bk.length ≤ 200) (e0 : Sge) (k : Nat) (hk : k = atL a bk.length) (hge : bk[k]? = some e0) (hm : e0.1.Ok) (hz : (sx.hear e0.1).1 = 0) :
    Calls Try.prog 30 #[.pointer (some ⟨g, 0, none⟩), .agg #[.int .i64 0, .int .i64 a, .bool true]] w fun e w' => e = .returned (.bool true) ∧ ∃ v3, ∃ Fx', LnR W w' Fx' Fy gx gy g (sx.hear e0.1).2 ry (lnA gx gy vt v3 vo) vt v3 vo ts (cutL bk k bk.length) out := by
  have hlt : k < bk.length := by rw [hk]; exact atL_lt a _ h0
  have hat := atL_eq a bk.length h0 h2
  rw [← hk] at hat
  have he0 : bk[k] = e0 := by rw [List.getElem?_eq_getElem hlt] at hge; injection hge
  obtain ⟨w1, hw1⟩ : ∃ w1, w1 = w.alloc (.cells #[.int .i64 0, .int .i64 a, .bool true] 74) := ⟨_, rfl⟩
  have hb1 : Below w.heap.size w w1 := by rw [hw1]; exact (Below.refl _ _).alloc (Nat.le_refl _) _
  have h1 := h.below hb1
  have p1 : Bk w1 w.heap.size 74 #[.int .i64 0, .int .i64 a, .bool true] := by rw [hw1]; exact Bk.new w _ _
  obtain ⟨R, cb, hvr, x0, x1, x2, x3⟩ := h1.bkR.cell k hlt
  have hbod := h1.bkR.each bk[k] (List.getElem_mem hlt)
  obtain ⟨Ax, cx, hx, _⟩ := own_shape hbod.1
  rw [he0] at x0 x1 x2 x3 hx
  have hbod : BodR w1 (Un Fx Fy) e0 := by rw [← he0]; exact hbod
  obtain ⟨⟨el, es, ea, eb⟩, ev⟩ := e0
  dsimp only at x0 x1 x2 x3 hx
  obtain ⟨nx, hnx⟩ : ∃ nx, nx = eb.length := ⟨_, rfl⟩
  rw [← hnx] at hx
  subst hx
  obtain ⟨w2, hw2⟩ : ∃ w2, w2 = w1.alloc (.cells #[.int .u64 (el : Int), .int .u64 (es : Int), .bool ea, .slice Ax nx cx] 36) := ⟨_, rfl⟩
  have hb2 : Below w1.heap.size w1 w2 := by rw [hw2]; exact (Below.refl _ _).alloc (Nat.le_refl _) _
  have hz1 : w1.heap.size = w.heap.size + 1 := by rw [hw1]; simp
  have p2 := p1.below hb2 p1.lt
  have s2 : Bk w2 (w.heap.size + 1) 36 #[.int .u64 (el : Int), .int .u64 (es : Int), .bool ea, .slice Ax nx cx] := by rw [hw2, ← hz1]; exact Bk.new w1 _ _
  have l2 := h1.below hb2
  have hgw : g < w.heap.size := h.box.lt
  obtain ⟨Ao, co, hvo2, _⟩ := own_shape h.toR.own
  obtain ⟨nr, hnr⟩ : ∃ nr, nr = bk.length := ⟨_, rfl⟩
  obtain ⟨no, hno⟩ : ∃ no, no = ts.length := ⟨_, rfl⟩
  rw [← hnr] at hvr hlt h0 h2 hat
  rw [← hno] at hvo2
  obtain ⟨i0, i1, i2, i3, i4⟩ := h1.cells
  obtain ⟨j0, j1, j2, j3, j4⟩ := l2.cells
  rw [hvo2] at i2 j2
  rw [hvr] at i3 j3
  have q0 : w1.cell? ⟨w.heap.size, 0, none⟩ = some (.int .i64 0) := p1.cell 0
  have q1 : w1.cell? ⟨w.heap.size, 1, none⟩ = some (.int .i64 a) := p1.cell 1
  have q2 : w1.cell? ⟨w.heap.size, 2, none⟩ = some (.bool true) := p1.cell 2
  have r0 : w2.cell? ⟨w.heap.size, 0, none⟩ = some (.int .i64 0) := p2.cell 0
  have r1 : w2.cell? ⟨w.heap.size, 1, none⟩ = some (.int .i64 a) := p2.cell 1
  have r2 : w2.cell? ⟨w.heap.size, 2, none⟩ = some (.bool true) := p2.cell 2
  have s0 : w2.cell? ⟨w.heap.size + 1, 0, none⟩ = some (.int .u64 (el : Int)) := s2.cell 0
  have s1 : w2.cell? ⟨w.heap.size + 1, 1, none⟩ = some (.int .u64 (es : Int)) := s2.cell 1
  have s2' : w2.cell? ⟨w.heap.size + 1, 2, none⟩ = some (.bool ea) := s2.cell 2
  have s3 : w2.cell? ⟨w.heap.size + 1, 3, none⟩ = some (.slice Ax nx cx) := s2.cell 3
  have HCUT : Hid (∀ Wq, Below w2.heap.size w2 Wq → Calls Try.prog 44 #[.slice (some ⟨R, 0, none⟩) nr cb, .int .i64 (k : Int)] Wq fun e ww => ∃ A3 n3 c3, e = .returned (.slice A3 n3 c3) ∧ Hid (LnR W ww Fx Fy gx gy g sx ry (lnA gx gy vt vb vo) vt (.slice A3 n3 c3) vo ts (cutL bk k bk.length) out ∧ BodR ww (Un Fx Fy) (⟨el, es, ea, eb⟩, .slice Ax nx cx)) ∧ ww.cell? ⟨g, 0, none⟩ = some (.pointer (some ⟨gx, 0, none⟩)) ∧ ww.frozen? ⟨g, 3, none⟩ = false ∧ ww.cell? ⟨g, 3, none⟩ = some (.slice (some ⟨R, 0, none⟩) nr cb) ∧ ww.cell? ⟨w.heap.size, 0, none⟩ = some (.int .i64 0) ∧ ww.cell? ⟨w.heap.size, 2, none⟩ = some (.bool true) ∧ ww.cell? ⟨w.heap.size + 1, 0, none⟩ = some (.int .u64 (el : Int)) ∧ ww.cell? ⟨w.heap.size + 1, 1, none⟩ = some (.int .u64 (es : Int)) ∧ ww.cell? ⟨w.heap.size + 1, 2, none⟩ = some (.bool ea) ∧ ww.cell? ⟨w.heap.size + 1, 3, none⟩ = some (.slice Ax nx cx)) := Lib.hid fun Wq hbq => by
    have lq := l2.below hbq
    have pq := p2.below hbq p2.lt
    have sq := s2.below hbq s2.lt
    have hrq := (hbod.below hb2).below hbq
    have hrow := lq.bkR
    rw [hvr] at hrow
    refine (cut_any (some ⟨R, 0, none⟩) nr cb bk k W.heap.size (Un Fx Fy) Wq hrow hnr (by omega) hlt).mono ?_
    rintro e ww ⟨v3, rfl, ho3, hb3⟩
    obtain ⟨A3, c3, hv3, _⟩ := own_shape ho3
    rw [hnr] at hv3 ho3
    have l3 := lq.below hb3
    have p3 := pq.below hb3 pq.lt
    have s3 := sq.below hb3 sq.lt
    have hsz := lq.tw.below.size
    have l4 := l3.newBk (v' := v3) (bk' := (cutL bk k bk.length)) (own_mono ho3 hsz) (fun k e hu => by have := (ho3.lt k e).1; have := lq.tw.lt k hu; omega) (fun e he => l3.bkR.each e (List.mem_of_mem_take (List.mem_of_mem_eraseIdx he))) (fun k e1 e2 => by have := (ho3.lt k e2).1; have := (lq.toR.own.lt k e1).2; omega)
    have c3' : ww.cell? ⟨g, 3, none⟩ = some vb := l3.box.cell 3
    rw [hvr] at c3'
    subst hv3
    exact ⟨A3, _, c3, rfl, Lib.hid ⟨l4, hrq.below hb3⟩, l3.box.cell 0, l3.box.frozen 3, c3', p3.cell 0, p3.cell 2, s3.cell 0, s3.cell 1, s3.cell 2, s3.cell 3⟩
  have HW := Lib.hid hw1
  have HW2 : Hid (w2 = (w.alloc (.cells #[.int .i64 0, .int .i64 a, .bool true] 74)).alloc (.cells #[.int .u64 (el : Int), .int .u64 (es : Int), .bool ea, .slice Ax nx cx] 36)) := Lib.hid (by rw [hw2, hw1])
  have hw2' := HW2.out
  rw [hw1] at i0 i1 i2 i3 i4 x0 x1 x2 x3 q0 q1 q2
  rw [hw2'] at j0 j1 j2 j3 j4 r0 r1 r2 s0 s1 s2' s3
  have g0 : ¬ (nr : Int) = 0 := by omega
  have g1 : ¬ (200 : Int) < (nr : Int) := by omega
  have g2 : (k : Int) < (nr : Int) := by omega
  have n1 : ¬ w.heap.size = g := by omega
  have n2 : ¬ w.heap.size + 1 = g := by omega
  have n3 : ¬ g = w.heap.size := by omega
  have n4 : ¬ g = w.heap.size + 1 := by omega
  have HNX := Lib.hid hnx
  have HNR := Lib.hid hnr
  have L2 := Lib.hid l2
  have HRD := Lib.hid (hbod.below hb2)
  clear h h1 hb1 hw1 he0 hnr hno hk p1 hb2 hz1 p2 s2 l2 hgw hw2 hw2' hbod hnx hge hvr hvo2
  go_enter Try.func30, Try.ntmps30
  go_wp2_with fail
  rw [← HW2.out]
  refine (HCUT.out _ (Below.refl _ _)).mono ?_
  rintro e ww ⟨A3, n3', c3, rfl, H3, y0, yf, y1, y2, y3, y4, y5, y6, y7⟩
  clear i0 i1 i2 i3 i4 x0 x1 x2 x3 q0 q1 q2 j0 j1 j2 j3 j4 r0 r1 r2 s0 s1 s2' s3 HCUT
  obtain ⟨w3, hw3⟩ : ∃ w3, w3 = ww.setCell ⟨g, 3, none⟩ (.slice A3 n3' c3) := ⟨_, rfl⟩
  have L3 : Hid (LnR W w3 Fx Fy gx gy g sx ry (lnA gx gy vt (.slice A3 n3' c3) vo) vt (.slice A3 n3' c3) vo ts (cutL bk k bk.length) out ∧ BodR w3 (Un Fx Fy) (⟨el, es, ea, eb⟩, .slice Ax nx cx)) := Lib.hid (by
    rw [hw3]
    exact ⟨H3.out.1.set 3 _, H3.out.2.set H3.out.1.box _ _⟩)
  have HW3 := Lib.hid hw3
  clear hw3
  go_wp2_with fail
  rw [← HW3.out]
  have HC := Lib.hid (comes_ack L3.out.1 ⟨el, es, ea, eb⟩ hm Ax nx cx HNX.out.symm)
  refine HC.out.mono ?_
  rintro e w9 ⟨he, Fx', l9⟩
  rw [hz] at he
  subst he
  have H9 := Lib.hid l9
  clear l9 HC
  go_wp2
  go_ret
  exact ⟨rfl, _, Fx', H9.out⟩
set_option maxRecDepth 100000 in
set_option maxHeartbeats 8000000 in
theorem pick_back1 (h : LnR W w Fx Fy gx gy g sx ry (lnA gx gy vt vb vo) vt vb vo ts bk out) (a : Int) (h0 : 0 < bk.length) (h2 : bk.length ≤ 200) (e0 : Sge) (k : Nat) (hk : k = atL a bk.length) (hge : bk[k]? = some e0) (hm : e0.1.Ok) (hz : (sx.hear e0.1).1 = 0) :
    Calls Try.prog 30 #[.pointer (some ⟨g, 0, none⟩), .agg #[.int .i64 1, .int .i64 a, .bool true]] w fun e w' => e = .returned (.bool true) ∧ ∃ Fx', LnR W w' Fx' Fy gx gy g (sx.hear e0.1).2 ry (lnA gx gy vt vb vo) vt vb vo ts bk out := by
  have hlt : k < bk.length := by rw [hk]; exact atL_lt a _ h0
  have hat := atL_eq a bk.length h0 h2
  rw [← hk] at hat
  have he0 : bk[k] = e0 := by rw [List.getElem?_eq_getElem hlt] at hge; injection hge
  obtain ⟨w1, hw1⟩ : ∃ w1, w1 = w.alloc (.cells #[.int .i64 1, .int .i64 a, .bool true] 74) := ⟨_, rfl⟩
  have hb1 : Below w.heap.size w w1 := by rw [hw1]; exact (Below.refl _ _).alloc (Nat.le_refl _) _
  have h1 := h.below hb1
  have p1 : Bk w1 w.heap.size 74 #[.int .i64 1, .int .i64 a, .bool true] := by rw [hw1]; exact Bk.new w _ _
  obtain ⟨R, cb, hvr, x0, x1, x2, x3⟩ := h1.bkR.cell k hlt
  have hbod := h1.bkR.each bk[k] (List.getElem_mem hlt)
  obtain ⟨Ax, cx, hx, _⟩ := own_shape hbod.1
  rw [he0] at x0 x1 x2 x3 hx
  have hbod : BodR w1 (Un Fx Fy) e0 := by rw [← he0]; exact hbod
  obtain ⟨⟨el, es, ea, eb⟩, ev⟩ := e0
  dsimp only at x0 x1 x2 x3 hx
  obtain ⟨nx, hnx⟩ : ∃ nx, nx = eb.length := ⟨_, rfl⟩
  rw [← hnx] at hx
  subst hx
  obtain ⟨w2, hw2⟩ : ∃ w2, w2 = w1.alloc (.cells #[.int .u64 (el : Int), .int .u64 (es : Int), .bool ea, .slice Ax nx cx] 36) := ⟨_, rfl⟩
  have hb2 : Below w1.heap.size w1 w2 := by rw [hw2]; exact (Below.refl _ _).alloc (Nat.le_refl _) _
  have hz1 : w1.heap.size = w.heap.size + 1 := by rw [hw1]; simp
  have p2 := p1.below hb2 p1.lt
  have s2 : Bk w2 (w.heap.size + 1) 36 #[.int .u64 (el : Int), .int .u64 (es : Int), .bool ea, .slice Ax nx cx] := by rw [hw2, ← hz1]; exact Bk.new w1 _ _
  have l2 := h1.below hb2
  have hgw : g < w.heap.size := h.box.lt
  obtain ⟨Ao, co, hvo2, _⟩ := own_shape h.toR.own
  obtain ⟨nr, hnr⟩ : ∃ nr, nr = bk.length := ⟨_, rfl⟩
  obtain ⟨no, hno⟩ : ∃ no, no = ts.length := ⟨_, rfl⟩
  rw [← hnr] at hvr hlt h0 h2 hat
  rw [← hno] at hvo2
  obtain ⟨i0, i1, i2, i3, i4⟩ := h1.cells
  obtain ⟨j0, j1, j2, j3, j4⟩ := l2.cells
  rw [hvo2] at i2 j2
  rw [hvr] at i3 j3
  have q0 : w1.cell? ⟨w.heap.size, 0, none⟩ = some (.int .i64 1) := p1.cell 0
  have q1 : w1.cell? ⟨w.heap.size, 1, none⟩ = some (.int .i64 a) := p1.cell 1
  have q2 : w1.cell? ⟨w.heap.size, 2, none⟩ = some (.bool true) := p1.cell 2
  have r0 : w2.cell? ⟨w.heap.size, 0, none⟩ = some (.int .i64 1) := p2.cell 0
  have r1 : w2.cell? ⟨w.heap.size, 1, none⟩ = some (.int .i64 a) := p2.cell 1
  have r2 : w2.cell? ⟨w.heap.size, 2, none⟩ = some (.bool true) := p2.cell 2
  have s0 : w2.cell? ⟨w.heap.size + 1, 0, none⟩ = some (.int .u64 (el : Int)) := s2.cell 0
  have s1 : w2.cell? ⟨w.heap.size + 1, 1, none⟩ = some (.int .u64 (es : Int)) := s2.cell 1
  have s2' : w2.cell? ⟨w.heap.size + 1, 2, none⟩ = some (.bool ea) := s2.cell 2
  have s3 : w2.cell? ⟨w.heap.size + 1, 3, none⟩ = some (.slice Ax nx cx) := s2.cell 3
  have HW := Lib.hid hw1
  have HW2 : Hid (w2 = (w.alloc (.cells #[.int .i64 1, .int .i64 a, .bool true] 74)).alloc (.cells #[.int .u64 (el : Int), .int .u64 (es : Int), .bool ea, .slice Ax nx cx] 36)) := Lib.hid (by rw [hw2, hw1])
  have hw2' := HW2.out
  rw [hw1] at i0 i1 i2 i3 i4 x0 x1 x2 x3 q0 q1 q2
  rw [hw2'] at j0 j1 j2 j3 j4 r0 r1 r2 s0 s1 s2' s3
  have g0 : ¬ (nr : Int) = 0 := by omega
  have g1 : ¬ (200 : Int) < (nr : Int) := by omega
  have g2 : (k : Int) < (nr : Int) := by omega
  have n1 : ¬ w.heap.size = g := by omega
  have n2 : ¬ w.heap.size + 1 = g := by omega
  have n3 : ¬ g = w.heap.size := by omega
  have n4 : ¬ g = w.heap.size + 1 := by omega
  have HNX := Lib.hid hnx
  have HNR := Lib.hid hnr
  have L2 := Lib.hid l2
  have HRD := Lib.hid (hbod.below hb2)
  clear h h1 hb1 hw1 he0 hnr hno hk p1 hb2 hz1 p2 s2 l2 hgw hw2 hw2' hbod hnx hge hvr hvo2
  go_enter Try.func30, Try.ntmps30
  go_wp2_with fail
  rw [← HW2.out]
  have HC := Lib.hid (comes_ack L2.out ⟨el, es, ea, eb⟩ hm Ax nx cx HNX.out.symm)
  refine HC.out.mono ?_
  rintro e w9 ⟨he, Fx', l9⟩
  rw [hz] at he
  subst he
  have H9 := Lib.hid l9
  clear l9 HC
  go_wp2
  go_ret
  exact ⟨rfl, Fx', H9.out⟩
set_option maxRecDepth 100000 in
set_option maxHeartbeats 8000000 in
theorem pick_back2 (h : LnR W w Fx Fy gx gy g sx ry (lnA gx gy vt vb vo) vt vb vo ts bk out) (a : Int) (h0 : 0 < bk.length) (h2 : bk.length ≤ 200) (e0 : Sge) (k : Nat) (hk : k = atL a bk.length) (hge : bk[k]? = some e0) :
    Calls Try.prog 30 #[.pointer (some ⟨g, 0, none⟩), .agg #[.int .i64 2, .int .i64 a, .bool true]] w fun e w' => e = .returned (.bool true) ∧ ∃ v3, LnR W w' Fx Fy gx gy g sx ry (lnA gx gy vt v3 vo) vt v3 vo ts (cutL bk k bk.length) out := by
  have hlt : k < bk.length := by rw [hk]; exact atL_lt a _ h0
  have hat := atL_eq a bk.length h0 h2
  rw [← hk] at hat
  have he0 : bk[k] = e0 := by rw [List.getElem?_eq_getElem hlt] at hge; injection hge
  obtain ⟨w1, hw1⟩ : ∃ w1, w1 = w.alloc (.cells #[.int .i64 2, .int .i64 a, .bool true] 74) := ⟨_, rfl⟩
  have hb1 : Below w.heap.size w w1 := by rw [hw1]; exact (Below.refl _ _).alloc (Nat.le_refl _) _
  have h1 := h.below hb1
  have p1 : Bk w1 w.heap.size 74 #[.int .i64 2, .int .i64 a, .bool true] := by rw [hw1]; exact Bk.new w _ _
  obtain ⟨R, cb, hvr, x0, x1, x2, x3⟩ := h1.bkR.cell k hlt
  have hbod := h1.bkR.each bk[k] (List.getElem_mem hlt)
  obtain ⟨Ax, cx, hx, _⟩ := own_shape hbod.1
  rw [he0] at x0 x1 x2 x3 hx
  have hbod : BodR w1 (Un Fx Fy) e0 := by rw [← he0]; exact hbod
  obtain ⟨⟨el, es, ea, eb⟩, ev⟩ := e0
  dsimp only at x0 x1 x2 x3 hx
  obtain ⟨nx, hnx⟩ : ∃ nx, nx = eb.length := ⟨_, rfl⟩
  rw [← hnx] at hx
  subst hx
  obtain ⟨w2, hw2⟩ : ∃ w2, w2 = w1.alloc (.cells #[.int .u64 (el : Int), .int .u64 (es : Int), .bool ea, .slice Ax nx cx] 36) := ⟨_, rfl⟩
  have hb2 : Below w1.heap.size w1 w2 := by rw [hw2]; exact (Below.refl _ _).alloc (Nat.le_refl _) _
  have hz1 : w1.heap.size = w.heap.size + 1 := by rw [hw1]; simp
  have p2 := p1.below hb2 p1.lt
  have s2 : Bk w2 (w.heap.size + 1) 36 #[.int .u64 (el : Int), .int .u64 (es : Int), .bool ea, .slice Ax nx cx] := by rw [hw2, ← hz1]; exact Bk.new w1 _ _
  have l2 := h1.below hb2
  have hgw : g < w.heap.size := h.box.lt
  obtain ⟨Ao, co, hvo2, _⟩ := own_shape h.toR.own
  obtain ⟨nr, hnr⟩ : ∃ nr, nr = bk.length := ⟨_, rfl⟩
  obtain ⟨no, hno⟩ : ∃ no, no = ts.length := ⟨_, rfl⟩
  rw [← hnr] at hvr hlt h0 h2 hat
  rw [← hno] at hvo2
  obtain ⟨i0, i1, i2, i3, i4⟩ := h1.cells
  obtain ⟨j0, j1, j2, j3, j4⟩ := l2.cells
  rw [hvo2] at i2 j2
  rw [hvr] at i3 j3
  have q0 : w1.cell? ⟨w.heap.size, 0, none⟩ = some (.int .i64 2) := p1.cell 0
  have q1 : w1.cell? ⟨w.heap.size, 1, none⟩ = some (.int .i64 a) := p1.cell 1
  have q2 : w1.cell? ⟨w.heap.size, 2, none⟩ = some (.bool true) := p1.cell 2
  have r0 : w2.cell? ⟨w.heap.size, 0, none⟩ = some (.int .i64 2) := p2.cell 0
  have r1 : w2.cell? ⟨w.heap.size, 1, none⟩ = some (.int .i64 a) := p2.cell 1
  have r2 : w2.cell? ⟨w.heap.size, 2, none⟩ = some (.bool true) := p2.cell 2
  have s0 : w2.cell? ⟨w.heap.size + 1, 0, none⟩ = some (.int .u64 (el : Int)) := s2.cell 0
  have s1 : w2.cell? ⟨w.heap.size + 1, 1, none⟩ = some (.int .u64 (es : Int)) := s2.cell 1
  have s2' : w2.cell? ⟨w.heap.size + 1, 2, none⟩ = some (.bool ea) := s2.cell 2
  have s3 : w2.cell? ⟨w.heap.size + 1, 3, none⟩ = some (.slice Ax nx cx) := s2.cell 3
  have HCUT : Hid (∀ Wq, Below w2.heap.size w2 Wq → Calls Try.prog 44 #[.slice (some ⟨R, 0, none⟩) nr cb, .int .i64 (k : Int)] Wq fun e ww => ∃ A3 n3 c3, e = .returned (.slice A3 n3 c3) ∧ Hid (LnR W ww Fx Fy gx gy g sx ry (lnA gx gy vt vb vo) vt (.slice A3 n3 c3) vo ts (cutL bk k bk.length) out ∧ BodR ww (Un Fx Fy) (⟨el, es, ea, eb⟩, .slice Ax nx cx)) ∧ ww.cell? ⟨g, 0, none⟩ = some (.pointer (some ⟨gx, 0, none⟩)) ∧ ww.frozen? ⟨g, 3, none⟩ = false ∧ ww.cell? ⟨g, 3, none⟩ = some (.slice (some ⟨R, 0, none⟩) nr cb) ∧ ww.cell? ⟨w.heap.size, 0, none⟩ = some (.int .i64 2) ∧ ww.cell? ⟨w.heap.size, 2, none⟩ = some (.bool true) ∧ ww.cell? ⟨w.heap.size + 1, 0, none⟩ = some (.int .u64 (el : Int)) ∧ ww.cell? ⟨w.heap.size + 1, 1, none⟩ = some (.int .u64 (es : Int)) ∧ ww.cell? ⟨w.heap.size + 1, 2, none⟩ = some (.bool ea) ∧ ww.cell? ⟨w.heap.size + 1, 3, none⟩ = some (.slice Ax nx cx)) := Lib.hid fun Wq hbq => by
    have lq := l2.below hbq
    have pq := p2.below hbq p2.lt
    have sq := s2.below hbq s2.lt
    have hrq := (hbod.below hb2).below hbq
    have hrow := lq.bkR
    rw [hvr] at hrow
    refine (cut_any (some ⟨R, 0, none⟩) nr cb bk k W.heap.size (Un Fx Fy) Wq hrow hnr (by omega) hlt).mono ?_
    rintro e ww ⟨v3, rfl, ho3, hb3⟩
    obtain ⟨A3, c3, hv3, _⟩ := own_shape ho3
    rw [hnr] at hv3 ho3
    have l3 := lq.below hb3
    have p3 := pq.below hb3 pq.lt
    have s3 := sq.below hb3 sq.lt
    have hsz := lq.tw.below.size
    have l4 := l3.newBk (v' := v3) (bk' := (cutL bk k bk.length)) (own_mono ho3 hsz) (fun k e hu => by have := (ho3.lt k e).1; have := lq.tw.lt k hu; omega) (fun e he => l3.bkR.each e (List.mem_of_mem_take (List.mem_of_mem_eraseIdx he))) (fun k e1 e2 => by have := (ho3.lt k e2).1; have := (lq.toR.own.lt k e1).2; omega)
    have c3' : ww.cell? ⟨g, 3, none⟩ = some vb := l3.box.cell 3
    rw [hvr] at c3'
    subst hv3
    exact ⟨A3, _, c3, rfl, Lib.hid ⟨l4, hrq.below hb3⟩, l3.box.cell 0, l3.box.frozen 3, c3', p3.cell 0, p3.cell 2, s3.cell 0, s3.cell 1, s3.cell 2, s3.cell 3⟩
  have HW := Lib.hid hw1
  have HW2 : Hid (w2 = (w.alloc (.cells #[.int .i64 2, .int .i64 a, .bool true] 74)).alloc (.cells #[.int .u64 (el : Int), .int .u64 (es : Int), .bool ea, .slice Ax nx cx] 36)) := Lib.hid (by rw [hw2, hw1])
  have hw2' := HW2.out
  rw [hw1] at i0 i1 i2 i3 i4 x0 x1 x2 x3 q0 q1 q2
  rw [hw2'] at j0 j1 j2 j3 j4 r0 r1 r2 s0 s1 s2' s3
  have g0 : ¬ (nr : Int) = 0 := by omega
  have g1 : ¬ (200 : Int) < (nr : Int) := by omega
  have g2 : (k : Int) < (nr : Int) := by omega
  have n1 : ¬ w.heap.size = g := by omega
  have n2 : ¬ w.heap.size + 1 = g := by omega
  have n3 : ¬ g = w.heap.size := by omega
  have n4 : ¬ g = w.heap.size + 1 := by omega
  have HNX := Lib.hid hnx
  have HNR := Lib.hid hnr
  have L2 := Lib.hid l2
  have HRD := Lib.hid (hbod.below hb2)
  clear h h1 hb1 hw1 he0 hnr hno hk p1 hb2 hz1 p2 s2 l2 hgw hw2 hw2' hbod hnx hge hvr hvo2
  go_enter Try.func30, Try.ntmps30
  go_wp2_with fail
  rw [← HW2.out]
  refine (HCUT.out _ (Below.refl _ _)).mono ?_
  rintro e ww ⟨A3, n3', c3, rfl, H3, y0, yf, y1, y2, y3, y4, y5, y6, y7⟩
  clear i0 i1 i2 i3 i4 x0 x1 x2 x3 q0 q1 q2 j0 j1 j2 j3 j4 r0 r1 r2 s0 s1 s2' s3 HCUT
  obtain ⟨w3, hw3⟩ : ∃ w3, w3 = ww.setCell ⟨g, 3, none⟩ (.slice A3 n3' c3) := ⟨_, rfl⟩
  have L3 : Hid (LnR W w3 Fx Fy gx gy g sx ry (lnA gx gy vt (.slice A3 n3' c3) vo) vt (.slice A3 n3' c3) vo ts (cutL bk k bk.length) out ∧ BodR w3 (Un Fx Fy) (⟨el, es, ea, eb⟩, .slice Ax nx cx)) := Lib.hid (by
    rw [hw3]
    exact ⟨H3.out.1.set 3 _, H3.out.2.set H3.out.1.box _ _⟩)
  have HW3 := Lib.hid hw3
  clear hw3
  go_wp2_with fail
  rw [← HW3.out]
  go_ret
  exact ⟨rfl, _, L3.out.1⟩
set_option maxRecDepth 100000 in
set_option maxHeartbeats 8000000 in
theorem pick_to0 (h : LnR W w Fx Fy gx gy g sx ry (lnA gx gy vt vb vo) vt vb vo ts bk out) (a : Int) (h0 : 0 < ts.length) (h2 : ts.length ≤ 200) (e0 : Sge) (k : Nat) (hk : k = atL a ts.length) (hge : ts[k]? = some e0) (hm : e0.1.Ok) (hrf : ry.refuse e0.1 = 0) (hc : ry.came + ry.early.length + 1 < 4611686018427387904) (ho : out.length + (ry.hear e0.1).1.length ≤ 1000000) (hbl : bk.length ≤ 1000000) :
    Calls Try.prog 30 #[.pointer (some ⟨g, 0, none⟩), .agg #[.int .i64 0, .int .i64 a, .bool false]] w fun e w' => e = .returned (.bool true) ∧ ∃ v3, ∃ Fy' vb' vo' out2, out2.map (·.1) = (ry.hear e0.1).1 ∧ LnR W w' Fx Fy' gx gy g sx (ry.hear e0.1).2 (lnA gx gy v3 vb' vo') v3 vb' vo' (cutL ts k ts.length) (bk ++ [((ry.hear e0.1).2.ack, .slice none 0 0)]) (out ++ out2) := by
  have hlt : k < ts.length := by rw [hk]; exact atL_lt a _ h0
  have hat := atL_eq a ts.length h0 h2
  rw [← hk] at hat
  have he0 : ts[k] = e0 := by rw [List.getElem?_eq_getElem hlt] at hge; injection hge
  obtain ⟨w1, hw1⟩ : ∃ w1, w1 = w.alloc (.cells #[.int .i64 0, .int .i64 a, .bool false] 74) := ⟨_, rfl⟩
  have hb1 : Below w.heap.size w w1 := by rw [hw1]; exact (Below.refl _ _).alloc (Nat.le_refl _) _
  have h1 := h.below hb1
  have p1 : Bk w1 w.heap.size 74 #[.int .i64 0, .int .i64 a, .bool false] := by rw [hw1]; exact Bk.new w _ _
  obtain ⟨R, cb, hvr, x0, x1, x2, x3⟩ := h1.toR.cell k hlt
  have hbod := h1.toR.each ts[k] (List.getElem_mem hlt)
  obtain ⟨Ax, cx, hx, _⟩ := own_shape hbod.1
  rw [he0] at x0 x1 x2 x3 hx
  have hbod : BodR w1 (Un Fx Fy) e0 := by rw [← he0]; exact hbod
  obtain ⟨⟨el, es, ea, eb⟩, ev⟩ := e0
  dsimp only at x0 x1 x2 x3 hx
  obtain ⟨nx, hnx⟩ : ∃ nx, nx = eb.length := ⟨_, rfl⟩
  rw [← hnx] at hx
  subst hx
  obtain ⟨w2, hw2⟩ : ∃ w2, w2 = w1.alloc (.cells #[.int .u64 (el : Int), .int .u64 (es : Int), .bool ea, .slice Ax nx cx] 36) := ⟨_, rfl⟩
  have hb2 : Below w1.heap.size w1 w2 := by rw [hw2]; exact (Below.refl _ _).alloc (Nat.le_refl _) _
  have hz1 : w1.heap.size = w.heap.size + 1 := by rw [hw1]; simp
  have p2 := p1.below hb2 p1.lt
  have s2 : Bk w2 (w.heap.size + 1) 36 #[.int .u64 (el : Int), .int .u64 (es : Int), .bool ea, .slice Ax nx cx] := by rw [hw2, ← hz1]; exact Bk.new w1 _ _
  have l2 := h1.below hb2
  have hgw : g < w.heap.size := h.box.lt
  obtain ⟨Ao, co, hvo2, _⟩ := own_shape h.bkR.own
  obtain ⟨nr, hnr⟩ : ∃ nr, nr = ts.length := ⟨_, rfl⟩
  obtain ⟨no, hno⟩ : ∃ no, no = bk.length := ⟨_, rfl⟩
  rw [← hnr] at hvr hlt h0 h2 hat
  rw [← hno] at hvo2
  obtain ⟨i0, i1, i2, i3, i4⟩ := h1.cells
  obtain ⟨j0, j1, j2, j3, j4⟩ := l2.cells
  rw [hvr] at i2 j2
  rw [hvo2] at i3 j3
  have q0 : w1.cell? ⟨w.heap.size, 0, none⟩ = some (.int .i64 0) := p1.cell 0
  have q1 : w1.cell? ⟨w.heap.size, 1, none⟩ = some (.int .i64 a) := p1.cell 1
  have q2 : w1.cell? ⟨w.heap.size, 2, none⟩ = some (.bool false) := p1.cell 2
  have r0 : w2.cell? ⟨w.heap.size, 0, none⟩ = some (.int .i64 0) := p2.cell 0
  have r1 : w2.cell? ⟨w.heap.size, 1, none⟩ = some (.int .i64 a) := p2.cell 1
  have r2 : w2.cell? ⟨w.heap.size, 2, none⟩ = some (.bool false) := p2.cell 2
  have s0 : w2.cell? ⟨w.heap.size + 1, 0, none⟩ = some (.int .u64 (el : Int)) := s2.cell 0
  have s1 : w2.cell? ⟨w.heap.size + 1, 1, none⟩ = some (.int .u64 (es : Int)) := s2.cell 1
  have s2' : w2.cell? ⟨w.heap.size + 1, 2, none⟩ = some (.bool ea) := s2.cell 2
  have s3 : w2.cell? ⟨w.heap.size + 1, 3, none⟩ = some (.slice Ax nx cx) := s2.cell 3
  have HCUT : Hid (∀ Wq, Below w2.heap.size w2 Wq → Calls Try.prog 44 #[.slice (some ⟨R, 0, none⟩) nr cb, .int .i64 (k : Int)] Wq fun e ww => ∃ A3 n3 c3, e = .returned (.slice A3 n3 c3) ∧ Hid (LnR W ww Fx Fy gx gy g sx ry (lnA gx gy vt vb vo) (.slice A3 n3 c3) vb vo (cutL ts k ts.length) bk out ∧ BodR ww (Un Fx Fy) (⟨el, es, ea, eb⟩, .slice Ax nx cx)) ∧ ww.cell? ⟨g, 0, none⟩ = some (.pointer (some ⟨gx, 0, none⟩)) ∧ ww.frozen? ⟨g, 2, none⟩ = false ∧ ww.cell? ⟨g, 2, none⟩ = some (.slice (some ⟨R, 0, none⟩) nr cb) ∧ ww.cell? ⟨w.heap.size, 0, none⟩ = some (.int .i64 0) ∧ ww.cell? ⟨w.heap.size, 2, none⟩ = some (.bool false) ∧ ww.cell? ⟨w.heap.size + 1, 0, none⟩ = some (.int .u64 (el : Int)) ∧ ww.cell? ⟨w.heap.size + 1, 1, none⟩ = some (.int .u64 (es : Int)) ∧ ww.cell? ⟨w.heap.size + 1, 2, none⟩ = some (.bool ea) ∧ ww.cell? ⟨w.heap.size + 1, 3, none⟩ = some (.slice Ax nx cx)) := Lib.hid fun Wq hbq => by
    have lq := l2.below hbq
    have pq := p2.below hbq p2.lt
    have sq := s2.below hbq s2.lt
    have hrq := (hbod.below hb2).below hbq
    have hrow := lq.toR
    rw [hvr] at hrow
    refine (cut_any (some ⟨R, 0, none⟩) nr cb ts k W.heap.size (Un Fx Fy) Wq hrow hnr (by omega) hlt).mono ?_
    rintro e ww ⟨v3, rfl, ho3, hb3⟩
    obtain ⟨A3, c3, hv3, _⟩ := own_shape ho3
    rw [hnr] at hv3 ho3
    have l3 := lq.below hb3
    have p3 := pq.below hb3 pq.lt
    have s3 := sq.below hb3 sq.lt
    have hsz := lq.tw.below.size
    have l4 := l3.newTo (v' := v3) (ts' := (cutL ts k ts.length)) (own_mono ho3 hsz) (fun k e hu => by have := (ho3.lt k e).1; have := lq.tw.lt k hu; omega) (fun e he => l3.toR.each e (List.mem_of_mem_take (List.mem_of_mem_eraseIdx he))) (fun k e1 e2 => by have := (ho3.lt k e1).1; have := (lq.bkR.own.lt k e2).2; omega)
    have c3' : ww.cell? ⟨g, 2, none⟩ = some vt := l3.box.cell 2
    rw [hvr] at c3'
    subst hv3
    exact ⟨A3, _, c3, rfl, Lib.hid ⟨l4, hrq.below hb3⟩, l3.box.cell 0, l3.box.frozen 2, c3', p3.cell 0, p3.cell 2, s3.cell 0, s3.cell 1, s3.cell 2, s3.cell 3⟩
  have HW := Lib.hid hw1
  have HW2 : Hid (w2 = (w.alloc (.cells #[.int .i64 0, .int .i64 a, .bool false] 74)).alloc (.cells #[.int .u64 (el : Int), .int .u64 (es : Int), .bool ea, .slice Ax nx cx] 36)) := Lib.hid (by rw [hw2, hw1])
  have hw2' := HW2.out
  rw [hw1] at i0 i1 i2 i3 i4 x0 x1 x2 x3 q0 q1 q2
  rw [hw2'] at j0 j1 j2 j3 j4 r0 r1 r2 s0 s1 s2' s3
  have g0 : ¬ (nr : Int) = 0 := by omega
  have g1 : ¬ (200 : Int) < (nr : Int) := by omega
  have g2 : (k : Int) < (nr : Int) := by omega
  have n1 : ¬ w.heap.size = g := by omega
  have n2 : ¬ w.heap.size + 1 = g := by omega
  have n3 : ¬ g = w.heap.size := by omega
  have n4 : ¬ g = w.heap.size + 1 := by omega
  have HNX := Lib.hid hnx
  have HNR := Lib.hid hnr
  have L2 := Lib.hid l2
  have HRD := Lib.hid (hbod.below hb2)
  clear h h1 hb1 hw1 he0 hnr hno hk p1 hb2 hz1 p2 s2 l2 hgw hw2 hw2' hbod hnx hge hvr hvo2
  go_enter Try.func30, Try.ntmps30
  go_wp2_with fail
  rw [← HW2.out]
  refine (HCUT.out _ (Below.refl _ _)).mono ?_
  rintro e ww ⟨A3, n3', c3, rfl, H3, y0, yf, y1, y2, y3, y4, y5, y6, y7⟩
  clear i0 i1 i2 i3 i4 x0 x1 x2 x3 q0 q1 q2 j0 j1 j2 j3 j4 r0 r1 r2 s0 s1 s2' s3 HCUT
  obtain ⟨w3, hw3⟩ : ∃ w3, w3 = ww.setCell ⟨g, 2, none⟩ (.slice A3 n3' c3) := ⟨_, rfl⟩
  have L3 : Hid (LnR W w3 Fx Fy gx gy g sx ry (lnA gx gy (.slice A3 n3' c3) vb vo) (.slice A3 n3' c3) vb vo (cutL ts k ts.length) bk out ∧ BodR w3 (Un Fx Fy) (⟨el, es, ea, eb⟩, .slice Ax nx cx)) := Lib.hid (by
    rw [hw3]
    exact ⟨H3.out.1.set 2 _, H3.out.2.set H3.out.1.box _ _⟩)
  have HW3 := Lib.hid hw3
  clear hw3
  go_wp2_with fail
  rw [← HW3.out]
  have hrd : Rd7 w3 (Un Fx Fy) Ax nx eb := by
    have hb := L3.out.2
    have h1 := hb.1
    dsimp only at h1
    rw [← HNX.out] at h1
    exact Rd7.of_own h1 (fun k e => (hb.2 k e).2)
  have HC := Lib.hid (comes_piece L3.out.1 ⟨el, es, ea, eb⟩ hm Ax nx cx hrd hrf hc ho hbl)
  refine HC.out.mono ?_
  rintro e w9 ⟨rfl, Fy', vb', vo', out2, o9, l9⟩
  have H9 := Lib.hid (And.intro o9 l9)
  clear l9 o9 HC
  go_wp2
  go_ret
  exact ⟨rfl, _, Fy', vb', vo', out2, H9.out.1, H9.out.2⟩
set_option maxRecDepth 100000 in
set_option maxHeartbeats 8000000 in
theorem pick_to1 (h : LnR W w Fx Fy gx gy g sx ry (lnA gx gy vt vb vo) vt vb vo ts bk out) (a : Int) (h0 : 0 < ts.length) (h2 : ts.length ≤ 200) (e0 : Sge) (k : Nat) (hk : k = atL a ts.length) (hge : ts[k]? = some e0) (hm : e0.1.Ok) (hrf : ry.refuse e0.1 = 0) (hc : ry.came + ry.early.length + 1 < 4611686018427387904) (ho : out.length + (ry.hear e0.1).1.length ≤ 1000000) (hbl : bk.length ≤ 1000000) :
    Calls Try.prog 30 #[.pointer (some ⟨g, 0, none⟩), .agg #[.int .i64 1, .int .i64 a, .bool false]] w fun e w' => e = .returned (.bool true) ∧ ∃ Fy' vb' vo' out2, out2.map (·.1) = (ry.hear e0.1).1 ∧ LnR W w' Fx Fy' gx gy g sx (ry.hear e0.1).2 (lnA gx gy vt vb' vo') vt vb' vo' ts (bk ++ [((ry.hear e0.1).2.ack, .slice none 0 0)]) (out ++ out2) := by
  have hlt : k < ts.length := by rw [hk]; exact atL_lt a _ h0
  have hat := atL_eq a ts.length h0 h2
  rw [← hk] at hat
  have he0 : ts[k] = e0 := by rw [List.getElem?_eq_getElem hlt] at hge; injection hge
  obtain ⟨w1, hw1⟩ : ∃ w1, w1 = w.alloc (.cells #[.int .i64 1, .int .i64 a, .bool false] 74) := ⟨_, rfl⟩
  have hb1 : Below w.heap.size w w1 := by rw [hw1]; exact (Below.refl _ _).alloc (Nat.le_refl _) _
  have h1 := h.below hb1
  have p1 : Bk w1 w.heap.size 74 #[.int .i64 1, .int .i64 a, .bool false] := by rw [hw1]; exact Bk.new w _ _
  obtain ⟨R, cb, hvr, x0, x1, x2, x3⟩ := h1.toR.cell k hlt
  have hbod := h1.toR.each ts[k] (List.getElem_mem hlt)
  obtain ⟨Ax, cx, hx, _⟩ := own_shape hbod.1
  rw [he0] at x0 x1 x2 x3 hx
  have hbod : BodR w1 (Un Fx Fy) e0 := by rw [← he0]; exact hbod
  obtain ⟨⟨el, es, ea, eb⟩, ev⟩ := e0
  dsimp only at x0 x1 x2 x3 hx
  obtain ⟨nx, hnx⟩ : ∃ nx, nx = eb.length := ⟨_, rfl⟩
  rw [← hnx] at hx
  subst hx
  obtain ⟨w2, hw2⟩ : ∃ w2, w2 = w1.alloc (.cells #[.int .u64 (el : Int), .int .u64 (es : Int), .bool ea, .slice Ax nx cx] 36) := ⟨_, rfl⟩
  have hb2 : Below w1.heap.size w1 w2 := by rw [hw2]; exact (Below.refl _ _).alloc (Nat.le_refl _) _
  have hz1 : w1.heap.size = w.heap.size + 1 := by rw [hw1]; simp
  have p2 := p1.below hb2 p1.lt
  have s2 : Bk w2 (w.heap.size + 1) 36 #[.int .u64 (el : Int), .int .u64 (es : Int), .bool ea, .slice Ax nx cx] := by rw [hw2, ← hz1]; exact Bk.new w1 _ _
  have l2 := h1.below hb2
  have hgw : g < w.heap.size := h.box.lt
  obtain ⟨Ao, co, hvo2, _⟩ := own_shape h.bkR.own
  obtain ⟨nr, hnr⟩ : ∃ nr, nr = ts.length := ⟨_, rfl⟩
  obtain ⟨no, hno⟩ : ∃ no, no = bk.length := ⟨_, rfl⟩
  rw [← hnr] at hvr hlt h0 h2 hat
  rw [← hno] at hvo2
  obtain ⟨i0, i1, i2, i3, i4⟩ := h1.cells
  obtain ⟨j0, j1, j2, j3, j4⟩ := l2.cells
  rw [hvr] at i2 j2
  rw [hvo2] at i3 j3
  have q0 : w1.cell? ⟨w.heap.size, 0, none⟩ = some (.int .i64 1) := p1.cell 0
  have q1 : w1.cell? ⟨w.heap.size, 1, none⟩ = some (.int .i64 a) := p1.cell 1
  have q2 : w1.cell? ⟨w.heap.size, 2, none⟩ = some (.bool false) := p1.cell 2
  have r0 : w2.cell? ⟨w.heap.size, 0, none⟩ = some (.int .i64 1) := p2.cell 0
  have r1 : w2.cell? ⟨w.heap.size, 1, none⟩ = some (.int .i64 a) := p2.cell 1
  have r2 : w2.cell? ⟨w.heap.size, 2, none⟩ = some (.bool false) := p2.cell 2
  have s0 : w2.cell? ⟨w.heap.size + 1, 0, none⟩ = some (.int .u64 (el : Int)) := s2.cell 0
  have s1 : w2.cell? ⟨w.heap.size + 1, 1, none⟩ = some (.int .u64 (es : Int)) := s2.cell 1
  have s2' : w2.cell? ⟨w.heap.size + 1, 2, none⟩ = some (.bool ea) := s2.cell 2
  have s3 : w2.cell? ⟨w.heap.size + 1, 3, none⟩ = some (.slice Ax nx cx) := s2.cell 3
  have HW := Lib.hid hw1
  have HW2 : Hid (w2 = (w.alloc (.cells #[.int .i64 1, .int .i64 a, .bool false] 74)).alloc (.cells #[.int .u64 (el : Int), .int .u64 (es : Int), .bool ea, .slice Ax nx cx] 36)) := Lib.hid (by rw [hw2, hw1])
  have hw2' := HW2.out
  rw [hw1] at i0 i1 i2 i3 i4 x0 x1 x2 x3 q0 q1 q2
  rw [hw2'] at j0 j1 j2 j3 j4 r0 r1 r2 s0 s1 s2' s3
  have g0 : ¬ (nr : Int) = 0 := by omega
  have g1 : ¬ (200 : Int) < (nr : Int) := by omega
  have g2 : (k : Int) < (nr : Int) := by omega
  have n1 : ¬ w.heap.size = g := by omega
  have n2 : ¬ w.heap.size + 1 = g := by omega
  have n3 : ¬ g = w.heap.size := by omega
  have n4 : ¬ g = w.heap.size + 1 := by omega
  have HNX := Lib.hid hnx
  have HNR := Lib.hid hnr
  have L2 := Lib.hid l2
  have HRD := Lib.hid (hbod.below hb2)
  clear h h1 hb1 hw1 he0 hnr hno hk p1 hb2 hz1 p2 s2 l2 hgw hw2 hw2' hbod hnx hge hvr hvo2
  go_enter Try.func30, Try.ntmps30
  go_wp2_with fail
  rw [← HW2.out]
  have hrd : Rd7 w2 (Un Fx Fy) Ax nx eb := by
    have hb := HRD.out
    have h1 := hb.1
    dsimp only at h1
    rw [← HNX.out] at h1
    exact Rd7.of_own h1 (fun k e => (hb.2 k e).2)
  have HC := Lib.hid (comes_piece L2.out ⟨el, es, ea, eb⟩ hm Ax nx cx hrd hrf hc ho hbl)
  refine HC.out.mono ?_
  rintro e w9 ⟨rfl, Fy', vb', vo', out2, o9, l9⟩
  have H9 := Lib.hid (And.intro o9 l9)
  clear l9 o9 HC
  go_wp2
  go_ret
  exact ⟨rfl, Fy', vb', vo', out2, H9.out.1, H9.out.2⟩
set_option maxRecDepth 100000 in
set_option maxHeartbeats 8000000 in
theorem pick_to2 (h : LnR W w Fx Fy gx gy g sx ry (lnA gx gy vt vb vo) vt vb vo ts bk out) (a : Int) (h0 : 0 < ts.length) (h2 : ts.length ≤ 200) (e0 : Sge) (k : Nat) (hk : k = atL a ts.length) (hge : ts[k]? = some e0) :
    Calls Try.prog 30 #[.pointer (some ⟨g, 0, none⟩), .agg #[.int .i64 2, .int .i64 a, .bool false]] w fun e w' => e = .returned (.bool true) ∧ ∃ v3, LnR W w' Fx Fy gx gy g sx ry (lnA gx gy v3 vb vo) v3 vb vo (cutL ts k ts.length) bk out := by
  have hlt : k < ts.length := by rw [hk]; exact atL_lt a _ h0
  have hat := atL_eq a ts.length h0 h2
  rw [← hk] at hat
  have he0 : ts[k] = e0 := by rw [List.getElem?_eq_getElem hlt] at hge; injection hge
  obtain ⟨w1, hw1⟩ : ∃ w1, w1 = w.alloc (.cells #[.int .i64 2, .int .i64 a, .bool false] 74) := ⟨_, rfl⟩
  have hb1 : Below w.heap.size w w1 := by rw [hw1]; exact (Below.refl _ _).alloc (Nat.le_refl _) _
  have h1 := h.below hb1
  have p1 : Bk w1 w.heap.size 74 #[.int .i64 2, .int .i64 a, .bool false] := by rw [hw1]; exact Bk.new w _ _
  obtain ⟨R, cb, hvr, x0, x1, x2, x3⟩ := h1.toR.cell k hlt
  have hbod := h1.toR.each ts[k] (List.getElem_mem hlt)
  obtain ⟨Ax, cx, hx, _⟩ := own_shape hbod.1
  rw [he0] at x0 x1 x2 x3 hx
  have hbod : BodR w1 (Un Fx Fy) e0 := by rw [← he0]; exact hbod
  obtain ⟨⟨el, es, ea, eb⟩, ev⟩ := e0
  dsimp only at x0 x1 x2 x3 hx
  obtain ⟨nx, hnx⟩ : ∃ nx, nx = eb.length := ⟨_, rfl⟩
  rw [← hnx] at hx
  subst hx
  obtain ⟨w2, hw2⟩ : ∃ w2, w2 = w1.alloc (.cells #[.int .u64 (el : Int), .int .u64 (es : Int), .bool ea, .slice Ax nx cx] 36) := ⟨_, rfl⟩
  have hb2 : Below w1.heap.size w1 w2 := by rw [hw2]; exact (Below.refl _ _).alloc (Nat.le_refl _) _
  have hz1 : w1.heap.size = w.heap.size + 1 := by rw [hw1]; simp
  have p2 := p1.below hb2 p1.lt
  have s2 : Bk w2 (w.heap.size + 1) 36 #[.int .u64 (el : Int), .int .u64 (es : Int), .bool ea, .slice Ax nx cx] := by rw [hw2, ← hz1]; exact Bk.new w1 _ _
  have l2 := h1.below hb2
  have hgw : g < w.heap.size := h.box.lt
  obtain ⟨Ao, co, hvo2, _⟩ := own_shape h.bkR.own
  obtain ⟨nr, hnr⟩ : ∃ nr, nr = ts.length := ⟨_, rfl⟩
  obtain ⟨no, hno⟩ : ∃ no, no = bk.length := ⟨_, rfl⟩
  rw [← hnr] at hvr hlt h0 h2 hat
  rw [← hno] at hvo2
  obtain ⟨i0, i1, i2, i3, i4⟩ := h1.cells
  obtain ⟨j0, j1, j2, j3, j4⟩ := l2.cells
  rw [hvr] at i2 j2
  rw [hvo2] at i3 j3
  have q0 : w1.cell? ⟨w.heap.size, 0, none⟩ = some (.int .i64 2) := p1.cell 0
  have q1 : w1.cell? ⟨w.heap.size, 1, none⟩ = some (.int .i64 a) := p1.cell 1
  have q2 : w1.cell? ⟨w.heap.size, 2, none⟩ = some (.bool false) := p1.cell 2
  have r0 : w2.cell? ⟨w.heap.size, 0, none⟩ = some (.int .i64 2) := p2.cell 0
  have r1 : w2.cell? ⟨w.heap.size, 1, none⟩ = some (.int .i64 a) := p2.cell 1
  have r2 : w2.cell? ⟨w.heap.size, 2, none⟩ = some (.bool false) := p2.cell 2
  have s0 : w2.cell? ⟨w.heap.size + 1, 0, none⟩ = some (.int .u64 (el : Int)) := s2.cell 0
  have s1 : w2.cell? ⟨w.heap.size + 1, 1, none⟩ = some (.int .u64 (es : Int)) := s2.cell 1
  have s2' : w2.cell? ⟨w.heap.size + 1, 2, none⟩ = some (.bool ea) := s2.cell 2
  have s3 : w2.cell? ⟨w.heap.size + 1, 3, none⟩ = some (.slice Ax nx cx) := s2.cell 3
  have HCUT : Hid (∀ Wq, Below w2.heap.size w2 Wq → Calls Try.prog 44 #[.slice (some ⟨R, 0, none⟩) nr cb, .int .i64 (k : Int)] Wq fun e ww => ∃ A3 n3 c3, e = .returned (.slice A3 n3 c3) ∧ Hid (LnR W ww Fx Fy gx gy g sx ry (lnA gx gy vt vb vo) (.slice A3 n3 c3) vb vo (cutL ts k ts.length) bk out ∧ BodR ww (Un Fx Fy) (⟨el, es, ea, eb⟩, .slice Ax nx cx)) ∧ ww.cell? ⟨g, 0, none⟩ = some (.pointer (some ⟨gx, 0, none⟩)) ∧ ww.frozen? ⟨g, 2, none⟩ = false ∧ ww.cell? ⟨g, 2, none⟩ = some (.slice (some ⟨R, 0, none⟩) nr cb) ∧ ww.cell? ⟨w.heap.size, 0, none⟩ = some (.int .i64 2) ∧ ww.cell? ⟨w.heap.size, 2, none⟩ = some (.bool false) ∧ ww.cell? ⟨w.heap.size + 1, 0, none⟩ = some (.int .u64 (el : Int)) ∧ ww.cell? ⟨w.heap.size + 1, 1, none⟩ = some (.int .u64 (es : Int)) ∧ ww.cell? ⟨w.heap.size + 1, 2, none⟩ = some (.bool ea) ∧ ww.cell? ⟨w.heap.size + 1, 3, none⟩ = some (.slice Ax nx cx)) := Lib.hid fun Wq hbq => by
    have lq := l2.below hbq
    have pq := p2.below hbq p2.lt
    have sq := s2.below hbq s2.lt
    have hrq := (hbod.below hb2).below hbq
    have hrow := lq.toR
    rw [hvr] at hrow
    refine (cut_any (some ⟨R, 0, none⟩) nr cb ts k W.heap.size (Un Fx Fy) Wq hrow hnr (by omega) hlt).mono ?_
    rintro e ww ⟨v3, rfl, ho3, hb3⟩
    obtain ⟨A3, c3, hv3, _⟩ := own_shape ho3
    rw [hnr] at hv3 ho3
    have l3 := lq.below hb3
    have p3 := pq.below hb3 pq.lt
    have s3 := sq.below hb3 sq.lt
    have hsz := lq.tw.below.size
    have l4 := l3.newTo (v' := v3) (ts' := (cutL ts k ts.length)) (own_mono ho3 hsz) (fun k e hu => by have := (ho3.lt k e).1; have := lq.tw.lt k hu; omega) (fun e he => l3.toR.each e (List.mem_of_mem_take (List.mem_of_mem_eraseIdx he))) (fun k e1 e2 => by have := (ho3.lt k e1).1; have := (lq.bkR.own.lt k e2).2; omega)
    have c3' : ww.cell? ⟨g, 2, none⟩ = some vt := l3.box.cell 2
    rw [hvr] at c3'
    subst hv3
    exact ⟨A3, _, c3, rfl, Lib.hid ⟨l4, hrq.below hb3⟩, l3.box.cell 0, l3.box.frozen 2, c3', p3.cell 0, p3.cell 2, s3.cell 0, s3.cell 1, s3.cell 2, s3.cell 3⟩
  have HW := Lib.hid hw1
  have HW2 : Hid (w2 = (w.alloc (.cells #[.int .i64 2, .int .i64 a, .bool false] 74)).alloc (.cells #[.int .u64 (el : Int), .int .u64 (es : Int), .bool ea, .slice Ax nx cx] 36)) := Lib.hid (by rw [hw2, hw1])
  have hw2' := HW2.out
  rw [hw1] at i0 i1 i2 i3 i4 x0 x1 x2 x3 q0 q1 q2
  rw [hw2'] at j0 j1 j2 j3 j4 r0 r1 r2 s0 s1 s2' s3
  have g0 : ¬ (nr : Int) = 0 := by omega
  have g1 : ¬ (200 : Int) < (nr : Int) := by omega
  have g2 : (k : Int) < (nr : Int) := by omega
  have n1 : ¬ w.heap.size = g := by omega
  have n2 : ¬ w.heap.size + 1 = g := by omega
  have n3 : ¬ g = w.heap.size := by omega
  have n4 : ¬ g = w.heap.size + 1 := by omega
  have HNX := Lib.hid hnx
  have HNR := Lib.hid hnr
  have L2 := Lib.hid l2
  have HRD := Lib.hid (hbod.below hb2)
  clear h h1 hb1 hw1 he0 hnr hno hk p1 hb2 hz1 p2 s2 l2 hgw hw2 hw2' hbod hnx hge hvr hvo2
  go_enter Try.func30, Try.ntmps30
  go_wp2_with fail
  rw [← HW2.out]
  refine (HCUT.out _ (Below.refl _ _)).mono ?_
  rintro e ww ⟨A3, n3', c3, rfl, H3, y0, yf, y1, y2, y3, y4, y5, y6, y7⟩
  clear i0 i1 i2 i3 i4 x0 x1 x2 x3 q0 q1 q2 j0 j1 j2 j3 j4 r0 r1 r2 s0 s1 s2' s3 HCUT
  obtain ⟨w3, hw3⟩ : ∃ w3, w3 = ww.setCell ⟨g, 2, none⟩ (.slice A3 n3' c3) := ⟨_, rfl⟩
  have L3 : Hid (LnR W w3 Fx Fy gx gy g sx ry (lnA gx gy (.slice A3 n3' c3) vb vo) (.slice A3 n3' c3) vb vo (cutL ts k ts.length) bk out ∧ BodR w3 (Un Fx Fy) (⟨el, es, ea, eb⟩, .slice Ax nx cx)) := Lib.hid (by
    rw [hw3]
    exact ⟨H3.out.1.set 2 _, H3.out.2.set H3.out.1.box _ _⟩)
  have HW3 := Lib.hid hw3
  clear hw3
  go_wp2_with fail
  rw [← HW3.out]
  go_ret
  exact ⟨rfl, _, L3.out.1⟩
end
end Go.Proofs.Ytjbfhffdnjahfaa
