/- Layer 7's laws: all that is under way comes, step by step. -/
import Derived.Test.YtjbfhffdnjahfaaSesLy
namespace Go.Proofs.Ytjbfhffdnjahfaa
open Go.RowKit Go.Maps

/-- Behind a tick, while the pieces come. -/
def InA (W w : World) (gx gy g : Nat) (ls : List (List UInt8)) (sT : Sd) (vt : Value) (T : List Sge) (j : Nat) : Prop :=
  ∃ Fx Fy ry vb vo bk out, LnR W w Fx Fy gx gy g sT ry (lnA gx gy vt vb vo) vt vb vo T bk out ∧ LnOk ls sT ry (T.map (·.1)) (bk.map (·.1)) (out.map (·.1)) ∧ bk.length ≤ 8000 + j ∧ ∀ i (hi : i < T.length), i < j → T[i].1.seq = sT.came + 1 → ∃ e ∈ bk, sT.came + 1 ≤ e.1.seq
/-- While the answers come. -/
def InB (W w : World) (gx gy g : Nat) (ls : List (List UInt8)) (sT : Sd) (vb : Value) (BK : List Sge) (j : Nat) : Prop :=
  ∃ Fx Fy sx ry vo out, LnR W w Fx Fy gx gy g sx ry (lnA gx gy (.slice none 0 0) vb vo) (.slice none 0 0) vb vo [] BK out ∧ LnOk ls sx ry [] (BK.map (·.1)) (out.map (·.1)) ∧ (sx = sT ∨ sT.came < sx.came) ∧ sx.tick = sT.tick ∧ sx.span = sT.span ∧ ∀ i (hi : i < BK.length), i < j → BK[i].1.seq ≤ sx.came
/-- Ahead of a round. -/
def OutZ (W w : World) (gx gy g : Nat) (ls : List (List UInt8)) (k : Nat) : Prop :=
  ∃ Fx Fy sx ry vt vb vo ts bk out, LnR W w Fx Fy gx gy g sx ry (lnA gx gy vt vb vo) vt vb vo ts bk out ∧ LnOk ls sx ry (ts.map (·.1)) (bk.map (·.1)) (out.map (·.1)) ∧ ts.length ≤ 7000 ∧ bk.length ≤ 7000 ∧ sx.tick ≤ 1000 + k ∧ sx.span ≤ 4 ∧ (sx.queue.length = 0 ∨ sx.toGo + k ≤ 4 * (ls.length + 1))


section
variable {W w : World} {gx gy g : Nat} {ls : List (List UInt8)} {j k : Nat}
theorem InA.next {sT : Sd} {vt : Value} {T : List Sge} (h : InA W w gx gy g ls sT vt T j) (hj : j < T.length) (hT : T.length ≤ 8000) :
    ∃ (R cb el es nx cx : Nat) (ea : Bool) (Ax : Option Addr), vt = .slice (some ⟨R, 0, none⟩) T.length cb ∧ w.cell? ⟨g, 2, none⟩ = some vt ∧ w.cell? ⟨R, j * 4, none⟩ = some (.int .u64 (el : Int)) ∧ w.cell? ⟨R, j * 4 + 1, none⟩ = some (.int .u64 (es : Int)) ∧ w.cell? ⟨R, j * 4 + 2, none⟩ = some (.bool ea) ∧ w.cell? ⟨R, j * 4 + 3, none⟩ = some (.slice Ax nx cx) ∧
      Calls Try.prog 32 #[.pointer (some ⟨g, 0, none⟩), .agg #[.int .u64 (el : Int), .int .u64 (es : Int), .bool ea, .slice Ax nx cx], .bool false] w fun e w' => e = .returned (.bool true) ∧ InA W w' gx gy g ls sT vt T (j + 1) := by
  obtain ⟨Fx, Fy, ry, vb, vo, bk, out, hl, hok, h1, h2⟩ := h
  obtain ⟨R, cb, hvr, x0, x1, x2, x3⟩ := hl.toR.cell j hj
  have hbod := hl.toR.each T[j] (List.getElem_mem hj)
  obtain ⟨Ax, cx, hx, _⟩ := own_shape hbod.1
  have hmem : T[j].1 ∈ T.map (·.1) := List.mem_map.2 ⟨_, List.getElem_mem hj, rfl⟩
  have htos := hok.tos _ hmem
  obtain ⟨z1, z2, z3, z4⟩ := hok.piece htos
  have hol : out.length + (ry.hear T[j].1).1.length ≤ 60 := by
    have h5 := z4.told.1
    have h6 := z4.rle
    have h7 := hok.len
    rw [List.length_append, List.length_map] at h5
    omega
  have hrk := hl.tw.pr.ok.len
  have hrl := hok.rle
  have hlen := hok.len
  have ho := hbod.1
  have hof := hbod.2
  rw [hx] at ho hof x3
  have hrd : Rd7 w (Un Fx Fy) Ax T[j].1.body.length T[j].1.body := Rd7.of_own ho (fun k e => (hof k e).2)
  refine ⟨R, cb, _, _, _, cx, _, Ax, hvr, hl.box.cell 2, x0, x1, x2, x3, ?_⟩
  refine (comes_piece hl T[j].1 z2 Ax _ cx hrd z1 (by omega) (by omega) (by omega)).mono ?_
  rintro e w' ⟨rfl, Fy', vb', vo', out2, o9, l9⟩
  refine ⟨rfl, Fx, Fy', _, vb', vo', _, _, l9, ?_, by rw [List.length_append]; simp; omega, fun i hi hij he => ?_⟩
  · rw [List.map_append, List.map_append, o9]
    exact z4
  · by_cases e : i < j
    · obtain ⟨q, q1, q2⟩ := h2 i hi e he
      exact ⟨q, List.mem_append_left _ q1, q2⟩
    · obtain rfl : i = j := by omega
      refine ⟨_, List.mem_append_right _ (List.mem_singleton.2 rfl), ?_⟩
      obtain ⟨k, hk, hs⟩ := htos
      exact hok.head hl.tw.pr.ok T[i].1 (by rw [hs]) he z2 z3 (by rw [hs])
theorem InA.cell {sT : Sd} {vt : Value} {T : List Sge} (h : InA W w gx gy g ls sT vt T j) : w.cell? ⟨g, 2, none⟩ = some vt ∧ w.frozen? ⟨g, 2, none⟩ = false := by
  obtain ⟨Fx, Fy, ry, vb, vo, bk, out, hl, _⟩ := h
  exact ⟨hl.box.cell 2, hl.box.frozen 2⟩
theorem InA.done {sT : Sd} {vt : Value} {T : List Sge} (h : InA W w gx gy g ls sT vt T j) (hj : T.length ≤ j) :
    ∃ (Ab : Option Addr) (cb : Nat) (BK : List Sge), BK.length ≤ 8000 + j ∧ InB W (w.setCell ⟨g, 2, none⟩ (.slice none 0 0)) gx gy g ls sT (.slice Ab BK.length cb) BK 0 ∧ ∀ e ∈ T, e.1.seq = sT.came + 1 → ∃ e ∈ BK, sT.came + 1 ≤ e.1.seq := by
  obtain ⟨Fx, Fy, ry, vb, vo, bk, out, hl, hok, h1, h2⟩ := h
  obtain ⟨Ab, cb, hvb, _⟩ := own_shape hl.bkR.own
  subst hvb
  have l1 := hl.newTo (v' := .slice none 0 0) (ts' := []) (World.ownsRow_nil _ _ _ _) (fun k e => by cases e) (fun e he => by simp at he) (fun k e => by cases e)
  refine ⟨Ab, cb, bk, h1, ⟨Fx, Fy, sT, ry, vo, out, l1.set 2 _, ?_, .inl rfl, rfl, rfl, fun i hi h => by omega⟩, fun e he hq => ?_⟩
  · have := hok.sub (to' := []) (bk' := bk.map (·.1)) (fun s hs => by simp at hs) (fun s hs => hs)
    exact this
  · obtain ⟨i, hi, rfl⟩ := List.getElem_of_mem he
    exact h2 i hi (by omega) hq
theorem InB.next {sT : Sd} {vb : Value} {BK : List Sge} (h : InB W w gx gy g ls sT vb BK j) (hj : j < BK.length) :
    ∃ (R cb el es nx cx : Nat) (ea : Bool) (Ax : Option Addr), vb = .slice (some ⟨R, 0, none⟩) BK.length cb ∧ w.cell? ⟨g, 3, none⟩ = some vb ∧ w.cell? ⟨R, j * 4, none⟩ = some (.int .u64 (el : Int)) ∧ w.cell? ⟨R, j * 4 + 1, none⟩ = some (.int .u64 (es : Int)) ∧ w.cell? ⟨R, j * 4 + 2, none⟩ = some (.bool ea) ∧ w.cell? ⟨R, j * 4 + 3, none⟩ = some (.slice Ax nx cx) ∧
      Calls Try.prog 32 #[.pointer (some ⟨g, 0, none⟩), .agg #[.int .u64 (el : Int), .int .u64 (es : Int), .bool ea, .slice Ax nx cx], .bool true] w fun e w' => e = .returned (.bool true) ∧ InB W w' gx gy g ls sT vb BK (j + 1) := by
  obtain ⟨Fx, Fy, sx, ry, vo, out, hl, hok, h1, h2, h3, h4⟩ := h
  obtain ⟨R, cb, hvr, x0, x1, x2, x3⟩ := hl.bkR.cell j hj
  have hbod := hl.bkR.each BK[j] (List.getElem_mem hj)
  obtain ⟨Ax, cx, hx, _⟩ := own_shape hbod.1
  have hmem : BK[j].1 ∈ BK.map (·.1) := List.mem_map.2 ⟨_, List.getElem_mem hj, rfl⟩
  have hbks := hok.bks _ hmem
  obtain ⟨z1, z2, z3⟩ := hok.answer hbks
  rw [hx] at x3
  refine ⟨R, cb, _, _, _, cx, _, Ax, hvr, hl.box.cell 3, x0, x1, x2, x3, ?_⟩
  refine (comes_ack hl BK[j].1 z2 Ax _ cx rfl).mono ?_
  rintro e w' ⟨he, Fx', l9⟩
  rw [z1] at he
  subst he
  have hor := hear_or sx BK[j].1
  have hge := hear_ge sx BK[j].1
  refine ⟨rfl, Fx', Fy, _, ry, vo, out, l9, z3, ?_, by rw [hear_tick7]; exact h2, by rw [hear_span7]; exact h3, fun i hi hij => ?_⟩
  · rcases hor with e | e
    · rw [e]; exact h1
    · rcases h1 with rfl | h1
      · exact .inr e
      · exact .inr (by omega)
  · by_cases e : i < j
    · have := h4 i hi e
      omega
    · obtain rfl : i = j := by omega
      obtain ⟨k, hk, hs⟩ := hbks
      have h5 := hok.came
      have h6 := hok.rle
      have := hear_seq sx k hok.life (by omega)
      rw [hs]
      exact this
theorem InB.cell {sT : Sd} {vb : Value} {BK : List Sge} (h : InB W w gx gy g ls sT vb BK j) : w.cell? ⟨g, 3, none⟩ = some vb ∧ w.frozen? ⟨g, 3, none⟩ = false := by
  obtain ⟨Fx, Fy, sx, ry, vo, out, hl, _⟩ := h
  exact ⟨hl.box.cell 3, hl.box.frozen 3⟩
/-- The next round. -/
theorem InB.done {s : Sd} {vb : Value} {BK : List Sge} (h : InB W w gx gy g ls s.tickS vb BK j) (hj : BK.length ≤ j) (hw : 1 ≤ s.window) (hsp : s.span ≤ 4) (ht : s.tick ≤ 1000 + k) (hc : s.came + s.queue.length = ls.length) (h0 : 0 < s.queue.length) (hgo : s.toGo + k ≤ 4 * (ls.length + 1))
    (hd : ∀ q r, s.queue = q :: r → dueQ s.span (s.tick + 1) q = true → ∃ e ∈ BK, s.came + 1 ≤ e.1.seq) : OutZ W (w.setCell ⟨g, 3, none⟩ (.slice none 0 0)) gx gy g ls (k + 1) := by
  obtain ⟨Fx, Fy, sx, ry, vo, out, hl, hok, h1, h2, h3, h4⟩ := h
  have l1 := hl.newBk (v' := .slice none 0 0) (bk' := []) (World.ownsRow_nil _ _ _ _) (fun k e => by cases e) (fun e he => by simp at he) (fun k e => by cases e)
  have hok' := hok.sub (to' := []) (bk' := []) (fun s hs => by simp at hs) (fun s hs => by simp at hs)
  have t1 : s.tickS.tick = s.tick + 1 := rfl
  have t2 : s.tickS.span = s.span := rfl
  have t3 : s.tickS.came = s.came := rfl
  have hsx : sx.span ≤ 4 := by rw [h3, t2]; exact hsp
  refine ⟨Fx, Fy, sx, ry, _, _, _, [], [], out, l1.set 3 _, hok', by simp, by simp, by omega, hsx, .inr ?_⟩
  have := toGo_less (s := s) (s2 := sx) hw hsx (fun q hq => (hl.tw.ps.ok.bods q hq).2) hc hok.came h0 (by rw [t3] at h1; exact h1) (fun q r hq hdq => by
    obtain ⟨e, he, hes⟩ := hd q r hq hdq
    obtain ⟨i, hi, rfl⟩ := List.getElem_of_mem he
    have := h4 i hi (by omega)
    omega)
  omega
theorem tick_facts {Fx Fy : Nat → Prop} {sx : Sd} {ry : Rc} {vt vb vo : Value} {ts bk : List Sge} {out : List (List UInt8 × Value)} (h : LnR W w Fx Fy gx gy g sx ry (lnA gx gy vt vb vo) vt vb vo ts bk out) (ht : sx.tick + 1 < 4611686018427387904) :
    ∃ (At : Option Addr) (nt ct no : Nat), vt = .slice At nt ct ∧ nt = ts.length ∧ no = sx.out.length ∧ Hid (∀ q, Calls Try.prog 15 #[.pointer (some ⟨gx, 0, none⟩)] (w.drewN q) fun e w' => ∃ A c es, e = .returned (.slice A no c) ∧ Hid (es.map (·.1) = sx.out ∧ SgR w' (w.drewN q).heap.size (Un Fx Fy) (.slice A no c) es ∧ LnR W w' Fx Fy gx gy g sx.tickS ry (lnA gx gy vt vb vo) vt vb vo ts bk out)) ∧ Hid (∀ w2 A c es, Hid (es.map (·.1) = sx.out ∧ SgR w2 (w.drewN 1).heap.size (Un Fx Fy) (.slice A no c) es ∧ LnR W w2 Fx Fy gx gy g sx.tickS ry (lnA gx gy vt vb vo) vt vb vo ts bk out) → w2.cell? ⟨g, 2, none⟩ = some (.slice At nt ct) ∧ w2.frozen? ⟨g, 2, none⟩ = false ∧ Hid (w2.ownsRow W.heap.size 36 4 (.slice At nt ct) nt (sgC ts)) ∧ W.heap.size ≤ w2.heap.size ∧ Hid (no = es.length ∧ (A = none → no = 0) ∧ (∀ a, A = some a → ∀ j u, (sgC es)[j]? = some u → w2.cell? (a.add j) = some u) ∧ ∀ u ∈ sgC es, u.oneCell' = true)) ∧ Hid (∀ w2 A c es, Hid (es.map (·.1) = sx.out ∧ SgR w2 (w.drewN 1).heap.size (Un Fx Fy) (.slice A no c) es ∧ LnR W w2 Fx Fy gx gy g sx.tickS ry (lnA gx gy vt vb vo) vt vb vo ts bk out) → ∀ v' w3, App w2 w3 W.heap.size 36 4 (.slice At nt ct) v' nt no (sgC ts) (sgC es) → w3.cell? ⟨g, 2, none⟩ = some (.slice At nt ct) ∧ w3.frozen? ⟨g, 2, none⟩ = false ∧ Hid (LnR W w3 Fx Fy gx gy g sx.tickS ry (lnA gx gy vt vb vo) v' vb vo (ts ++ es) bk out)) := by
  obtain ⟨At, ct, hvt, hct⟩ := own_shape h.toR.own
  obtain ⟨nt, hnt⟩ : ∃ nt, nt = ts.length := ⟨_, rfl⟩
  obtain ⟨no, hno⟩ : ∃ no, no = sx.out.length := ⟨_, rfl⟩
  rw [← hnt] at hvt
  have HT : Hid (∀ q, Calls Try.prog 15 #[.pointer (some ⟨gx, 0, none⟩)] (w.drewN q) fun e w' => ∃ A c es, e = .returned (.slice A no c) ∧ Hid (es.map (·.1) = sx.out ∧ SgR w' (w.drewN q).heap.size (Un Fx Fy) (.slice A no c) es ∧ LnR W w' Fx Fy gx gy g sx.tickS ry (lnA gx gy vt vb vo) vt vb vo ts bk out)) := Lib.hid fun q => by
    have h2 := h.below (bel_drewN (Below.refl w.heap.size w) q)
    refine (h2.tw.tick ht).mono ?_
    rintro e w' ⟨A, c, es, rfl, t1, t2, t3, t4⟩
    rw [hno]
    exact ⟨A, c, es, rfl, Lib.hid ⟨t1, t2, h2.mv t3 t4⟩⟩
  have HF : Hid (∀ w2 A c es, Hid (es.map (·.1) = sx.out ∧ SgR w2 (w.drewN 1).heap.size (Un Fx Fy) (.slice A no c) es ∧ LnR W w2 Fx Fy gx gy g sx.tickS ry (lnA gx gy vt vb vo) vt vb vo ts bk out) → w2.cell? ⟨g, 2, none⟩ = some (.slice At nt ct) ∧ w2.frozen? ⟨g, 2, none⟩ = false ∧ Hid (w2.ownsRow W.heap.size 36 4 (.slice At nt ct) nt (sgC ts)) ∧ W.heap.size ≤ w2.heap.size ∧ Hid (no = es.length ∧ (A = none → no = 0) ∧ (∀ a, A = some a → ∀ j u, (sgC es)[j]? = some u → w2.cell? (a.add j) = some u) ∧ ∀ u ∈ sgC es, u.oneCell' = true)) := Lib.hid fun w2 A c es t => by
    have l := t.out.2.2
    have c2 : w2.cell? ⟨g, 2, none⟩ = some vt := l.box.cell 2
    have ho := l.toR.own
    rw [hvt] at c2 ho
    rw [← hnt] at ho
    exact ⟨c2, l.box.frozen 2, Lib.hid ho, l.tw.below.size, Lib.hid t.out.2.1.src⟩
  have HG : Hid (∀ w2 A c es, Hid (es.map (·.1) = sx.out ∧ SgR w2 (w.drewN 1).heap.size (Un Fx Fy) (.slice A no c) es ∧ LnR W w2 Fx Fy gx gy g sx.tickS ry (lnA gx gy vt vb vo) vt vb vo ts bk out) → ∀ v' w3, App w2 w3 W.heap.size 36 4 (.slice At nt ct) v' nt no (sgC ts) (sgC es) → w3.cell? ⟨g, 2, none⟩ = some (.slice At nt ct) ∧ w3.frozen? ⟨g, 2, none⟩ = false ∧ Hid (LnR W w3 Fx Fy gx gy g sx.tickS ry (lnA gx gy vt vb vo) v' vb vo (ts ++ es) bk out)) := Lib.hid fun w2 A c es t v' w3 happ => by
    have hl2 : no = es.length := t.out.2.1.src.1
    have l := t.out.2.2
    have a3 : App w2 w3 W.heap.size 36 4 vt v' ts.length es.length (sgC ts) (sgC es) := by rw [hvt, ← hnt, ← hl2]; exact happ
    have l3 := l.appTo (fun e he => t.out.2.1.each e he) a3
    have c3 : w3.cell? ⟨g, 2, none⟩ = some vt := l3.box.cell 2
    rw [hvt] at c3
    exact ⟨c3, l3.box.frozen 2, Lib.hid l3⟩
  exact ⟨At, nt, ct, no, hvt, hnt, hno, HT, HF, HG⟩
end
end Go.Proofs.Ytjbfhffdnjahfaa
