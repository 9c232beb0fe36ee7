/- Layer 10's laws: a proposer of the call's own; what lies apart from it; the chapter's examples. -/
import Derived.Test.YthkkkldkpdkabaaProH
import Derived.Test.YthkkkldkpdkabaaLent
namespace Go.Proofs.Ythkkkldkpdkabaa
open Go.RowKit Go.Maps

/-- The proposer at g is p, made since W, in the blocks F. -/
structure OwP (W w : World) (F : Nat → Prop) (g : Nat) (p : Pp) : Prop where
  pm : PPM w F g p
  ge : ∀ k, F k → W.heap.size ≤ k
  bel : Below W.heap.size W w
section
variable {W w w' : World} {F F' : Nat → Prop} {g : Nat} {p p' : Pp}
theorem OwP.below (h : OwP W w F g p) (hb : Below w.heap.size w w') : OwP W w' F g p := ⟨h.pm.below hb, h.ge, below_then h.bel hb⟩
theorem OwP.mv (h : OwP W w F g p) (hp : PPM w' F' g p') (hm : Mv F F' w w') : OwP W w' F' g p' := ⟨hp, hm.ge h.bel.size h.ge, h.bel.trans (hm.kp.below h.ge h.bel.size)⟩
theorem OwP.kp {G : Nat → Prop} (h : OwP W w F g p) (hk : Kp G w w') (hg : ∀ k, G k → W.heap.size ≤ k) (hd : ∀ k, F k → ¬ G k) : OwP W w' F g p := ⟨h.pm.kp hk hd, h.ge, h.bel.trans (hk.below hg h.bel.size)⟩
/-- Bytes that lie apart from it. -/
def Ap (w : World) (F : Nat → Prop) (B : Nat) (v : Value) (l : List UInt8) : Prop := w.ownsRow B 5 1 v l.length (u8s l) ∧ ∀ k, v.ownBlock = some k → ¬ F k
theorem Ap.mv {B : Nat} {v : Value} {l : List UInt8} (h : Ap w F B v l) (hm : Mv F F' w w') : Ap w' F' B v l :=
  ⟨own_kp h.1 hm.kp h.2, fun k e hf => by
    rcases hm.new k hf with h1 | h1
    · exact h.2 k e h1
    · have := (h.1.lt k e).2; omega⟩
theorem Ap.below {B : Nat} {v : Value} {l : List UInt8} (h : Ap w F B v l) (hb : Below w.heap.size w w') : Ap w' F B v l := ⟨own_kp h.1 (Kp.of_below (F := fun _ => False) hb) (fun _ _ h => h), h.2⟩
theorem Ap.new {v : Value} {l : List UInt8} {B : Nat} (ho : w'.ownsRow w.heap.size 5 1 v l.length (u8s l)) (hlt : ∀ k, F k → k < w.heap.size) (hB : B ≤ w.heap.size) : Ap w' F B v l := ⟨own_mono ho hB, fun k e hf => by have := (ho.lt k e).1; have := hlt k hf; omega⟩
theorem Ap.shape {B : Nat} {v : Value} {l : List UInt8} (h : Ap w F B v l) : ∃ A c, v = .slice A l.length c := by obtain ⟨A, c, e, _⟩ := own_shape h.1; exact ⟨A, c, e⟩
def PromO (W w : World) (F : Nat → Prop) (g : Nat) (r : Int × Pp) (e : Ending) (w' : World) : Prop := ∃ F', e = .returned (.int .i64 r.1) ∧ OwP W w' F' g r.2 ∧ Mv F F' w w'
def ProposeO (W w : World) (F : Nat → Prop) (g : Nat) (r : Int × Vt × Pp) (e : Ending) (w' : World) : Prop := ∃ F' A c, e = .returned (.tuple #[.agg #[.int .u64 (r.2.1.slot : Int), .int .u64 (r.2.1.bal.n : Int), .int .i64 r.2.1.bal.node, .slice A r.2.1.val.length c], .int .i64 r.1]) ∧ Ap w' F' w.heap.size (.slice A r.2.1.val.length c) r.2.1.val ∧ OwP W w' F' g r.2.2 ∧ Mv F F' w w'
def NewO (q : Qm) (b : Bl) (s : Nat) (W : World) (e : Ending) (w' : World) : Prop := ∃ g F, e = .returned (.tuple #[.pointer (some ⟨g, 0, none⟩), .int .i64 0]) ∧ OwP W w' F g (Pp.new q b s)
def GiveO (o : Option (List UInt8)) (w : World) (e : Ending) (w' : World) : Prop := ∃ A c, e = .returned (.tuple #[.slice A (o.getD []).length c, .bool o.isSome]) ∧ w'.ownsRow w.heap.size 5 1 (.slice A (o.getD []).length c) (o.getD []).length (u8s (o.getD [])) ∧ Below w.heap.size w w'
theorem GiveR.o {o : Option (List UInt8)} {e : Ending} (h : GiveR o w e w') : GiveO o w e w' := by
  obtain ⟨v, rfl, ho, hb⟩ := h
  obtain ⟨A, c, rfl, _⟩ := own_shape ho
  exact ⟨A, c, rfl, ho, hb⟩
theorem OwP.new (q : Qm) (A : Option Addr) (n c : Nat) (b : Bl) (s : Nat) (W w : World) (hb : Below W.heap.size W w) (hq : Qi w q A n c) (hr : q.right = 0) (hbr : b.right = true) (hbn : b.n < 18446744073709551616) (hs0 : 0 < s) (hs : s < 18446744073709551616) (hn : n ≤ 1000000) :
    Calls Try.prog 12 #[qV q (.slice A n c), blV b, .int .u64 (s : Int)] w (NewO q b s W) := by
  refine (pnew_any q A n c b s w hq hr hbr hbn hs0 hs hn).mono ?_
  rintro e w' ⟨g, F, rfl, hp, hg, hbw⟩
  exact ⟨g, F, rfl, hp, fun k hk => Nat.le_trans hb.size (hg k hk), below_then hb hbw⟩
theorem OwP.promise (h : OwP W w F g p) {G : Nat → Prop} {B : Option Addr} {N C : Nat} {es : List Vtr} (hv : VsR w G B N C es) (hG : ∀ k, G k → ¬ F k) (hGl : ∀ k, G k → k < w.heap.size) (hN : p.told.length + N < 140737488355328) (x : Int) :
    Calls Try.prog 16 #[.pointer (some ⟨g, 0, none⟩), .int .i64 x, .slice B N C] w (PromO W w F g (p.promise x (es.map (·.1)))) := by
  obtain ⟨bt, bp, A, n, c, ts, ps, hP⟩ := h.pm
  refine (ppromise_any hP hv hG hGl hN x).mono ?_
  rintro e w' ⟨F', rfl, hp, hm⟩
  exact ⟨F', rfl, h.mv hp hm, hm⟩
theorem OwP.accepted (h : OwP W w F g p) (x : Int) (s : Nat) (hs : s < 18446744073709551616) : Calls Try.prog 24 #[.pointer (some ⟨g, 0, none⟩), .int .i64 x, .int .u64 (s : Int)] w (PromO W w F g (p.accepted x s)) := by
  obtain ⟨bt, bp, A, n, c, ts, ps, hP⟩ := h.pm
  refine (paccepted_any hP x s hs).mono ?_
  rintro e w' ⟨F', rfl, hp, hm⟩
  exact ⟨F', rfl, h.mv hp hm, hm⟩
theorem OwP.propose (h : OwP W w F g p) (s : Nat) (hs : s < 18446744073709551616) (oA : Option Addr) (on oc : Nat) (own : List UInt8) (hon : on ≤ 140737488355328) (hrd : Rd w w.heap.size oA on own) (hpl : p.props.length + 1 < 140737488355328) :
    Calls Try.prog 20 #[.pointer (some ⟨g, 0, none⟩), .int .u64 (s : Int), .slice oA on oc] w (ProposeO W w F g (p.propose s own)) := by
  obtain ⟨bt, bp, A, n, c, ts, ps, hP⟩ := h.pm
  refine (ppropose_any hP s hs oA on oc own hon hrd hpl).mono ?_
  rintro e w' ⟨F', v, rfl, ho, hp, hm, hd⟩
  obtain ⟨A', c', rfl, _⟩ := own_shape ho
  exact ⟨F', A', c', rfl, ⟨ho, hd⟩, h.mv hp hm, hm⟩
theorem OwP.must (h : OwP W w F g p) (s : Nat) (hs : s < 18446744073709551616) : Calls Try.prog 17 #[.pointer (some ⟨g, 0, none⟩), .int .u64 (s : Int)] w (GiveO (p.must s) w) := by
  obtain ⟨bt, bp, A, n, c, ts, ps, hP⟩ := h.pm
  exact (pmust_any hP s hs).mono fun _ _ h => h.o
theorem OwP.chosen (h : OwP W w F g p) (s : Nat) (hs : s < 18446744073709551616) : Calls Try.prog 25 #[.pointer (some ⟨g, 0, none⟩), .int .u64 (s : Int)] w (GiveO (p.chosen s) w) := by
  obtain ⟨bt, bp, A, n, c, ts, ps, hP⟩ := h.pm
  exact (pchosen_any hP s hs).mono fun _ _ h => h.o
theorem OwP.ready (h : OwP W w F g p) : Calls Try.prog 19 #[.pointer (some ⟨g, 0, none⟩)] w fun e w' => e = .returned (.bool p.ready) ∧ Below w.heap.size w w' := by
  obtain ⟨bt, bp, A, n, c, ts, ps, hP⟩ := h.pm
  exact pready_any hP
theorem OwP.top (h : OwP W w F g p) : Calls Try.prog 30 #[.pointer (some ⟨g, 0, none⟩)] w fun e w' => e = .returned (.int .u64 (p.top : Int)) ∧ w = w' := by
  obtain ⟨bt, bp, A, n, c, ts, ps, hP⟩ := h.pm
  exact ptop_any hP
theorem OwP.pre (h : OwP W w F g p) : Calls Try.prog 29 #[.pointer (some ⟨g, 0, none⟩)] w fun e w' => e = .returned (.int .u64 (p.pre : Int)) ∧ w = w' := by
  obtain ⟨bt, bp, A, n, c, ts, ps, hP⟩ := h.pm
  exact pprefix_any hP
end
def kq3 : Qm := ⟨1, 3, 2, 2, []⟩
theorem kq3_right : kq3.right = 0 := by decide +kernel
theorem qi_kq3 (W : World) : Qi W kq3 none 0 0 := ⟨⟨by decide, by decide⟩, ⟨by decide, by decide⟩, ⟨by decide, by decide⟩, ⟨by decide, by decide⟩, by decide, RdI.nil _ _ _⟩
set_option maxRecDepth 100000 in
set_option maxHeartbeats 1000000 in
theorem three_any (w : World) : Calls Try.prog 26 #[] w fun e w' => e = .returned (.agg #[.int .i64 1, .int .i64 3, .int .i64 2, .int .i64 2, .slice none 0 0]) ∧ Below w.heap.size w w' := by
  go_enter Try.func26, Try.ntmps26
  go_wp2
  have hk := Bk.new w 24 #[.int .i64 1, .int .i64 3, .int .i64 2, .int .i64 2, .slice none 0 0]
  have hb : Below w.heap.size w (w.alloc (.cells #[.int .i64 1, .int .i64 3, .int .i64 2, .int .i64 2, .slice none 0 0] 24)) := bel1P _
  generalize w.alloc (.cells #[.int .i64 1, .int .i64 3, .int .i64 2, .int .i64 2, .slice none 0 0] 24) = w1 at *
  have j0 : w1.cell? ⟨w.heap.size, 0, none⟩ = some (.int .i64 1) := hk.cell 0
  have j1 : w1.cell? ⟨w.heap.size, 1, none⟩ = some (.int .i64 3) := hk.cell 1
  have j2 : w1.cell? ⟨w.heap.size, 2, none⟩ = some (.int .i64 2) := hk.cell 2
  have j3 : w1.cell? ⟨w.heap.size, 3, none⟩ = some (.int .i64 2) := hk.cell 3
  have j4 : w1.cell? ⟨w.heap.size, 4, none⟩ = some (.slice none 0 0) := hk.cell 4
  refine bodyPost_ret (by simp [results, Try.results26, go_sem, j0, j1, j2, j3, j4]; try rfl) rfl ?_
  exact ⟨rfl, hb⟩
end Go.Proofs.Ythkkkldkpdkabaa
