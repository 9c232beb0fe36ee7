/- Of the proofs of layer 4, merged: SynVo. -/
import Derived.Test.YtjapmolmgfaocaaM1SynQ
import Derived.Test.YtjapmolmgfaocaaM1SynRo
import Derived.Test.YtjapmolmgfaocaaM1Same
import Derived.Test.YtjapmolmgfaocaaM1ProV2

/- SynodVotes: what the law keeps, in memory. -/
namespace Go.Proofs.Ytjapmolmgfaocaa
open Go.ChangeShapes Go.WideShapes Go.ChangeAt Go.RowKit Go.Maps

def updY {α : Type} (f : Nat → α) (n : Nat) (x : α) : Nat → α := fun i => if i = n then x else f i
/-- Twelve ballots. -/
def bwA (f : Nat → Bl) : Array Value := #[.int .u64 ((f 0).n : Int), .int .i64 (f 0).node, .int .u64 ((f 1).n : Int), .int .i64 (f 1).node, .int .u64 ((f 2).n : Int), .int .i64 (f 2).node, .int .u64 ((f 3).n : Int), .int .i64 (f 3).node, .int .u64 ((f 4).n : Int), .int .i64 (f 4).node, .int .u64 ((f 5).n : Int), .int .i64 (f 5).node, .int .u64 ((f 6).n : Int), .int .i64 (f 6).node, .int .u64 ((f 7).n : Int), .int .i64 (f 7).node, .int .u64 ((f 8).n : Int), .int .i64 (f 8).node, .int .u64 ((f 9).n : Int), .int .i64 (f 9).node, .int .u64 ((f 10).n : Int), .int .i64 (f 10).node, .int .u64 ((f 11).n : Int), .int .i64 (f 11).node]
theorem twelveV {i : Nat} (h : i < 12) : i = 0 ∨ i = 1 ∨ i = 2 ∨ i = 3 ∨ i = 4 ∨ i = 5 ∨ i = 6 ∨ i = 7 ∨ i = 8 ∨ i = 9 ∨ i = 10 ∨ i = 11 := by omega
theorem bwA_at (f : Nat → Bl) {i : Nat} (h : i < 12) : (bwA f)[i * 2]? = some (.int .u64 ((f i).n : Int)) ∧ (bwA f)[i * 2 + 1]? = some (.int .i64 (f i).node) := by
  rcases twelveV h with rfl | rfl | rfl | rfl | rfl | rfl | rfl | rfl | rfl | rfl | rfl | rfl <;> exact ⟨rfl, rfl⟩
theorem bwA_set (f : Nat → Bl) {i : Nat} (h : i < 12) (b : Bl) : ((bwA f).setIfInBounds (i * 2) (.int .u64 (b.n : Int))).setIfInBounds (i * 2 + 1) (.int .i64 b.node) = bwA (updY f i b) := by
  rcases twelveV h with rfl | rfl | rfl | rfl | rfl | rfl | rfl | rfl | rfl | rfl | rfl | rfl <;> rfl

abbrev Vo := Vt × Value
def voE (e : Vo) : List Value := [.int .u64 (e.1.slot : Int), .int .u64 (e.1.bal.n : Int), .int .i64 e.1.bal.node, e.2]
def voC (es : List Vo) : List Value := es.flatMap voE
theorem voC_len (es : List Vo) : (voC es).length = es.length * 4 := flat_len es fun _ _ => rfl
theorem voC_app (a b : List Vo) : voC (a ++ b) = voC a ++ voC b := by unfold voC; rw [List.flatMap_append]
theorem voC_at (es : List Vo) (i j : Nat) (hi : i < es.length) (hj : j < 4) : (voC es)[i * 4 + j]? = (voE es[i])[j]? := flat_at (s := 4) es (fun _ _ => rfl) i j hi hj

theorem Ro.prom_ge {r : Ro} (h : r.Ok) (j : Nat) : Bl.le Bl.zero (r.node j).prom := by
  by_cases hj : j < r.nodes.length
  · rcases (h.nodes _ (Ro.node_mem hj)).prom with e | e
    · rw [e]; exact Bl.le_refl _
    · exact Bl.zero_le _ e.lo
  · have : r.node j = Nd.zero := by unfold Ro.node; rw [List.getD_eq_getElem?_getD, List.getElem?_eq_none (by omega)]; rfl
    rw [this]
    exact Bl.le_refl _

structure VoI (W w : World) (g N ga : Nat) (q : Qm) (v : Value) (es : List Vo) (pr : Nat → Bl) (col : Nat → Nat) (r : Ro) (x : Gh) : Prop where
  rm : OwR W w col g N q.n r
  pi : PI r x (fun _ => True)
  q : r.q = q
  arr : Bk w ga 50 (bwA pr)
  arc : col ga = 0 ∧ W.heap.size ≤ ga
  own : w.ownsRow W.heap.size 46 4 v es.length (voC es)
  off : ∀ k, v.ownBlock = some k → col k = 0 ∧ k ≠ ga
  each : ∀ e ∈ es, ∃ A n c, e.2 = .slice A n c ∧ RdG w (fun k => col k = 0 ∧ k ≠ ga ∧ v.ownBlock ≠ some k) A n e.1.val
  low : ∀ j, Bl.le (pr j) (r.node j).prom
  vot : ∀ e ∈ es, x.P e.1.bal = some e.1.val
def VoS (W w : World) (g N ga : Nat) (q : Qm) (v : Value) (es : List Vo) (pr : Nat → Bl) : Prop := ∃ col r x, VoI W w g N ga q v es pr col r x
/-- Behind Voted of node k: its promise b, its vote vt; the two lie in blocks of their own. -/
structure VoN (W w : World) (g N ga : Nat) (q : Qm) (v : Value) (es : List Vo) (pr : Nat → Bl) (k : Nat) (b : Bl) (vt : Vt) (A : Option Addr) (c bb bv : Nat) (col : Nat → Nat) (r : Ro) (x : Gh) : Prop where
  i : VoI W w g N ga q v es pr col r x
  hbp : b = (r.node k).prom
  hvt : vt = (r.node k).vote
  rd : RdG w (fun k => col k = 0 ∧ k ≠ ga ∧ v.ownBlock ≠ some k) A vt.val.length vt.val
  kb : Bk w bb 44 (blA b)
  kv : Bk w bv 46 (vtA vt (.slice A vt.val.length c))
  ne : bb ≠ ga ∧ bv ≠ ga
def VoM (W w : World) (g N ga : Nat) (q : Qm) (v : Value) (es : List Vo) (pr : Nat → Bl) (k : Nat) (b : Bl) (vt : Vt) (A : Option Addr) (c bb bv : Nat) : Prop := ∃ col r x, VoN W w g N ga q v es pr k b vt A c bb bv col r x
section
variable {W w w' : World} {g N ga : Nat} {q : Qm} {v : Value} {es : List Vo} {pr : Nat → Bl} {col : Nat → Nat} {r : Ro} {x : Gh} {k : Nat} {b : Bl} {vt : Vt} {A : Option Addr} {c bb bv : Nat}
theorem VoI.below (h : VoI W w g N ga q v es pr col r x) (hb : Below w.heap.size w w') : VoI W w' g N ga q v es pr col r x :=
  ⟨h.rm.below hb, h.pi, h.q, h.arr.below hb h.arr.lt, h.arc, own_below h.own hb fun k e => (h.own.lt k e).2, h.off, fun e he => by obtain ⟨A, n, c, e1, e2⟩ := h.each e he; exact ⟨A, n, c, e1, e2.below hb⟩, h.low, h.vot⟩
theorem VoS.bel (h : VoS W w g N ga q v es pr) : Below W.heap.size W w := by
  obtain ⟨col, r, x, h⟩ := h
  exact h.rm.bel
theorem VoS.row (h : VoS W w g N ga q v es pr) : w.ownsRow W.heap.size 46 4 v es.length (voC es) := by
  obtain ⟨col, r, x, h1⟩ := h
  exact h1.own
theorem VoS.start (h : OwR W w col g N q.n (Ro.new q)) (hq : q.right = 0) : VoS W (w.alloc (.cells (bwA fun _ => Bl.zero) 50)) g N w.heap.size q (.slice none 0 0) [] (fun _ => Bl.zero) := by
  have hb : Below w.heap.size w (w.alloc (.cells (bwA fun _ => Bl.zero) 50)) := bel1P _
  refine ⟨col, Ro.new q, _, ⟨h.below hb, PI.new hq, rfl, Bk.new w _ _, ⟨?_, h.bel.size⟩, World.ownsRow_nil _ _ _ _, fun k e => (by cases e), fun e he => (List.not_mem_nil he).elim, fun j => Ro.prom_ge h.rm.ok j, fun e he => (List.not_mem_nil he).elim⟩⟩
  by_cases e0 : col w.heap.size = 0
  · exact e0
  · have := h.rm.lt _ e0
    omega
theorem VoS.play (h : VoS W w g N ga q v es pr) (kd a : Int) (vA : Option Addr) (vn vc : Nat) (l : List UInt8) (hv : Rd w W.heap.size vA vn l) : Calls Try.prog 12 #[.pointer (some ⟨g, 0, none⟩), .agg #[.int .i64 kd, .int .i64 a, .slice vA vn vc], .int .i64 (q.n : Int)] w fun e w' => e = .returned (.tuple #[]) ∧ Hid (VoS W w' g N ga q v es pr) := by
  obtain ⟨col, r, x, h1⟩ := h
  refine (play_any h1.rm kd a vA vn vc l (Fr.given hv h1.rm.ge h1.rm.bel.size)).mono ?_
  rintro e w' ⟨rfl, hs⟩
  obtain ⟨col', p1, p2⟩ := hs.out
  obtain ⟨x', hp, he⟩ := h1.pi.play kd a l q.n
  refine ⟨rfl, Lib.hid ⟨col', _, x', ⟨p1, hp.monoL (fun _ _ => trivial), (Ro.play_q _ _ _ _ _).trans h1.q, h1.arr.kp p2.kp0 (fun e => e h1.arc.1), ⟨(p2.old _ h1.arr.lt).trans h1.arc.1, h1.arc.2⟩, own_kp h1.own p2.kp0 (fun k e h3 => h3 (h1.off k e).1), fun k e => ⟨(p2.old _ (h1.own.lt k e).2).trans (h1.off k e).1, (h1.off k e).2⟩, fun e he => ?_, fun j => Bl.le_trans (h1.low j) ((Ro.play_grow r kd a l q.n).prom j), fun e he2 => he.P _ _ (h1.vot e he2)⟩⟩⟩
  obtain ⟨A, n, c, e1, e2⟩ := h1.each e he
  refine ⟨A, n, c, e1, e2.1, fun hn => ?_⟩
  obtain ⟨b, o, f1, f2, f3, f4⟩ := e2.2 hn
  exact ⟨b, o, f1, ⟨(p2.old b f3).trans f2.1, f2.2⟩, Nat.lt_of_lt_of_le f3 p2.kp.size, fun j hj => cell_kp (p := ⟨b, o + j, none⟩) (f4 j hj) p2.kp (fun e => e.1 f2.1)⟩
theorem VoI.has {k : Nat} (h : VoI W w g N ga q v es pr col r x) (hk : k < q.n) : r.has (k : Int) = true := by
  have := h.rm.rm.nn
  exact Ro.has_iff.2 ⟨by omega, by omega⟩
theorem rdG_fresh {B : Nat} {A : Option Addr} {c : Nat} {l : List UInt8} (ho : w'.ownsRow B 5 1 (.slice A l.length c) l.length (u8s l)) : RdG w' (fun k => B ≤ k) A l.length l :=
  ⟨rfl, fun hn => by
    obtain ⟨b, o, e, hb, hc⟩ := (Rd.of_own ho).2 hn
    refine ⟨b, o, e, ?_, hb, hc⟩
    rcases ho.2 with ⟨h', _⟩ | ⟨g', cap, cur, hv, hge, _⟩
    · injection h' with _ h2
      omega
    · injection hv with q1
      rw [e] at q1
      injection q1 with q1
      injection q1 with q1
      subst q1
      exact hge⟩
/-- Behind Voted, ahead of the two blocks. -/
def VoP (W w : World) (g N ga : Nat) (q : Qm) (v : Value) (es : List Vo) (pr : Nat → Bl) (k : Nat) (b : Bl) (vt : Vt) (A : Option Addr) : Prop :=
  ∃ col r x, VoI W w g N ga q v es pr col r x ∧ b = (r.node k).prom ∧ vt = (r.node k).vote ∧ RdG w (fun k => col k = 0 ∧ k ≠ ga ∧ v.ownBlock ≠ some k) A vt.val.length vt.val
theorem VoS.voted (h : VoS W w g N ga q v es pr) (k : Nat) (hk : k < q.n) : Calls Try.prog 16 #[.pointer (some ⟨g, 0, none⟩), .int .i64 (k : Int)] w fun e w' => ∃ (b : Bl) (vt : Vt) (A : Option Addr) (c : Nat), e = .returned (.tuple #[.agg #[.int .u64 (b.n : Int), .int .i64 b.node], .agg #[.int .u64 (vt.slot : Int), .int .u64 (vt.bal.n : Int), .int .i64 vt.bal.node, .slice A vt.val.length c]]) ∧ Hid (VoP W w' g N ga q v es pr k b vt A) := by
  obtain ⟨col, r, x, h1⟩ := h
  refine (h1.rm.voted (k : Int)).mono ?_
  rintro e w' ⟨A, c, rfl, hs⟩
  have hl : r.voted (k : Int) = ((r.node k).prom, (r.node k).vote) := by unfold Ro.voted; rw [if_pos (h1.has hk)]; rfl
  have hx := hs.out
  rw [hl] at hx ⊢
  refine ⟨_, _, A, c, rfl, Lib.hid ⟨col, r, x, h1.below hx.1, rfl, rfl, (rdG_fresh hx.2.2).mono fun j hj => ⟨?_, ?_, fun e => ?_⟩⟩⟩
  · by_cases e0 : col j = 0
    · exact e0
    · have := h1.rm.rm.lt j e0
      omega
  · have := h1.arr.lt
    omega
  · have := (h1.own.lt j e).2
    omega
theorem VoP.cells (h : VoP W w g N ga q v es pr k b vt A) : VoM W ((w.alloc (.cells (blA b) 44)).alloc (.cells (vtA vt (.slice A vt.val.length c)) 46)) g N ga q v es pr k b vt A c w.heap.size (w.heap.size + 1) := by
  obtain ⟨col, r, x, h1, h2, h3, h4⟩ := h
  have hb1 : Below w.heap.size w (w.alloc (.cells (blA b) 44)) := bel1P _
  have hk1 := Bk.new w 44 (blA b)
  have hs : (w.alloc (.cells (blA b) 44)).heap.size = w.heap.size + 1 := by simp
  generalize w.alloc (.cells (blA b) 44) = w1 at *
  have hb2 : Below w1.heap.size w1 (w1.alloc (.cells (vtA vt (.slice A vt.val.length c)) 46)) := bel1P _
  have hk2 := Bk.new w1 46 (vtA vt (.slice A vt.val.length c))
  rw [hs] at hk2
  have hlt := h1.arr.lt
  exact ⟨col, r, x, (h1.below hb1).below hb2, h2, h3, (h4.below hb1).below hb2, hk1.below hb2 hk1.lt, hk2, by omega, by omega⟩
theorem VoM.below (h : VoM W w g N ga q v es pr k b vt A c bb bv) (hb : Below w.heap.size w w') : VoM W w' g N ga q v es pr k b vt A c bb bv := by
  obtain ⟨col, r, x, h⟩ := h
  exact ⟨col, r, x, h.i.below hb, h.hbp, h.hvt, h.rd.below hb, h.kb.below hb h.kb.lt, h.kv.below hb h.kv.lt, h.ne⟩
theorem VoM.drewN (h : VoM W w g N ga q v es pr k b vt A c bb bv) (p : Nat) : VoM W (w.drewN p) g N ga q v es pr k b vt A c bb bv := h.below (bel_drewN (Below.refl _ _) p)
theorem VoM.less (h : VoM W w g N ga q v es pr k b vt A c bb bv) (hk : k < q.n) : Bl.less b (pr k) = false ∧ Bl.less b vt.bal = false := by
  obtain ⟨col, r, x, h⟩ := h
  refine ⟨by have := h.i.low k; rw [← h.hbp] at this; exact this, ?_⟩
  have hnn := h.i.rm.rm.nn
  rcases (h.i.rm.rm.ok.nodes _ (Ro.node_mem (i := k) (by omega))).vote with h3 | h3
  · rw [h.hvt, h3, h.hbp]
    exact Ro.prom_ge h.i.rm.rm.ok k
  · obtain ⟨_, _, h4⟩ := h.i.pi.vot k h3.slot
    rw [h.hvt, h.hbp]
    exact h4
theorem VoM.cells (h : VoM W w g N ga q v es pr k b vt A c bb bv) (hk : k < 12) : (w.cell? ⟨bb, 0, none⟩ = some (.int .u64 (b.n : Int)) ∧ w.cell? ⟨bb, 1, none⟩ = some (.int .i64 b.node)) ∧
    (w.cell? ⟨bv, 0, none⟩ = some (.int .u64 (vt.slot : Int)) ∧ w.cell? ⟨bv, 1, none⟩ = some (.int .u64 (vt.bal.n : Int)) ∧ w.cell? ⟨bv, 2, none⟩ = some (.int .i64 vt.bal.node) ∧ w.cell? ⟨bv, 3, none⟩ = some (.slice A vt.val.length c)) ∧
    (w.cell? ⟨ga, k * 2, none⟩ = some (.int .u64 ((pr k).n : Int)) ∧ w.cell? ⟨ga, k * 2 + 1, none⟩ = some (.int .i64 (pr k).node)) ∧ w.frozen? ⟨ga, k * 2, none⟩ = false ∧ w.frozen? ⟨ga, k * 2 + 1, none⟩ = false := by
  obtain ⟨col, r, x, h⟩ := h
  exact ⟨⟨h.kb.cell 0, h.kb.cell 1⟩, ⟨h.kv.cell 0, h.kv.cell 1, h.kv.cell 2, h.kv.cell 3⟩, ⟨by rw [h.i.arr.cell]; exact (bwA_at pr hk).1, by rw [h.i.arr.cell]; exact (bwA_at pr hk).2⟩, h.i.arr.frozen _, h.i.arr.frozen _⟩
theorem VoM.bel (h : VoM W w g N ga q v es pr k b vt A c bb bv) : Below W.heap.size W w := by
  obtain ⟨col, r, x, h⟩ := h
  exact h.i.rm.bel
theorem VoM.turn (h : VoM W w g N ga q v es pr k b vt A c bb bv) (hk : k < 12) : VoM W ((w.setCell ⟨ga, k * 2, none⟩ (.int .u64 (b.n : Int))).setCell ⟨ga, k * 2 + 1, none⟩ (.int .i64 b.node)) g N ga q v es (updY pr k b) k b vt A c bb bv := by
  obtain ⟨col, r, x, h⟩ := h
  have hkp : Kp (fun j => j = ga) w ((w.setCell ⟨ga, k * 2, none⟩ (.int .u64 (b.n : Int))).setCell ⟨ga, k * 2 + 1, none⟩ (.int .i64 b.node)) := (Kp.set_ (F := fun j => j = ga) (p := ⟨ga, k * 2, none⟩) rfl _).trans (Kp.set_ (F := fun j => j = ga) (p := ⟨ga, k * 2 + 1, none⟩) rfl _)
  have hb := (h.i.arr.set_ (k * 2) (.int .u64 (b.n : Int))).set_ (k * 2 + 1) (.int .i64 b.node)
  rw [bwA_set pr hk] at hb
  refine ⟨col, r, x, ⟨h.i.rm.kp hkp (fun j e => e ▸ h.i.arc.2) (fun j hc e => hc (e ▸ h.i.arc.1)), h.i.pi, h.i.q, hb, h.i.arc, own_kp h.i.own hkp (fun j e => (h.i.off j e).2), h.i.off, fun e he => ?_, fun j => ?_, h.i.vot⟩, h.hbp, h.hvt, h.rd.kp hkp (fun j e => e.2.1), h.kb.kp hkp h.ne.1, h.kv.kp hkp h.ne.2, h.ne⟩
  · obtain ⟨A, n, c, e1, e2⟩ := h.i.each e he
    exact ⟨A, n, c, e1, e2.kp hkp fun j e => e.2.1⟩
  · unfold updY
    split
    · rename_i e
      rw [e, h.hbp]
      exact Bl.le_refl _
    · exact h.i.low j
theorem VoM.weak (h : VoM W w g N ga q v es pr k b vt A c bb bv) : VoS W w g N ga q v es pr := by
  obtain ⟨col, r, x, h⟩ := h
  exact ⟨col, r, x, h.i⟩
theorem VoM.one (h : VoM W w g N ga q v es pr k b vt A c bb bv) (hk : k < q.n) (h0 : ¬ vt.slot = 0) : ∀ e ∈ es, e.1.bal = vt.bal → e.1.val = vt.val := fun e he hb => by
  obtain ⟨col, r, x, h⟩ := h
  have hnn := h.i.rm.rm.nn
  rcases (h.i.rm.rm.ok.nodes _ (Ro.node_mem (i := k) (by omega))).vote with h3 | h3
  · rw [h.hvt, h3] at h0
    exact absurd rfl h0
  · obtain ⟨h4, _, _⟩ := h.i.pi.vot k h3.slot
    have h5 := h.i.vot e he
    rw [hb, h.hvt, h4] at h5
    rw [h.hvt]
    exact (Option.some.inj h5).symm
/-- A vote of the row. -/
theorem VoM.at_ (h : VoM W w g N ga q v es pr k b vt A c bb bv) (hk : k < q.n) (h0 : ¬ vt.slot = 0) (i : Nat) (hi : i < es.length) : ∃ R cc A' n' c', v = .slice (some ⟨R, 0, none⟩) es.length cc ∧ w.cell? ⟨R, i * 4 + 1, none⟩ = some (.int .u64 (es[i].1.bal.n : Int)) ∧ w.cell? ⟨R, i * 4 + 2, none⟩ = some (.int .i64 es[i].1.bal.node) ∧ w.cell? ⟨R, i * 4 + 3, none⟩ = some (.slice A' n' c') ∧
    (es[i].1.bal = vt.bal → ∀ p, Calls Try.prog 14 #[.slice A' n' c', .slice A vt.val.length c] (w.drewN p) fun e w' => e = .returned (.bool true) ∧ w' = w.drewN p) := by
  have hone := h.one hk h0 _ (List.getElem_mem hi)
  obtain ⟨col, r, x, h⟩ := h
  obtain ⟨A', n', c', e2, hr⟩ := h.i.each _ (List.getElem_mem hi)
  have hl := h.i.own.lt
  rcases h.i.own.2 with ⟨_, h0⟩ | ⟨gr, cap, cur, rfl, _, hh, h1, h2, _⟩
  · omega
  · have q := fun j (hj : j < 4) u (hu : (voE es[i])[j]? = some u) => h.i.own.cells (g := gr) rfl (i * 4 + j) u (by rw [voC_at es i j hi hj]; exact hu)
    have q1 := q 1 (by omega) _ rfl
    have q2 := q 2 (by omega) _ rfl
    have q3 := q 3 (by omega) _ rfl
    rw [Addr.add_lit, Nat.zero_add] at q1 q2 q3
    refine ⟨gr, cap, A', n', c', rfl, q1, q2, by rw [← e2]; exact q3, fun e p => ?_⟩
    have hb := bel_drewN (Below.refl w.heap.size w) p
    refine (same_any A' A n' vt.val.length c' c _ _ es[i].1.val vt.val (w.drewN p) (hr.below hb).rd (h.rd.below hb).rd).mono ?_
    rintro e w' ⟨rfl, rfl⟩
    exact ⟨by rw [hone e]; simp, rfl⟩
theorem VoM.row (h : VoM W w g N ga q v es pr k b vt A c bb bv) : w.ownsRow W.heap.size 46 4 v es.length (voC es) := by
  obtain ⟨col, r, x, h1⟩ := h
  exact h1.i.own
theorem VoM.push {v' : Value} {w0 : World} (h : VoM W w0 g N ga q v es pr k b vt A c bb bv) (hk : k < q.n) (h0 : ¬ vt.slot = 0) (hb : Below w0.heap.size w0 w) (ha : App w w' W.heap.size 46 4 v v' es.length 1 (voC es) (voE (vt, .slice A vt.val.length c))) : VoS W w' g N ga q v' (es ++ [(vt, .slice A vt.val.length c)]) pr := by
  obtain ⟨col, r, x, h1⟩ := h.below hb
  have hkp : Kp (fun k => v.ownBlock = some k) w w' := Kp.of_row ha.grow (fun g e => e)
  have hmv : ∀ {A n l}, RdG w (fun k => col k = 0 ∧ k ≠ ga ∧ v.ownBlock ≠ some k) A n l → RdG w' (fun k => col k = 0 ∧ k ≠ ga ∧ v'.ownBlock ≠ some k) A n l := fun {A n l} hr => by
    refine ⟨hr.1, fun hn => ?_⟩
    obtain ⟨b, o, f1, f2, f3, f4⟩ := hr.2 hn
    refine ⟨b, o, f1, ⟨f2.1, f2.2.1, fun e => ?_⟩, Nat.lt_of_lt_of_le f3 hkp.size, fun j hj => cell_kp (p := ⟨b, o + j, none⟩) (f4 j hj) hkp (fun e => f2.2.2 e)⟩
    rcases ha.block with hb' | hb'
    · rw [hb'] at e; exact f2.2.2 e
    · rw [hb'] at e
      injection e with e
      omega
  have hnn := h1.i.rm.rm.nn
  have hvv : x.P vt.bal = some vt.val := by
    rcases (h1.i.rm.rm.ok.nodes _ (Ro.node_mem (i := k) (by omega))).vote with h3 | h3
    · rw [h1.hvt, h3] at h0
      exact absurd rfl h0
    · obtain ⟨h4, _, _⟩ := h1.i.pi.vot k h3.slot
      rw [h1.hvt]
      exact h4
  refine ⟨col, r, x, ⟨h1.i.rm.kp hkp (fun k e => (h1.i.own.lt k e).1) (fun k hc e => hc (h1.i.off k e).1), h1.i.pi, h1.i.q, h1.i.arr.kp hkp fun e => (h1.i.off ga e).2 rfl, h1.i.arc, ?_, fun k e => ?_, fun e he => ?_, h1.i.low, fun e he => ?_⟩⟩
  · have := ha.own
    rw [List.length_append, voC_app]
    exact this
  · rcases ha.block with hb' | hb'
    · rw [hb'] at e; exact h1.i.off k e
    · rw [hb'] at e
      injection e with e
      refine ⟨?_, fun e2 => ?_⟩
      · by_cases e0 : col k = 0
        · exact e0
        · have := h1.i.rm.rm.lt k e0
          omega
      · have := h1.i.arr.lt
        omega
  · rcases List.mem_append.1 he with he | he
    · obtain ⟨A, n, c, e1, e2⟩ := h1.i.each e he
      exact ⟨A, n, c, e1, hmv e2⟩
    · rw [List.mem_singleton.1 he]
      exact ⟨A, _, c, rfl, hmv h1.rd⟩
  · rcases List.mem_append.1 he with he | he
    · exact h1.i.vot e he
    · rw [List.mem_singleton.1 he]; exact hvv
end
end Go.Proofs.Ytjapmolmgfaocaa
