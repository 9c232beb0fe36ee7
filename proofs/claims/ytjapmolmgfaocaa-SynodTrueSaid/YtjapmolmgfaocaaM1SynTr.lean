/- Of the proofs of layer 4, merged: SynTr. -/
import Derived.Test.YtjapmolmgfaocaaM1SynQ
import Derived.Test.YtjapmolmgfaocaaM1SynRo
import Derived.Test.YtjapmolmgfaocaaM1Same
import Derived.Deep.LoopGhost

/- SynodTrue: what the law keeps, in memory; among. -/
namespace Go.Proofs.Ytjapmolmgfaocaa
open Go.ChangeShapes Go.WideShapes Go.ChangeAt Go.RowKit Go.Maps


def updW {α : Type} (f : Nat → α) (n : Nat) (x : α) : Nat → α := fun i => if i = n then x else f i
/-- Twelve flags. -/
def flA (f : Nat → Bool) : Array Value := #[.bool (f 0), .bool (f 1), .bool (f 2), .bool (f 3), .bool (f 4), .bool (f 5), .bool (f 6), .bool (f 7), .bool (f 8), .bool (f 9), .bool (f 10), .bool (f 11)]
theorem twelve11 {i : Nat} (h : i < 12) : i = 0 ∨ i = 1 ∨ i = 2 ∨ i = 3 ∨ i = 4 ∨ i = 5 ∨ i = 6 ∨ i = 7 ∨ i = 8 ∨ i = 9 ∨ i = 10 ∨ i = 11 := by omega
theorem flA_at (f : Nat → Bool) {i : Nat} (h : i < 12) : (flA f)[i]? = some (.bool (f i)) := by
  rcases twelve11 h with rfl | rfl | rfl | rfl | rfl | rfl | rfl | rfl | rfl | rfl | rfl | rfl <;> rfl
theorem flA_set (f : Nat → Bool) {i : Nat} (h : i < 12) (b : Bool) : (flA f).setIfInBounds i (.bool b) = flA (updW f i b) := by
  rcases twelve11 h with rfl | rfl | rfl | rfl | rfl | rfl | rfl | rfl | rfl | rfl | rfl | rfl <;> rfl

/-- A value and where it lies. -/
abbrev Ve := List UInt8 × Value
def veC (es : List Ve) : List Value := es.map (·.2)
theorem veC_len (es : List Ve) : (veC es).length = es.length := by unfold veC; rw [List.length_map]
theorem own_at1 {w : World} {base : Nat} {t : TypeId} {v : Value} {es : List Ve} (h : w.ownsRow base t 1 v es.length (veC es)) (i : Nat) (hi : i < es.length) : ∃ R c, v = .slice (some ⟨R, 0, none⟩) es.length c ∧ w.cell? ⟨R, i, none⟩ = some es[i].2 ∧ R < w.heap.size := by
  have hl := h.lt
  rcases h.2 with ⟨_, h0⟩ | ⟨g, cap, cur, rfl, _, hh, h1, h2, _⟩
  · omega
  · have q := h.cells (g := g) rfl i es[i].2 (by unfold veC; rw [List.getElem?_map, List.getElem?_eq_getElem hi]; rfl)
    rw [Addr.add_lit, Nat.zero_add] at q
    exact ⟨g, cap, rfl, q, (hl g rfl).2⟩
def AmR (w : World) (e : Ending) (w' : World) : Prop := e = .returned (.bool true) ∧ w = w'
set_option maxRecDepth 100000 in
set_option maxHeartbeats 2000000 in
theorem among_any {w : World} {base B : Nat} {v : Value} {es : List Ve} {A : Option Addr} {n c : Nat} {l : List UInt8} (hrow : w.ownsRow base 31 1 v es.length (veC es)) (hea : ∀ e ∈ es, ∃ A n c, e.2 = .slice A n c ∧ Rd w B A n e.1) (hl : Rd w w.heap.size A n l) (hm : ∃ e ∈ es, e.1 = l) (hlen : es.length ≤ 1000) :
    Calls Try.prog 17 #[v, .slice A n c] w (AmR w) := by
  have HC : Hid (∀ k, (hk : k < es.length) → ∃ R cc A' n' c', v = .slice (some ⟨R, 0, none⟩) es.length cc ∧ w.cell? ⟨R, k, none⟩ = some (.slice A' n' c') ∧ Calls Try.prog 14 #[.slice A' n' c', .slice A n c] w fun e w' => e = .returned (.bool (es[k].1 == l)) ∧ w = w') := Lib.hid fun k hk => by
    obtain ⟨R, cc, e1, e2, _⟩ := own_at1 hrow k hk
    obtain ⟨A', n', c', e3, e4⟩ := hea _ (List.getElem_mem hk)
    exact ⟨R, cc, A', n', c', e1, by rw [e2, e3], same_any A' A n' n c' c B w.heap.size es[k].1 l w e4 hl⟩
  have HM : Hid (∀ P : Nat → Prop, (∀ k, (hk : k < es.length) → ¬ es[k].1 = l) → False) := Lib.hid fun P hp => by
    obtain ⟨e, he, rfl⟩ := hm
    obtain ⟨k, hk, rfl⟩ := List.getElem_of_mem he
    exact hp k hk rfl
  obtain ⟨Av, cv, rfl, _⟩ := own_shape hrow
  clear hrow hea hl hm
  have hlI : (es.length : Int) ≤ 1000 := by omega
  go_enter Try.func17, Try.ntmps17
  go_wp2_with fail
  go_loopg [5] es.length (fun gk i wr => ∃ k : Nat, i = .int .i64 (k : Int) ∧ k + gk = es.length ∧ w = wr ∧ ∀ j, (hj : j < es.length) → j < k → ¬ es[j].1 = l)
  case atStart => exact ⟨0, rfl, by omega, rfl, fun j _ hj => by omega⟩
  case round =>
    obtain ⟨k, rfl, hkg, rfl, hno⟩ := hrel
    by_cases hk : k < es.length
    · have hkI : (k : Int) < (es.length : Int) := by omega
      obtain ⟨R, cc, A', n', c', hv, hc, hs⟩ := HC.out k hk
      injection hv with hv1 hv2 hv3
      subst hv1
      subst hv3
      by_cases he : es[k].1 = l
      · have he2 : (es[k].1 == l) = true := by rw [he]; simp
        rw [he2] at hs
        have HS := Lib.hid hs
        clear hs he he2 hno
        go_wp2_with fail
        refine HS.out.mono ?_
        rintro e w2 ⟨rfl, rfl⟩
        go_wp2
        go_ret
        exact ⟨rfl, rfl⟩
      · have he2 : (es[k].1 == l) = false := by simpa using he
        rw [he2] at hs
        have HS := Lib.hid hs
        have HN : Hid (∀ j, (hj : j < es.length) → j < k + 1 → ¬ es[j].1 = l) := Lib.hid fun j hj h1 => by
          by_cases h2 : j < k
          · exact hno j hj h2
          · have : j = k := by omega
            subst this
            exact he
        clear hs he he2 hno
        go_wp2_with fail
        refine HS.out.mono ?_
        rintro e w2 ⟨rfl, rfl⟩
        go_wp2
        go_roundg (gk - 1)
        case measure => omega
        case rel => exact ⟨k + 1, by go_num, by omega, rfl, HN.out⟩
    · exact (HM.out (fun _ => True) fun j hj => hno j hj (by omega)).elim

/-! ### the state -/
structure TrI (W w : World) (g N gk : Nat) (q : Qm) (v : Value) (es : List Ve) (f : Nat → Bool) (col : Nat → Nat) (r : Ro) (x : Gh) : Prop where
  rm : OwR W w col g N q.n r
  pi : PI r x (fun u => ∃ e ∈ es, e.1 = u)
  q : r.q = q
  arr : Bk w gk 40 (flA f)
  arc : col gk = 0 ∧ W.heap.size ≤ gk
  own : w.ownsRow W.heap.size 31 1 v es.length (veC es)
  off : ∀ k, v.ownBlock = some k → col k = 0 ∧ k ≠ gk
  each : ∀ e ∈ es, ∃ A n c, e.2 = .slice A n c ∧ Rd W W.heap.size A n e.1
def TrS (W w : World) (g N gk : Nat) (q : Qm) (v : Value) (es : List Ve) (f : Nat → Bool) (X : Nat → Prop) : Prop :=
  ∃ col r x, TrI W w g N gk q v es f col r x ∧ ∀ j, f j = true → ¬ X j → (r.node j).knows = true
section
variable {W w w' : World} {g N gk : Nat} {q : Qm} {v : Value} {es : List Ve} {f : Nat → Bool} {col : Nat → Nat} {r : Ro} {x : Gh} {X : Nat → Prop}
theorem TrI.below (h : TrI W w g N gk q v es f col r x) (hb : Below w.heap.size w w') : TrI W w' g N gk q v es f col r x :=
  ⟨h.rm.below hb, h.pi, h.q, h.arr.below hb h.arr.lt, h.arc, own_below h.own hb fun k e => (h.own.lt k e).2, h.off, h.each⟩
theorem TrS.below (h : TrS W w g N gk q v es f X) (hb : Below w.heap.size w w') : TrS W w' g N gk q v es f X := by
  obtain ⟨col, r, x, h1, h2⟩ := h
  exact ⟨col, r, x, h1.below hb, h2⟩
theorem TrS.bel (h : TrS W w g N gk q v es f X) : Below W.heap.size W w := by
  obtain ⟨col, r, x, h1, h2⟩ := h
  exact h1.rm.bel
theorem TrS.weak {Y : Nat → Prop} (h : TrS W w g N gk q v es f X) (hx : ∀ j, X j → Y j) : TrS W w g N gk q v es f Y := by
  obtain ⟨col, r, x, h1, h2⟩ := h
  exact ⟨col, r, x, h1, fun j h3 h4 => h2 j h3 fun e => h4 (hx j e)⟩
theorem TrS.start (h : OwR W w col g N q.n (Ro.new q)) (hq : q.right = 0) : TrS W (w.alloc (.cells (flA fun _ => false) 40)) g N w.heap.size q (.slice none 0 0) [] (fun _ => false) (fun _ => False) := by
  have hb : Below w.heap.size w (w.alloc (.cells (flA fun _ => false) 40)) := bel1P _
  refine ⟨col, Ro.new q, _, ⟨h.below hb, PI.new hq, rfl, Bk.new w _ _, ⟨?_, h.bel.size⟩, World.ownsRow_nil _ _ _ _, fun k e => (by cases e), fun e he => (List.not_mem_nil he).elim⟩, fun j e => (by cases e)⟩
  by_cases e0 : col w.heap.size = 0
  · exact e0
  · have := h.rm.lt _ e0
    omega
theorem TrS.push {v' : Value} {A : Option Addr} {n c : Nat} {l : List UInt8} {w0 : World} (h : TrS W w0 g N gk q v es f X) (hb : Below w0.heap.size w0 w) (hr : Rd W W.heap.size A n l) (ha : App w w' W.heap.size 31 1 v v' es.length 1 (veC es) [.slice A n c]) : TrS W w' g N gk q v' (es ++ [(l, .slice A n c)]) f X := by
  obtain ⟨col, r, x, h0, h2⟩ := h
  have h1 := h0.below hb
  have hk : Kp (fun k => v.ownBlock = some k) w w' := Kp.of_row ha.grow (fun g e => e)
  refine ⟨col, r, x, ⟨h1.rm.kp hk (fun k e => (h1.own.lt k e).1) (fun k hc e => hc (h1.off k e).1), h1.pi.monoL fun u hu => ?_, h1.q, h1.arr.kp hk fun e => (h1.off gk e).2 rfl, h1.arc, ?_, fun k e => ?_, fun e he => ?_⟩, h2⟩
  · obtain ⟨e, he, rfl⟩ := hu
    exact ⟨e, List.mem_append.2 (.inl he), rfl⟩
  · have := ha.own
    rw [List.length_append, show veC (es ++ [(l, Value.slice A n c)]) = veC es ++ [.slice A n c] from by unfold veC; rw [List.map_append]; rfl]
    exact this
  · rcases ha.block with hb' | hb'
    · rw [hb'] at e; exact h1.off k e
    · rw [hb'] at e
      injection e with e
      refine ⟨?_, fun e2 => ?_⟩
      · by_cases e0 : col k = 0
        · exact e0
        · have := h1.rm.rm.lt k e0
          omega
      · have := h1.arr.lt
        omega
  · rcases List.mem_append.1 he with he | he
    · exact h1.each e he
    · rw [List.mem_singleton.1 he]; exact ⟨A, n, c, rfl, hr⟩
theorem TrS.play (h : TrS W w g N gk q v es f (fun _ => False)) (kd a : Int) (vA : Option Addr) (vn vc : Nat) (l : List UInt8) (hv : Rd w W.heap.size vA vn l) (hin : kd = 0 → l.length ≤ 100 → ∃ e ∈ es, e.1 = l) : Calls Try.prog 12 #[.pointer (some ⟨g, 0, none⟩), .agg #[.int .i64 kd, .int .i64 a, .slice vA vn vc], .int .i64 (q.n : Int)] w fun e w' => e = .returned (.tuple #[]) ∧ Hid (TrS W w' g N gk q v es f (fun j => kd = 7 ∧ j = atN a q.n)) ∧ Hid (Below W.heap.size W w') := by
  obtain ⟨col, r, x, h1, h2⟩ := h
  refine (play_any h1.rm kd a vA vn vc l (Fr.given hv h1.rm.ge h1.rm.bel.size)).mono ?_
  rintro e w' ⟨rfl, hs⟩
  obtain ⟨col', p1, p2⟩ := hs.out
  obtain ⟨x', hp, he⟩ := h1.pi.play kd a l q.n
  refine ⟨rfl, Lib.hid ⟨col', _, x', ⟨p1, hp.monoL (fun u hu => ?_), (Ro.play_q _ _ _ _ _).trans h1.q, h1.arr.kp p2.kp0 (fun e => e h1.arc.1), ⟨(p2.old _ h1.arr.lt).trans h1.arc.1, h1.arc.2⟩, own_kp h1.own p2.kp0 (fun k e h3 => h3 (h1.off k e).1), fun k e => ⟨(p2.old _ (h1.own.lt k e).2).trans (h1.off k e).1, (h1.off k e).2⟩, h1.each⟩, fun j hj hX => ?_⟩, Lib.hid p1.bel⟩
  · rcases hu with hu | ⟨e1, rfl, e3⟩
    · exact hu
    · exact hin e1 e3
  · exact Ro.play_knows r kd a l q.n j (fun e1 e2 => hX ⟨e1, e2⟩) (h2 j hj (fun e => e))
theorem TrS.set {i : Nat} (h : TrS W w g N gk q v es f X) (hi : i < 12) (hX : ∀ j, X j → j = i) : TrS W (w.setCell ⟨gk, i, none⟩ (.bool false)) g N gk q v es (updW f i false) (fun _ => False) := by
  obtain ⟨col, r, x, h1, h2⟩ := h
  have hk : Kp (fun k => k = gk) w (w.setCell ⟨gk, i, none⟩ (.bool false)) := Kp.of_grown (grown_set w gk i _) rfl
  have hb := h1.arr.set_ i (.bool false)
  rw [flA_set f hi] at hb
  refine ⟨col, r, x, ⟨h1.rm.kp hk (fun k e => e ▸ h1.arc.2) (fun k hc e => hc (e ▸ h1.arc.1)), h1.pi, h1.q, hb, h1.arc, own_kp h1.own hk (fun k e => (h1.off k e).2), h1.off, h1.each⟩, fun j hj _ => ?_⟩
  unfold updW at hj
  split at hj
  · cases hj
  · rename_i hne
    exact h2 j hj fun e => hne (hX j e)
/-- Behind Learned and Voted of node k. -/
def TrL (W w : World) (g N gk : Nat) (q : Qm) (v : Value) (es : List Ve) (f : Nat → Bool) (k : Nat) (ok : Bool) : Prop :=
  ∃ col r x, TrI W w g N gk q v es f col r x ∧ (∀ j, f j = true → (r.node j).knows = true) ∧ ok = (r.node k).knows
/-- Bytes that are one of the values. -/
def TrB (w : World) (es : List Ve) (A : Option Addr) (n : Nat) (b : Bool) : Prop := ∃ l, Rd w w.heap.size A n l ∧ (b = true → ∃ e ∈ es, e.1 = l)
theorem TrB.below {A : Option Addr} {n : Nat} {b : Bool} (h : TrB w es A n b) (hb : Below w.heap.size w w') : TrB w' es A n b := by
  obtain ⟨l, h1, h2⟩ := h
  exact ⟨l, h1.up hb, h2⟩
theorem TrL.below {k : Nat} {ok : Bool} (h : TrL W w g N gk q v es f k ok) (hb : Below w.heap.size w w') : TrL W w' g N gk q v es f k ok := by
  obtain ⟨col, r, x, h1, h2⟩ := h
  exact ⟨col, r, x, h1.below hb, h2⟩
theorem TrL.bel {k : Nat} {ok : Bool} (h : TrL W w g N gk q v es f k ok) : Below W.heap.size W w := by
  obtain ⟨col, r, x, h1, h2⟩ := h
  exact h1.rm.bel
theorem TrI.has {k : Nat} (h : TrI W w g N gk q v es f col r x) (hk : k < q.n) : r.has (k : Int) = true := by
  have := h.rm.rm.nn
  exact Ro.has_iff.2 ⟨by omega, by omega⟩
theorem TrS.learned (h : TrS W w g N gk q v es f (fun _ => False)) (k : Nat) (hk : k < q.n) : Calls Try.prog 13 #[.pointer (some ⟨g, 0, none⟩), .int .i64 (k : Int)] w fun e w' => ∃ A n c ok, e = .returned (.tuple #[.slice A n c, .bool ok]) ∧ Hid (TrL W w' g N gk q v es f k ok) ∧ Hid (TrB w' es A n ok) ∧ Hid (Below W.heap.size W w') := by
  obtain ⟨col, r, x, h1, h2⟩ := h
  refine (h1.rm.learned (k : Int)).mono ?_
  rintro e w' ⟨A, c, rfl, hs⟩
  have hl : r.learned (k : Int) = ((r.node k).learned, (r.node k).knows) := by unfold Ro.learned; rw [if_pos (h1.has hk)]; rfl
  have hx := hs.out
  rw [hl] at hx ⊢
  refine ⟨A, _, c, _, rfl, Lib.hid ⟨col, r, x, h1.below hx.1, fun j hj => h2 j hj (fun e => e), rfl⟩, Lib.hid ⟨_, hx.2.1.rd, fun e => ?_⟩, Lib.hid (h1.rm.below hx.1).bel⟩
  obtain ⟨b, S, _, _, h3⟩ := h1.pi.lrn k e
  exact h1.pi.val b _ h3
theorem TrL.voted {k : Nat} {ok : Bool} (h : TrL W w g N gk q v es f k ok) (hk : k < q.n) : Calls Try.prog 16 #[.pointer (some ⟨g, 0, none⟩), .int .i64 (k : Int)] w fun e w' => ∃ (bn : Nat) (bd : Int) (sl vn : Nat) (vd : Int) (A : Option Addr) (n c : Nat), e = .returned (.tuple #[.agg #[.int .u64 (bn : Int), .int .i64 bd], .agg #[.int .u64 (sl : Int), .int .u64 (vn : Int), .int .i64 vd, .slice A n c]]) ∧ Hid (TrL W w' g N gk q v es f k ok) ∧ Hid (TrB w' es A n (decide (0 < sl))) ∧ Hid (Below w.heap.size w w') := by
  obtain ⟨col, r, x, h1, h2⟩ := h
  refine (h1.rm.voted (k : Int)).mono ?_
  rintro e w' ⟨A, c, rfl, hs⟩
  have hl : r.voted (k : Int) = ((r.node k).prom, (r.node k).vote) := by unfold Ro.voted; rw [if_pos (h1.has hk)]; rfl
  have hx := hs.out
  rw [hl] at hx ⊢
  refine ⟨_, _, _, _, _, A, _, c, rfl, Lib.hid ⟨col, r, x, h1.below hx.1, h2⟩, Lib.hid ⟨_, hx.2.1.rd, fun e => ?_⟩, Lib.hid hx.1⟩
  have e := of_decide_eq_true e
  have hnn := h1.rm.rm.nn
  rcases (h1.rm.rm.ok.nodes _ (Ro.node_mem (i := k) (by omega))).vote with h3 | h3
  · rw [h3] at e
    exact absurd e (Nat.lt_irrefl 0)
  · obtain ⟨h4, _, _⟩ := h1.pi.vot k h3.slot
    exact h1.pi.val _ _ h4
theorem TrL.among {k : Nat} {ok : Bool} {A : Option Addr} {n c : Nat} (h : TrL W w g N gk q v es f k ok) (hb : TrB w es A n true) (hlen : es.length ≤ 1000) : Calls Try.prog 17 #[v, .slice A n c] w (AmR w) := by
  obtain ⟨col, r, x, h1, h2⟩ := h
  obtain ⟨l, h3, h4⟩ := hb
  exact among_any h1.own (fun e he => by obtain ⟨A, n, c, e1, e2⟩ := h1.each e he; exact ⟨A, n, c, e1, e2.below h1.rm.bel⟩) h3 (h4 rfl) hlen
theorem TrL.amongQ {k : Nat} {ok : Bool} {A : Option Addr} {n c : Nat} (h : TrL W w g N gk q v es f k ok) (hb : TrB w es A n true) (hlen : es.length ≤ 1000) : ∀ p, Calls Try.prog 17 #[v, .slice A n c] (w.drewN p) fun e w' => e = .returned (.bool true) ∧ w' = w.drewN p := fun p =>
  ((h.below (bel_drewN (Below.refl _ _) p)).among (hb.below (bel_drewN (Below.refl _ _) p)) hlen).mono fun _ _ ⟨h1, h2⟩ => ⟨h1, h2.symm⟩
theorem TrL.drewN {k : Nat} {ok : Bool} (h : TrL W w g N gk q v es f k ok) (p : Nat) : TrL W (w.drewN p) g N gk q v es f k ok := h.below (bel_drewN (Below.refl _ _) p)
theorem TrL.cell {k : Nat} {ok : Bool} (h : TrL W w g N gk q v es f k ok) (hk : k < 12) : w.cell? ⟨gk, k, none⟩ = some (.bool (f k)) ∧ w.frozen? ⟨gk, k, none⟩ = false := by
  obtain ⟨col, r, x, h1, h2⟩ := h
  exact ⟨by rw [h1.arr.cell, flA_at f hk], h1.arr.frozen _⟩
theorem TrL.knew {k : Nat} {ok : Bool} (h : TrL W w g N gk q v es f k ok) : f k = true → ok = true := fun e => by
  obtain ⟨col, r, x, h1, h2, rfl⟩ := h
  exact h2 k e
theorem TrS.cell {k : Nat} (h : TrS W w g N gk q v es f X) (hk : k < 12) : w.cell? ⟨gk, k, none⟩ = some (.bool (f k)) ∧ w.frozen? ⟨gk, k, none⟩ = false := by
  obtain ⟨col, r, x, h1, h2⟩ := h
  exact ⟨by rw [h1.arr.cell, flA_at f hk], h1.arr.frozen _⟩
theorem TrS.row (h : TrS W w g N gk q v es f X) : w.ownsRow W.heap.size 31 1 v es.length (veC es) := by
  obtain ⟨col, r, x, h1, h2⟩ := h
  exact h1.own
theorem TrL.end_ {k : Nat} {ok : Bool} (h : TrL W w g N gk q v es f k ok) (hk : k < 12) : TrS W (w.setCell ⟨gk, k, none⟩ (.bool ok)) g N gk q v es (updW f k ok) (fun _ => False) := by
  obtain ⟨col, r, x, h1, h2, rfl⟩ := h
  have hkp : Kp (fun j => j = gk) w (w.setCell ⟨gk, k, none⟩ (.bool (r.node k).knows)) := Kp.of_grown (grown_set w gk k _) rfl
  have hb := h1.arr.set_ k (.bool (r.node k).knows)
  rw [flA_set f hk] at hb
  refine ⟨col, r, x, ⟨h1.rm.kp hkp (fun j e => e ▸ h1.arc.2) (fun j hc e => hc (e ▸ h1.arc.1)), h1.pi, h1.q, hb, h1.arc, own_kp h1.own hkp (fun j e => (h1.off j e).2), h1.off, h1.each⟩, fun j hj _ => ?_⟩
  unfold updW at hj
  split at hj
  · rename_i e
    rw [e]; exact hj
  · exact h2 j hj
end
end Go.Proofs.Ytjapmolmgfaocaa
