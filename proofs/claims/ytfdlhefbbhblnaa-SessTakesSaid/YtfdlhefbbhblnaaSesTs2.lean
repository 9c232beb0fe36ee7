/- Layer 7's laws: a segment lent to both receivers, and what came of it. -/
import Derived.Test.YtfdlhefbbhblnaaSesTr
import Derived.Test.YtfdlhefbbhblnaaLent
namespace Go.Proofs.Ytfdlhefbbhblnaa
open Go.RowKit Go.Maps

/-- A segment in a block, its body lent. -/
structure TrS (W w : World) (Fx Fy : Nat → Prop) (gx gy : Nat) (rx ry : Rc) (K q g2 cap n : Nat) (cs : Array Value) (l : List UInt8) : Prop where
  tr : Tr W w Fx Fy gx gy rx ry K
  qk : Bk w q 36 cs
  qF : ¬ Un Fx Fy q
  lo : w.ownsRow W.heap.size 5 1 (.slice (some ⟨g2, 0, none⟩) (n + 2) cap) (n + 2) (u8s (l ++ [91, 92]))
  ll : l.length = n
  gF : ¬ Un Fx Fy g2
section
variable {W w w' : World} {Fx Fy Fx' Fy' : Nat → Prop} {gx gy K K' q g2 cap n : Nat} {cs : Array Value} {rx rx' ry ry' : Rc} {l : List UInt8}
theorem TrS.below (h : TrS W w Fx Fy gx gy rx ry K q g2 cap n cs l) (hb : Below w.heap.size w w') : TrS W w' Fx Fy gx gy rx ry K q g2 cap n cs l :=
  ⟨h.tr.mvb hb, h.qk.below hb h.qk.lt, h.qF, own_below h.lo hb fun k e => (h.lo.lt k e).2, h.ll, h.gF⟩
theorem TrS.mv (h : TrS W w Fx Fy gx gy rx ry K q g2 cap n cs l) (ht : Tr W w' Fx' Fy' gx gy rx' ry' K') (hm : Mv (Un Fx Fy) (Un Fx' Fy') w w') : TrS W w' Fx' Fy' gx gy rx' ry' K' q g2 cap n cs l := by
  refine ⟨ht, h.qk.kp hm.kp h.qF, fun hf => ?_, own_kp h.lo hm.kp fun k e => ?_, h.ll, fun hf => ?_⟩
  · rcases hm.new q hf with h' | h'
    · exact h.qF h'
    · have := h.qk.lt; omega
  · injection e with e
    subst e
    exact h.gF
  · rcases hm.new g2 hf with h' | h'
    · exact h.gF h'
    · have := (h.lo.lt g2 rfl).2; omega
/-- The first half: a block for the segment, a slice that is lent, laid into the block. -/
theorem TrS.start {w1 w2 : World} {x0 x1 x2 x3 : Value} (h : Tr W w Fx Fy gx gy rx ry K) (hw : w1 = w.alloc (.cells #[x0, x1, x2, x3] 36)) (hb : Below w1.heap.size w1 w2) (ho : w2.ownsRow w1.heap.size 5 1 (.slice (some ⟨g2, 0, none⟩) (n + 2) cap) (n + 2) (u8s (l ++ [91, 92]))) (hl : l.length = n) :
    TrS W (w2.setCell ⟨w.heap.size, 3, none⟩ (.slice (some ⟨g2, 0, none⟩) n cap)) Fx Fy gx gy rx ry K w.heap.size g2 cap n #[x0, x1, x2, .slice (some ⟨g2, 0, none⟩) n cap] l ∧ w2.frozen? ⟨w.heap.size, 3, none⟩ = false ∧ w2.cell? ⟨w.heap.size, 3, none⟩ = some x3 := by
  have hb1 : Below w.heap.size w w1 := by rw [hw]; exact (Below.refl _ _).alloc (Nat.le_refl _) _
  have hk1 : Bk w1 w.heap.size 36 #[x0, x1, x2, x3] := by rw [hw]; exact Bk.new w _ _
  have hk2 := hk1.below hb hk1.lt
  have hs1 : w1.heap.size = w.heap.size + 1 := by rw [hw]; simp
  have hg := (ho.lt g2 rfl).1
  have hk4 : Kp (fun k => k = w.heap.size) w2 (w2.setCell ⟨w.heap.size, 3, none⟩ (.slice (some ⟨g2, 0, none⟩) n cap)) := Kp.set_ (F := fun k => k = w.heap.size) (p := ⟨w.heap.size, 3, none⟩) rfl _
  have hz := h.below.size
  refine ⟨⟨(h.mvb (below_then hb1 hb)).kp hk4 (fun k e e2 => ?_) (fun k e => by omega), hk2.set_ 3 _, fun hf => ?_, own_kp (own_mono ho (by omega)) hk4 (fun k e e2 => ?_), hl, fun hf => ?_⟩, hk2.frozen 3, hk2.cell 3⟩
  · have := h.lt k e; omega
  · have := h.lt _ hf; omega
  · injection e with e
    have e : g2 = k := e
    omega
  · have := h.lt _ hf; omega
theorem TrS.rd (h : TrS W w Fx Fy gx gy rx ry K q g2 cap n cs l) : Rd7 w (Un Fx Fy) (some ⟨g2, 0, none⟩) n l := by
  have hlt : g2 < w.heap.size := (h.lo.lt g2 rfl).2
  have hl := h.ll
  refine ⟨⟨hl, fun _ => ⟨g2, 0, rfl, hlt, fun j hj => ?_⟩⟩, fun ad e => ?_⟩
  · rw [Nat.zero_add, h.lo.cellAt j (by omega), u8s_at _ _ (by simp; omega)]
    simp [List.getElem_append_left hj]
  · injection e with e
    subst e
    exact ⟨hlt, h.gF⟩
end
/-- What came of it, of the program; and of the document. -/
structure TrB (W w : World) (Fx Fy : Nat → Prop) (gx gy : Nat) (rx ry : Rc) (K q g2 cap n : Nat) (cs : Array Value) (l : List UInt8) (va : Value) (outA : List (List UInt8 × Value)) : Prop where
  s : TrS W w Fx Fy gx gy rx ry K q g2 cap n cs l
  ra : ByR w W.heap.size (fun k => Un Fx Fy k ∨ k = g2) va outA
  ap : AllApart (outA.map (·.2))
  ge : ∀ x ∈ outA, ∀ k, x.2.ownBlock = some k → W.heap.size ≤ k
section
variable {W w w' : World} {Fx Fy Fx' Fy' : Nat → Prop} {gx gy K K' q g2 cap n : Nat} {cs : Array Value} {rx rx' ry ry' : Rc} {l : List UInt8} {va : Value} {outA : List (List UInt8 × Value)}
theorem TrB.below (h : TrB W w Fx Fy gx gy rx ry K q g2 cap n cs l va outA) (hb : Below w.heap.size w w') : TrB W w' Fx Fy gx gy rx ry K q g2 cap n cs l va outA :=
  ⟨h.s.below hb, h.ra.mv (Mv.below7 hb), h.ap, h.ge⟩
theorem TrB.mv (h : TrB W w Fx Fy gx gy rx ry K q g2 cap n cs l va outA) (ht : Tr W w' Fx' Fy' gx gy rx' ry' K') (hm : Mv (Un Fx Fy) (Un Fx' Fy') w w') : TrB W w' Fx' Fy' gx gy rx' ry' K' q g2 cap n cs l va outA :=
  ⟨h.s.mv ht hm, h.ra.mv ⟨hm.kp.mono fun k e => .inl e, fun k e => by
    rcases e with e | e
    · rcases hm.new k e with h' | h'
      · exact .inl (.inl h')
      · exact .inr h'
    · exact .inl (.inr e)⟩, h.ap, h.ge⟩
theorem TrS.xhear (h : TrS W w Fx Fy gx gy rx ry K q g2 cap n cs l) (m : Sg) (hm : m.Ok) (hml : m.body = l) (c : Nat) (hc : rx.came + rx.early.length + 1 < 4611686018427387904) :
    Calls Try.prog 23 #[.pointer (some ⟨gx, 0, none⟩), sgV m (.slice (some ⟨g2, 0, none⟩) n c)] w fun e w' => ∃ A' c' outA Fx', e = .returned (.tuple #[.slice A' (rx.ans m).1.length c', sgV (rx.ans m).2.1 (.slice none 0 0), .int .i64 (rx.ans m).2.2.1]) ∧ outA.map (·.1) = (rx.ans m).1 ∧ TrB W w' Fx' Fy gx gy (rx.ans m).2.2.2 ry K q g2 cap n cs l (.slice A' (rx.ans m).1.length c') outA := by
  refine (h.tr.xhear m hm _ n c (by rw [hml]; exact h.rd) hc).mono ?_
  rintro e w' ⟨A', c', out, Fx', rfl, h1, h2, h3, h4, h5, h6⟩
  have hlt := (h.lo.lt g2 rfl).2
  refine ⟨A', c', out, Fx', rfl, h1, h.mv h5 h6, ⟨own_mono h2.own h.tr.below.size, fun k e => ⟨(h2.off k e).1, fun hf => ?_⟩, fun x hx => ⟨(h2.each x hx).1, fun k e => ⟨((h2.each x hx).2 k e).1, fun hf => ?_⟩⟩⟩, h3, fun x hx k e => (h4 x hx k e).1⟩
  · rcases hf with hf | hf
    · exact (h2.off k e).2 hf
    · have := (h2.own.lt k e).1; omega
  · rcases hf with hf | hf
    · exact ((h2.each x hx).2 k e).2 hf
    · subst hf
      rcases (h4 x hx k e).2 with h' | h'
      · exact h.gF h'
      · omega
theorem TrB.yhear (h : TrB W w Fx Fy gx gy rx ry K q g2 cap n cs l va outA) (m : Sg) (hm : m.Ok) (A : Option Addr) (n2 c : Nat) (hrd : Rd w W.heap.size A n2 m.body) (hoff : 0 < n2 → ∀ ad, A = some ad → ad.block < W.heap.size) (hc : ry.came + ry.early.length + 1 < 4611686018427387904) (hK : K ≤ 900000) :
    Calls Try.prog 24 #[.pointer (some ⟨gy, 0, none⟩), sgV m (.slice A n2 c)] w fun e w' => ∃ A' c' outC Fy', e = .returned (.tuple #[.slice A' (ry.ans m).1.length c', sgV (ry.ans m).2.1 (.slice none 0 0), .int .i64 (ry.ans m).2.2.1]) ∧ outC.map (·.1) = (ry.ans m).1 ∧ ByR w' W.heap.size (fun k => k = g2) (.slice A' (ry.ans m).1.length c') outC ∧ TrB W w' Fx Fy' gx gy rx (ry.ans m).2.2.2 (K + 1) q g2 cap n cs l va outA ∧ Mv (Un Fx Fy) (Un Fx Fy') w w' := by
  refine (h.s.tr.yhear m hm A n2 c hrd hoff hc hK g2 (h.s.lo.lt g2 rfl).2 h.s.gF).mono ?_
  rintro e w' ⟨A', c', out, Fy', rfl, h1, h2, h5, h6⟩
  exact ⟨A', c', out, Fy', rfl, h1, ⟨own_mono h2.own h.s.tr.below.size, h2.off, h2.each⟩, h.mv h5 h6, h6⟩
theorem TrB.whole (h : TrB W w Fx Fy gx gy rx ry K q g2 cap n cs l va outA) (hn : n ≤ 3000) (A : Option Addr) (c : Nat) (hr : Rd w w.heap.size A n l) :
    Calls Try.prog 13 #[.slice (some ⟨g2, 0, none⟩) n cap, .slice A n c] w fun e w' => e = .returned (.bool true) ∧ w = w' :=
  whole_any g2 cap _ n c w.heap.size A l w (by omega) h.s.lo hr
/-- The lent slice is written over: what came out stays. -/
theorem TrB.spoil (h : TrB W w Fx Fy gx gy rx ry K q g2 cap n cs l va outA) (hn : n ≤ 3000) :
    Calls Try.prog 14 #[.slice (some ⟨g2, 0, none⟩) n cap] w fun e w' => e = .returned (.tuple #[]) ∧ Tr W w' Fx Fy gx gy rx ry K ∧ ByR w' W.heap.size (Un Fx Fy) va outA ∧ Kp (fun k => k = g2) w w' := by
  obtain ⟨⟨h1, hq, hqF, h9, h10, h11⟩, h12, h13, h14⟩ := h
  have ho : w.ownsRow W.heap.size 5 1 (.slice (some ⟨g2, 0, none⟩) n cap) n (u8s l) := by
    have hp := h9.2
    refine ⟨by rw [u8s_len, h10, Nat.mul_one], ?_⟩
    rcases hp with ⟨e, _⟩ | ⟨g', cap', cur, e, q1, q2, q3, q4, q5, q6⟩
    · cases e
    · injection e with e1 e2 e3
      injection e1 with e1
      injection e1 with e1 _ _
      subst e1 e3
      refine .inr ⟨g2, cap, cur, rfl, q1, q2, by omega, q4, q5, ?_⟩
      have := congrArg (List.take n) q6
      rw [List.take_take, Nat.mul_one, Nat.min_eq_left (by omega)] at this
      rw [Nat.mul_one, this, u8s_append, List.take_append_of_le_length (by rw [u8s_len]; omega), List.take_of_length_le (by rw [u8s_len]; omega)]
  refine (spoil_any g2 n cap W.heap.size l w (by omega) ho).mono ?_
  rintro e w' ⟨rfl, hg⟩
  have hk : Kp (fun j => j = g2) w w' := Kp.of_grown hg rfl
  have hge := (h9.lt g2 rfl).1
  have hz := hk.size
  exact ⟨rfl, h1.kp hk (fun j e e2 => h11 (e2 ▸ e)) (fun j e => by rw [e]; exact hge), ⟨own_kp h12.own hk fun k e e2 => (h12.off k e).2 (.inr e2), fun k e => ⟨by have := (h12.off k e).1; omega, fun hf => (h12.off k e).2 (.inl hf)⟩, fun x hx => ⟨own_kp (h12.each x hx).1 hk fun k e e2 => ((h12.each x hx).2 k e).2 (.inr e2), fun k e => ⟨by have := ((h12.each x hx).2 k e).1; omega, fun hf => ((h12.each x hx).2 k e).2 (.inl hf)⟩⟩⟩, hk⟩
/-- Own of what came out. -/
theorem ByR.ownK {A : Option Addr} {N c : Nat} {out : List (List UInt8 × Value)} (h : ByR w W.heap.size (Un Fx Fy) (.slice A N c) out) (hap : AllApart (out.map (·.2))) (hN : N = out.length) (hge : ∀ x ∈ out, ∀ k, x.2.ownBlock = some k → W.heap.size ≤ k) (hs : N ≤ 1000) (hl : ∀ x ∈ out, x.1.length ≤ 1000) (ht : Tr W w Fx Fy gx gy rx ry K) :
    Calls Try.prog 21 #[.slice A N c] w fun e w' => e = .returned (.bool true) ∧ Tr W w' Fx Fy gx gy rx ry K := by
  have hrow := h.own
  rw [← hN] at hrow
  refine (own_kp_any A N c 0 (out.map (·.2)) (fun i => (out.map (·.1)).getD i []) w (by simp [hN]) ⟨?_, fun i v hi => ?_⟩ hap (Nat.zero_le _) (by omega) fun i => ?_).mono ?_
  · rw [List.length_map, ← hN]
    exact own_mono hrow (Nat.zero_le _)
  · rw [List.getElem?_map, Option.map_eq_some_iff] at hi
    obtain ⟨x, hx, rfl⟩ := hi
    have hi2 := (List.getElem?_eq_some_iff.1 hx)
    obtain ⟨hlt, rfl⟩ := hi2
    have e : (out.map (·.1)).getD i [] = out[i].1 := by simp [List.getD, hlt]
    rw [e]
    exact (h.each _ (List.getElem_mem hlt)).1
  · by_cases hi : i < out.length
    · have e : (out.map (·.1)).getD i [] = out[i].1 := by simp [List.getD, hi]
      rw [e]
      have := hl _ (List.getElem_mem hi)
      omega
    · have e : (out.map (·.1)).getD i [] = [] := by simp [List.getD, hi]
      rw [e]
      simp
  · rintro e w' ⟨rfl, hk⟩
    refine ⟨rfl, ht.kp hk (fun k hf hv => ?_) (fun k hv => ?_)⟩
    · obtain ⟨v, hv, e⟩ := hv
      obtain ⟨x, hx, rfl⟩ := List.mem_map.1 hv
      exact ((h.each x hx).2 k e).2 hf
    · obtain ⟨v, hv, e⟩ := hv
      obtain ⟨x, hx, rfl⟩ := List.mem_map.1 hv
      exact hge x hx k e
end
end Go.Proofs.Ytfdlhefbbhblnaa
