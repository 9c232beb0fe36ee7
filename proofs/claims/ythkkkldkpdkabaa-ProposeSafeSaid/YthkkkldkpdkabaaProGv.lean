/- Arguments of layer 10's laws: ballots, votes, acts. -/
import Derived.Test.YthkkkldkpdkabaaProO
import Derived.Test.YthkkkldkpdkabaaQuG
namespace Go.Proofs.Ythkkkldkpdkabaa
open Go.ChangeShapes Go.WideShapes Go.ChangeAt Go.RowKit Go.Deep

theorem bytes_of_trodP {H : Type} {enc : TypeId × Value → H} {W : World} {v : Value} {fuel : Nat} {x : DataW H × List MemPlace} (hf : DataW.trod enc Try.prog W 0 (fun _ => true) true fuel 39 [v] = some x) :
    ∃ (A : Option Addr) (n c : Nat) (l : List UInt8), v = .slice A n c ∧ n ≤ c ∧ c ≤ 9223372036854775807 ∧ Rd W W.heap.size A n l := by
  rcases open_ints Try.underlying39 Try.underlying5 (by kernel_rfl) hf with ⟨hcs, _⟩ | ⟨x, l, c', zs, hcs, _, hl, hm, hz, _, hcell, hwz⟩
  · injection hcs with hcs
    exact ⟨none, 0, 0, [], hcs, by omega, by omega, Rd.nil _ _ _⟩
  · injection hcs with hcs
    have hz' : zs.length = c' := by simpa using hz
    refine ⟨some x, l, c', (zs.take l).map fun z => UInt8.ofNat z.toNat, hcs, hl, by unfold maxLen at hm; omega, by simp; omega, fun hn => ?_⟩
    obtain ⟨b, o, spot⟩ := x
    have hc0 := hcell 0 (by omega)
    have hspot : spot = none := by simpa [Addr.add] using World.cell?_spot hc0
    subst hspot
    refine ⟨b, o, rfl, World.block_lt_of_cell? W _ (by simpa [Addr.add] using hc0), fun j hj => ?_⟩
    have hj' : j < l := by simp at hj; omega
    have hcj := hcell j (by omega)
    rw [Addr.add_lit] at hcj
    rw [hcj]
    have hzj : zs.getD j 0 = zs[j]'(by omega) := by simp [List.getD, show j < zs.length by omega]
    have hw := hwz _ (List.getElem_mem (show j < zs.length by omega))
    have hb := bounds_u8 hw
    rw [hzj]
    simp only [List.getElem_map, List.getElem_take, UInt8.toNat_ofNat']
    congr 2
    omega
theorem bal_of_trod {H : Type} {enc : TypeId × Value → H} {W : World} {u0 u1 : Value} {fuel : Nat} {y : DataW H × List MemPlace} (hf : DataW.trod enc Try.prog W 0 (fun _ => true) true fuel 27 [u0, u1] = some y) :
    ∃ b : Bl, b.Ok ∧ u0 = .int .u64 (b.n : Int) ∧ u1 = .int .i64 b.node := by
  obtain ⟨ys, n', hn', hy, hlen, hyl, hff⟩ := DataW.trod_struct Try.underlying27 hf
  have hyl' : ys.length = 2 := hyl
  have e3 : Try.prog.cellsOf 3 = 1 := by kernel_rfl
  have e4 : Try.prog.cellsOf 25 = 1 := by kernel_rfl
  have f0 : DataW.trod enc Try.prog W 0 (fun _ => true) true n' 25 (List.take (Try.prog.cellsOf 25) (List.drop 0 [u0, u1])) = ys[0]? := hff 0 _ rfl
  have f1 : DataW.trod enc Try.prog W 0 (fun _ => true) true n' 3 (List.take (Try.prog.cellsOf 3) (List.drop 1 [u0, u1])) = ys[1]? := hff 1 _ rfl
  rw [List.getElem?_eq_getElem (by omega)] at f0 f1
  simp only [e3, e4, List.drop_zero, List.drop_succ_cons, List.take_succ_cons, List.take_zero] at f0 f1
  obtain ⟨z0, hz0, _, hw0⟩ := DataW.trod_int Try.underlying25 f0
  obtain ⟨z1, hz1, _, hw1⟩ := DataW.trod_int Try.underlying3 f1
  injection hz0 with hz0
  injection hz1 with hz1
  have b0 := bounds_u64 hw0
  have b1 := bounds_i64 hw1
  obtain ⟨m, rfl⟩ := Int.eq_ofNat_of_zero_le b0.1
  exact ⟨⟨m, z1⟩, ⟨by show m < _; omega, b1.1, b1.2⟩, hz0, hz1⟩
set_option maxRecDepth 100000 in
theorem given_bal {H : Type} {enc : TypeId × Value → H} {W : World} {base : Nat} {v : Value} {d : DataW H} {p : List MemPlace} (hv : Value.okWide Try.prog W .any base 27 v) (h : DataW.Trod enc Try.prog W 0 (fun _ => true) true 27 v d p) :
    ∃ b : Bl, b.Ok ∧ v = blV b := by
  obtain ⟨cs, rfl, hcs⟩ := okWide_struct Try.underlying27 hv
  obtain ⟨fuel, hf⟩ := h
  have hC : Try.prog.cellsOf 27 = 2 := by kernel_rfl
  rw [hC] at hcs
  obtain ⟨l⟩ := cs
  match l, hcs with
  | [u0, u1], _ =>
    obtain ⟨b, hb, e0, e1⟩ := bal_of_trod hf
    exact ⟨b, hb, by rw [e0, e1]; rfl⟩
theorem vote_of_trod {H : Type} {enc : TypeId × Value → H} {W : World} {u0 u1 u2 u3 : Value} {fuel : Nat} {y : DataW H × List MemPlace} (hf : DataW.trod enc Try.prog W 0 (fun _ => true) true fuel 48 [u0, u1, u2, u3] = some y) :
    ∃ e : Vtr, (e.2.2.1 ≤ e.2.2.2 ∧ e.2.2.2 ≤ 9223372036854775807 ∧ Rd W W.heap.size e.2.1 e.2.2.1 e.1.val ∧ e.1.Num ∧ e.1.bal.Ok) ∧ u0 = .int .u64 (e.1.slot : Int) ∧ u1 = .int .u64 (e.1.bal.n : Int) ∧ u2 = .int .i64 e.1.bal.node ∧ u3 = .slice e.2.1 e.2.2.1 e.2.2.2 := by
  obtain ⟨ys, n', hn', hy, hlen, hyl, hff⟩ := DataW.trod_struct Try.underlying48 hf
  have hyl' : ys.length = 3 := hyl
  have e4 : Try.prog.cellsOf 25 = 1 := by kernel_rfl
  have e5 : Try.prog.cellsOf 27 = 2 := by kernel_rfl
  have e6 : Try.prog.cellsOf 39 = 1 := by kernel_rfl
  have f0 : DataW.trod enc Try.prog W 0 (fun _ => true) true n' 25 (List.take (Try.prog.cellsOf 25) (List.drop 0 [u0, u1, u2, u3])) = ys[0]? := hff 0 _ rfl
  have f1 : DataW.trod enc Try.prog W 0 (fun _ => true) true n' 27 (List.take (Try.prog.cellsOf 27) (List.drop 1 [u0, u1, u2, u3])) = ys[1]? := hff 1 _ rfl
  have f2 : DataW.trod enc Try.prog W 0 (fun _ => true) true n' 39 (List.take (Try.prog.cellsOf 39) (List.drop 3 [u0, u1, u2, u3])) = ys[2]? := hff 2 _ rfl
  rw [List.getElem?_eq_getElem (by omega)] at f0 f1 f2
  simp only [e4, e5, e6, List.drop_zero, List.drop_succ_cons, List.take_succ_cons, List.take_zero] at f0 f1 f2
  obtain ⟨z0, hz0, _, hw0⟩ := DataW.trod_int Try.underlying25 f0
  obtain ⟨b, hb, g1, g2⟩ := bal_of_trod f1
  obtain ⟨A, n, c, l, hv2, k1, k2, k3⟩ := bytes_of_trodP f2
  injection hz0 with hz0
  have b0 := bounds_u64 hw0
  obtain ⟨m, rfl⟩ := Int.eq_ofNat_of_zero_le b0.1
  exact ⟨(⟨m, b, l⟩, (A, n, c)), ⟨k1, k2, k3, ⟨by show m < _; omega, hb.n⟩, hb⟩, hz0, g1, g2, hv2⟩
theorem votes_of_trod {H : Type} {enc : TypeId × Value → H} {W : World} {v : Value} {fuel : Nat} {y : DataW H × List MemPlace} (hf : DataW.trod enc Try.prog W 0 (fun _ => true) true fuel 40 [v] = some y) :
    ∃ (A : Option Addr) (n c : Nat) (es : List Vtr), v = .slice A n c ∧ VsR W (fun k => k < W.heap.size) A n c es := by
  have dflt : Vtr := (⟨0, Bl.zero, []⟩, (none, 0, 0))
  rcases open_slice Try.underlying40 hf with ⟨hcs, _⟩ | ⟨a, n, c, m, k, D, Pl, hcs, _, hl, hm, hmm, _, hi⟩
  · injection hcs with hcs
    exact ⟨none, 0, 0, [], hcs, VsR.nil _ _ _ _ (by omega)⟩
  · injection hcs with hcs
    have hmm' : m = c := by simpa using hmm
    have key : ∀ i, ∃ e : Vtr, i < n → (e.2.2.1 ≤ e.2.2.2 ∧ e.2.2.2 ≤ 9223372036854775807 ∧ Rd W W.heap.size e.2.1 e.2.2.1 e.1.val ∧ e.1.Num ∧ e.1.bal.Ok) ∧ W.cell? (a.add (i * 4)) = some (.int .u64 (e.1.slot : Int)) ∧ W.cell? (a.add (i * 4 + 1)) = some (.int .u64 (e.1.bal.n : Int)) ∧
        W.cell? (a.add (i * 4 + 2)) = some (.int .i64 e.1.bal.node) ∧ W.cell? (a.add (i * 4 + 3)) = some (.slice e.2.1 e.2.2.1 e.2.2.2) := by
      intro i
      by_cases hin : i < n
      · obtain ⟨cs', hc, ht'⟩ := hi i (by omega)
        have hC : Try.prog.cellsOf 48 = 4 := by kernel_rfl
        rw [hC] at hc
        obtain ⟨_, hcl, hat⟩ := World.cells?_some hc
        match cs', hcl with
        | [u0, u1, u2, u3], _ =>
          obtain ⟨x, hx, e0, e1, e2, e3⟩ := vote_of_trod ht'
          have a0 := hat 0 (by omega)
          have a1 := hat 1 (by omega)
          have a2 := hat 2 (by omega)
          have a3 := hat 3 (by omega)
          rw [Go.Deep.add_add] at a0 a1 a2 a3
          rw [Nat.add_zero] at a0
          exact ⟨x, fun _ => ⟨hx, a0.trans (by rw [← e0]; rfl), a1.trans (by rw [← e1]; rfl), a2.trans (by rw [← e2]; rfl), a3.trans (by rw [← e3]; rfl)⟩⟩
      · exact ⟨dflt, fun h => absurd h hin⟩
    obtain ⟨f, hf'⟩ := Classical.axiomOfChoice key
    refine ⟨some a, n, c, (List.range n).map f, hcs, by simp, ⟨hl, by unfold maxLen at hm; omega⟩, fun hn => ?_, fun e he => ?_⟩
    · obtain ⟨b, o, spot⟩ := a
      have hc0 := (hf' 0 hn).2.1
      have hspot : spot = none := by simpa [Addr.add] using World.cell?_spot hc0
      subst hspot
      have hlt := World.block_lt_of_cell? W _ (by simpa [Addr.add] using hc0)
      refine ⟨b, o, rfl, hlt, hlt, fun i hi => ?_⟩
      have hi' : i < n := by simpa using hi
      obtain ⟨_, h1, h2, h3, h4⟩ := hf' i hi'
      rw [Addr.add_lit] at h1 h2 h3 h4
      simp only [List.getElem_map, List.getElem_range]
      exact ⟨h1, by rw [Nat.add_assoc]; exact h2, by rw [Nat.add_assoc]; exact h3, by rw [Nat.add_assoc]; exact h4⟩
    · obtain ⟨i, hi, rfl⟩ := List.mem_map.1 he
      obtain ⟨⟨k1, k2, k3, k4, k5⟩, _⟩ := hf' i (by simpa using hi)
      exact ⟨k1, k2, RdG.of_rd k3 (Nat.le_refl _), k4, k5⟩
/-- An act that was handed in. -/
structure Ac10 where
  kind : Int
  node : Int
  slot : Nat
  oA : Option Addr
  on : Nat
  oc : Nat
  own : List UInt8
  vA : Option Addr
  vn : Nat
  vc : Nat
  es : List Vtr
structure Ac10.Ok (x : Ac10) (w : World) (B : Nat) : Prop where
  kind : -9223372036854775808 ≤ x.kind ∧ x.kind ≤ 9223372036854775807
  node : -9223372036854775808 ≤ x.node ∧ x.node ≤ 9223372036854775807
  slot : x.slot < 18446744073709551616
  ocap : x.on ≤ x.oc ∧ x.oc ≤ 9223372036854775807
  own : Rd w B x.oA x.on x.own
  vs : VsR w (fun k => k < B) x.vA x.vn x.vc x.es
theorem kp_of_bel {B : Nat} {w w' : World} (h : Below B w w') : Kp (fun k => B ≤ k) w w' := ⟨h.os, h.tape, h.output, h.size, fun k _ hf => h.block k (by omega)⟩
theorem Ac10.Ok.below {x : Ac10} {w w' : World} {B : Nat} (h : x.Ok w B) (hb : Below B w w') : x.Ok w' B := ⟨h.kind, h.node, h.slot, h.ocap, h.own.below hb, h.vs.kp (kp_of_bel hb) (fun k h1 h2 => by omega)⟩
def acC (x : Ac10) : Array Value := #[.int .i64 x.kind, .int .i64 x.node, .int .u64 (x.slot : Int), .slice x.oA x.on x.oc, .slice x.vA x.vn x.vc]
theorem act_of_trod {H : Type} {enc : TypeId × Value → H} {W : World} {u0 u1 u2 u3 u4 : Value} {fuel : Nat} {y : DataW H × List MemPlace} (hf : DataW.trod enc Try.prog W 0 (fun _ => true) true fuel 42 [u0, u1, u2, u3, u4] = some y) :
    ∃ x : Ac10, x.Ok W W.heap.size ∧ u0 = .int .i64 x.kind ∧ u1 = .int .i64 x.node ∧ u2 = .int .u64 (x.slot : Int) ∧ u3 = .slice x.oA x.on x.oc ∧ u4 = .slice x.vA x.vn x.vc := by
  obtain ⟨ys, n', hn', hy, hlen, hyl, hff⟩ := DataW.trod_struct Try.underlying42 hf
  have hyl' : ys.length = 5 := hyl
  have e3 : Try.prog.cellsOf 3 = 1 := by kernel_rfl
  have e4 : Try.prog.cellsOf 25 = 1 := by kernel_rfl
  have e5 : Try.prog.cellsOf 40 = 1 := by kernel_rfl
  have e6 : Try.prog.cellsOf 39 = 1 := by kernel_rfl
  have f0 : DataW.trod enc Try.prog W 0 (fun _ => true) true n' 3 (List.take (Try.prog.cellsOf 3) (List.drop 0 [u0, u1, u2, u3, u4])) = ys[0]? := hff 0 _ rfl
  have f1 : DataW.trod enc Try.prog W 0 (fun _ => true) true n' 3 (List.take (Try.prog.cellsOf 3) (List.drop 1 [u0, u1, u2, u3, u4])) = ys[1]? := hff 1 _ rfl
  have f2 : DataW.trod enc Try.prog W 0 (fun _ => true) true n' 25 (List.take (Try.prog.cellsOf 25) (List.drop 2 [u0, u1, u2, u3, u4])) = ys[2]? := hff 2 _ rfl
  have f3 : DataW.trod enc Try.prog W 0 (fun _ => true) true n' 39 (List.take (Try.prog.cellsOf 39) (List.drop 3 [u0, u1, u2, u3, u4])) = ys[3]? := hff 3 _ rfl
  have f4 : DataW.trod enc Try.prog W 0 (fun _ => true) true n' 40 (List.take (Try.prog.cellsOf 40) (List.drop 4 [u0, u1, u2, u3, u4])) = ys[4]? := hff 4 _ rfl
  rw [List.getElem?_eq_getElem (by omega)] at f0 f1 f2 f3 f4
  simp only [e3, e4, e5, e6, List.drop_zero, List.drop_succ_cons, List.take_succ_cons, List.take_zero] at f0 f1 f2 f3 f4
  obtain ⟨z0, hz0, _, hw0⟩ := DataW.trod_int Try.underlying3 f0
  obtain ⟨z1, hz1, _, hw1⟩ := DataW.trod_int Try.underlying3 f1
  obtain ⟨z2, hz2, _, hw2⟩ := DataW.trod_int Try.underlying25 f2
  obtain ⟨A, n, c, l, hv3, k1, k2, k3⟩ := bytes_of_trodP f3
  obtain ⟨B, N, C, es, hv4, k4⟩ := votes_of_trod f4
  injection hz0 with hz0
  injection hz1 with hz1
  injection hz2 with hz2
  have b2 := bounds_u64 hw2
  obtain ⟨m, rfl⟩ := Int.eq_ofNat_of_zero_le b2.1
  exact ⟨⟨z0, z1, m, A, n, c, l, B, N, C, es⟩, ⟨bounds_i64 hw0, bounds_i64 hw1, by show m < _; omega, ⟨k1, k2⟩, k3, k4⟩, hz0, hz1, hz2, hv3, hv4⟩
set_option maxRecDepth 100000 in
theorem given_act10 {H : Type} {enc : TypeId × Value → H} {W : World} {base : Nat} {v : Value} {d : DataW H} {p : List MemPlace} (hv : Value.okWide Try.prog W .any base 42 v) (h : DataW.Trod enc Try.prog W 0 (fun _ => true) true 42 v d p) :
    ∃ x : Ac10, x.Ok W W.heap.size ∧ v = .agg (acC x) := by
  obtain ⟨cs, rfl, hcs⟩ := okWide_struct Try.underlying42 hv
  obtain ⟨fuel, hf⟩ := h
  have hC : Try.prog.cellsOf 42 = 5 := by kernel_rfl
  rw [hC] at hcs
  obtain ⟨l⟩ := cs
  match l, hcs with
  | [u0, u1, u2, u3, u4], _ =>
    obtain ⟨x, hx, e0, e1, e2, e3, e4⟩ := act_of_trod hf
    exact ⟨x, hx, by rw [e0, e1, e2, e3, e4]; rfl⟩
def Acts10 (w : World) (B : Nat) (A : Option Addr) (n : Nat) (f : Nat → Ac10) : Prop :=
  0 < n → ∃ b o, A = some ⟨b, o, none⟩ ∧ b < B ∧ ∀ i, i < n → (f i).Ok w B ∧ w.cell? ⟨b, o + i * 5, none⟩ = some (.int .i64 (f i).kind) ∧ w.cell? ⟨b, o + i * 5 + 1, none⟩ = some (.int .i64 (f i).node) ∧
    w.cell? ⟨b, o + i * 5 + 2, none⟩ = some (.int .u64 ((f i).slot : Int)) ∧ w.cell? ⟨b, o + i * 5 + 3, none⟩ = some (.slice (f i).oA (f i).on (f i).oc) ∧ w.cell? ⟨b, o + i * 5 + 4, none⟩ = some (.slice (f i).vA (f i).vn (f i).vc)
theorem Acts10.below {w w' : World} {B n : Nat} {A : Option Addr} {f : Nat → Ac10} (h : Acts10 w B A n f) (hb : Below B w w') : Acts10 w' B A n f := fun hn => by
  obtain ⟨b, o, rfl, hlt, hi⟩ := h hn
  refine ⟨b, o, rfl, hlt, fun i hi' => ?_⟩
  obtain ⟨h0, h1, h2, h3, h4, h5⟩ := hi i hi'
  have e := fun j => World.cell?_of_block (a := ⟨b, j, none⟩) (hb.block b hlt)
  exact ⟨h0.below hb, (e _).trans h1, (e _).trans h2, (e _).trans h3, (e _).trans h4, (e _).trans h5⟩
set_option maxRecDepth 100000 in
theorem given_acts10 {H : Type} {enc : TypeId × Value → H} {W : World} {base : Nat} {v : Value} {d : DataW H} {p : List MemPlace} (hv : Value.okWide Try.prog W .any base 28 v) (h : DataW.Trod enc Try.prog W 0 (fun _ => true) true 28 v d p) :
    ∃ (A : Option Addr) (n c : Nat) (f : Nat → Ac10), v = .slice A n c ∧ n ≤ c ∧ c ≤ 9223372036854775807 ∧ Acts10 W W.heap.size A n f := by
  obtain ⟨A, n, c, rfl⟩ := okWide_slice Try.underlying28 hv
  obtain ⟨fuel, hf⟩ := h
  have dflt : Ac10 := ⟨0, 0, 0, none, 0, 0, [], none, 0, 0, []⟩
  rcases open_slice Try.underlying28 hf with ⟨hcs, _⟩ | ⟨a, len, cap, m, k, D, Pl, hcs, _, hl, hm, hmm, _, hi⟩
  · simp [Value.cells] at hcs
    obtain ⟨rfl, rfl, rfl⟩ := hcs
    exact ⟨none, 0, 0, fun _ => dflt, rfl, by omega, by omega, fun h => by omega⟩
  · simp [Value.cells] at hcs
    obtain ⟨rfl, rfl, rfl⟩ := hcs
    have hmm' : m = c := by simpa using hmm
    have key : ∀ i, ∃ x : Ac10, i < n → x.Ok W W.heap.size ∧ W.cell? (a.add (i * 5)) = some (.int .i64 x.kind) ∧ W.cell? (a.add (i * 5 + 1)) = some (.int .i64 x.node) ∧ W.cell? (a.add (i * 5 + 2)) = some (.int .u64 (x.slot : Int)) ∧
        W.cell? (a.add (i * 5 + 3)) = some (.slice x.oA x.on x.oc) ∧ W.cell? (a.add (i * 5 + 4)) = some (.slice x.vA x.vn x.vc) := by
      intro i
      by_cases hin : i < n
      · obtain ⟨cs', hc, ht'⟩ := hi i (by omega)
        have hC : Try.prog.cellsOf 42 = 5 := by kernel_rfl
        rw [hC] at hc
        obtain ⟨_, hcl, hat⟩ := World.cells?_some hc
        match cs', hcl with
        | [u0, u1, u2, u3, u4], _ =>
          obtain ⟨x, hx, e0, e1, e2, e3, e4⟩ := act_of_trod ht'
          have a0 := hat 0 (by omega)
          have a1 := hat 1 (by omega)
          have a2 := hat 2 (by omega)
          have a3 := hat 3 (by omega)
          have a4 := hat 4 (by omega)
          rw [Go.Deep.add_add] at a0 a1 a2 a3 a4
          rw [Nat.add_zero] at a0
          exact ⟨x, fun _ => ⟨hx, a0.trans (by rw [← e0]; rfl), a1.trans (by rw [← e1]; rfl), a2.trans (by rw [← e2]; rfl), a3.trans (by rw [← e3]; rfl), a4.trans (by rw [← e4]; rfl)⟩⟩
      · exact ⟨dflt, fun h => absurd h hin⟩
    obtain ⟨f, hf'⟩ := Classical.axiomOfChoice key
    refine ⟨some a, n, c, f, rfl, hl, by unfold maxLen at hm; omega, fun hn => ?_⟩
    obtain ⟨b, o, spot⟩ := a
    have hc0 := (hf' 0 hn).2.1
    have hspot : spot = none := by simpa [Addr.add] using World.cell?_spot hc0
    subst hspot
    refine ⟨b, o, rfl, World.block_lt_of_cell? W _ (by simpa [Addr.add] using hc0), fun i hi => ?_⟩
    obtain ⟨h0, h1, h2, h3, h4, h5⟩ := hf' i hi
    rw [Addr.add_lit] at h1 h2 h3 h4 h5
    exact ⟨h0, h1, by rw [Nat.add_assoc]; exact h2, by rw [Nat.add_assoc]; exact h3, by rw [Nat.add_assoc]; exact h4, by rw [Nat.add_assoc]; exact h5⟩
end Go.Proofs.Ythkkkldkpdkabaa
