/- Of the proofs of layer 4, merged: StoGv, StoN. -/
import Derived.Test.YtfepjgafamaegaaGreatMStoI
import Derived.Test.YtfepjgafamaegaaGreatM1StoV
import Derived.Test.YtfepjgafamaegaaGreatM1DActs
import Derived.Test.YtfepjgafamaegaaGreatMStoS

/- Arguments of layer 5's laws: a row of acts. -/
namespace Go.Proofs.YtfepjgafamaegaaGreat
open Go.ChangeShapes Go.WideShapes Go.ChangeAt Go.RowKit Go.Deep

structure Ac5 where
  kind : Int
  n : Int
  list : List Chg
  la : Option Addr
  ln : Nat
  lc : Nat
  keep : List Int
  ka : Option Addr
  kn : Nat
  kc : Nat
structure Ac5.Ok (x : Ac5) (w : World) (B : Nat) : Prop where
  kind : -9223372036854775808 ≤ x.kind ∧ x.kind ≤ 9223372036854775807
  n : -9223372036854775808 ≤ x.n ∧ x.n ≤ 9223372036854775807
  lcap : x.ln ≤ x.lc ∧ x.lc ≤ 9223372036854775807
  list : ChRd w B x.la x.ln x.list
  cap : x.kn ≤ x.kc ∧ x.kc ≤ 9223372036854775807
  keep : RdI w B x.ka x.kn x.keep
theorem Ac5.Ok.below {x : Ac5} {w w' : World} {B : Nat} (h : x.Ok w B) (hb : Below B w w') : x.Ok w' B := ⟨h.kind, h.n, h.lcap, h.list.below hb, h.cap, h.keep.below hb⟩
def Ac5.v (x : Ac5) : Value := .agg #[.int .i64 x.kind, .int .i64 x.n, .slice x.la x.ln x.lc, .slice x.ka x.kn x.kc]
def Acts5 (w : World) (B : Nat) (A : Option Addr) (n : Nat) (f : Nat → Ac5) : Prop :=
  0 < n → ∃ b o, A = some ⟨b, o, none⟩ ∧ b < B ∧ ∀ i, i < n → (f i).Ok w B ∧ w.cell? ⟨b, o + i * 4, none⟩ = some (.int .i64 (f i).kind) ∧ w.cell? ⟨b, o + i * 4 + 1, none⟩ = some (.int .i64 (f i).n) ∧
    w.cell? ⟨b, o + i * 4 + 2, none⟩ = some (.slice (f i).la (f i).ln (f i).lc) ∧ w.cell? ⟨b, o + i * 4 + 3, none⟩ = some (.slice (f i).ka (f i).kn (f i).kc)
theorem Acts5.below {w w' : World} {B n : Nat} {A : Option Addr} {f : Nat → Ac5} (h : Acts5 w B A n f) (hb : Below B w w') : Acts5 w' B A n f := fun hn => by
  obtain ⟨b, o, rfl, hlt, hi⟩ := h hn
  refine ⟨b, o, rfl, hlt, fun i hi' => ?_⟩
  obtain ⟨h0, h1, h2, h3, h4⟩ := hi i hi'
  have e := fun j => World.cell?_of_block (a := ⟨b, j, none⟩) (hb.block b hlt)
  exact ⟨h0.below hb, (e _).trans h1, (e _).trans h2, (e _).trans h3, (e _).trans h4⟩

set_option maxRecDepth 100000 in
theorem given_acts5 {H : Type} {enc : TypeId × Value → H} {W : World} {base : Nat} {v : Value} {d : DataW H} {p : List MemPlace} (hv : Value.okWide Tryz.prog W .any base 42 v) (h : DataW.Trod enc Tryz.prog W 0 (fun _ => true) true 42 v d p) :
    ∃ (A : Option Addr) (n c : Nat) (f : Nat → Ac5), v = .slice A n c ∧ n ≤ c ∧ c ≤ 9223372036854775807 ∧ Acts5 W W.heap.size A n f := by
  obtain ⟨A, n, c, rfl⟩ := okWide_slice Tryz.underlying42 hv
  obtain ⟨fuel, hf⟩ := h
  have dflt : Ac5 := ⟨0, 0, [], none, 0, 0, [], none, 0, 0⟩
  rcases open_slice Tryz.underlying42 hf with ⟨hcs, _⟩ | ⟨a, len, cap, m, k, D, Pl, hcs, _, hl, hm, hmm, _, hi⟩
  · simp [Value.cells] at hcs
    obtain ⟨rfl, rfl, rfl⟩ := hcs
    exact ⟨none, 0, 0, fun _ => dflt, rfl, by omega, by omega, fun h => by omega⟩
  · simp [Value.cells] at hcs
    obtain ⟨rfl, rfl, rfl⟩ := hcs
    have hmm' : m = c := by simpa using hmm
    have key : ∀ i, ∃ x : Ac5, i < n → x.Ok W W.heap.size ∧ W.cell? (a.add (i * 4)) = some (.int .i64 x.kind) ∧ W.cell? (a.add (i * 4 + 1)) = some (.int .i64 x.n) ∧ W.cell? (a.add (i * 4 + 2)) = some (.slice x.la x.ln x.lc) ∧ W.cell? (a.add (i * 4 + 3)) = some (.slice x.ka x.kn x.kc) := by
      intro i
      by_cases hin : i < n
      · obtain ⟨cs', hc, ht'⟩ := hi i (by omega)
        have hC : Tryz.prog.cellsOf 48 = 4 := by kernel_rfl
        rw [hC] at hc
        obtain ⟨ys, n', hn', hy, hlen, hyl, hff⟩ := DataW.trod_struct Tryz.underlying48 ht'
        obtain ⟨_, hcl, hat⟩ := World.cells?_some hc
        match cs', hcl with
        | [u0, u1, u2, u3], _ =>
          have hyl' : ys.length = 4 := hyl
          have e3 : Tryz.prog.cellsOf 3 = 1 := by kernel_rfl
          have e6 : Tryz.prog.cellsOf 46 = 1 := by kernel_rfl
          have e7 : Tryz.prog.cellsOf 22 = 1 := by kernel_rfl
          have f0 : DataW.trod enc Tryz.prog W 0 (fun _ => true) true n' 3 (List.take (Tryz.prog.cellsOf 3) (List.drop 0 [u0, u1, u2, u3])) = ys[0]? := hff 0 _ rfl
          have f1 : DataW.trod enc Tryz.prog W 0 (fun _ => true) true n' 3 (List.take (Tryz.prog.cellsOf 3) (List.drop 1 [u0, u1, u2, u3])) = ys[1]? := hff 1 _ rfl
          have f2 : DataW.trod enc Tryz.prog W 0 (fun _ => true) true n' 22 (List.take (Tryz.prog.cellsOf 22) (List.drop 2 [u0, u1, u2, u3])) = ys[2]? := hff 2 _ rfl
          have f3 : DataW.trod enc Tryz.prog W 0 (fun _ => true) true n' 46 (List.take (Tryz.prog.cellsOf 46) (List.drop 3 [u0, u1, u2, u3])) = ys[3]? := hff 3 _ rfl
          rw [List.getElem?_eq_getElem (by omega)] at f0 f1 f2 f3
          simp only [e3, e6, e7, List.drop_zero, List.drop_succ_cons, List.take_succ_cons, List.take_zero] at f0 f1 f2 f3
          obtain ⟨z0, hz0, _, hw0⟩ := DataW.trod_int Tryz.underlying3 f0
          obtain ⟨z1, hz1, _, hw1⟩ := DataW.trod_int Tryz.underlying3 f1
          obtain ⟨LA, ln, lc, ls, hv2, l1, l2, l3⟩ := chgs_of_trod f2
          obtain ⟨KA, kn, kc, ks, hv3, k1, k2, k3⟩ := ints_of_trod f3
          have b0 := bounds_i64 hw0
          have b1 := bounds_i64 hw1
          injection hz0 with hz0
          injection hz1 with hz1
          have a0 := hat 0 (by omega)
          have a1 := hat 1 (by omega)
          have a2 := hat 2 (by omega)
          have a3 := hat 3 (by omega)
          rw [Go.Deep.add_add] at a0 a1 a2 a3
          rw [Nat.add_zero] at a0
          exact ⟨⟨z0, z1, ls, LA, ln, lc, ks, KA, kn, kc⟩, fun _ => ⟨⟨b0, b1, ⟨l1, l2⟩, l3, ⟨k1, k2⟩, k3⟩, a0.trans (by rw [hz0]; rfl), a1.trans (by rw [hz1]; rfl), a2.trans (by rw [hv2]; rfl), a3.trans (by rw [hv3]; rfl)⟩⟩
      · exact ⟨dflt, fun h => absurd h hin⟩
    obtain ⟨f, hf'⟩ := Classical.axiomOfChoice key
    refine ⟨some a, n, c, f, rfl, hl, by unfold maxLen at hm; omega, fun hn => ?_⟩
    obtain ⟨b, o, spot⟩ := a
    have hc0 := (hf' 0 hn).2.1
    have hspot : spot = none := by simpa [Addr.add] using World.cell?_spot hc0
    subst hspot
    refine ⟨b, o, rfl, World.block_lt_of_cell? W _ (by simpa [Addr.add] using hc0), fun i hi => ?_⟩
    obtain ⟨h0, h1, h2, h3, h4⟩ := hf' i hi
    rw [Addr.add_lit] at h1 h2 h3 h4
    exact ⟨h0, h1, by rw [Nat.add_assoc]; exact h2, by rw [Nat.add_assoc]; exact h3, by rw [Nat.add_assoc]; exact h4⟩
end Go.Proofs.YtfepjgafamaegaaGreat

/- Layer 5's laws: a store that is not there. -/
namespace Go.Proofs.YtfepjgafamaegaaGreat
open Go.RowKit

set_option maxRecDepth 100000 in
set_option maxHeartbeats 1000000 in
theorem all_nil (w : World) : Calls Tryz.prog 43 #[.pointer none] w (AllR [] w) := by
  have hb0 : Hid (Below w.heap.size w (w.alloc (.cells #[.slice none 0 0] 57))) := Lib.hid ((Below.refl _ _).alloc (Nat.le_refl _) _)
  have hk := Lib.hid (Bk.new w 57 #[.slice none 0 0])
  go_enter Tryz.func43, Tryz.ntmps43
  go_wp2
  go_ret
  exact ⟨w.heap.size, none, 0, 0, rfl, hk.out.cell 0, by omega, ⟨rfl, fun i h => by simp at h⟩, hk.out.lt, (fun b o e => by cases e), hb0.out⟩
theorem pairs_nil (w : World) : Calls Tryz.prog 26 #[.pointer none] w fun e w' => (∃ c, e = .returned (.slice none 0 c) ∨ ∃ A, e = .returned (.slice A 0 c)) ∧ Below w.heap.size w w' := by
  refine (callsIn_wide.1 (pairs_in (.pointer none) [] w (by simp) (fun W _ => all_nil W))).mono ?_
  rintro e w' ⟨v, rfl, ho, hb⟩
  obtain ⟨A, c, rfl, _⟩ := own_shape ho
  exact ⟨⟨c, .inr ⟨A, rfl⟩⟩, hb⟩
set_option maxRecDepth 100000 in
set_option maxHeartbeats 1000000 in
theorem sdo_nil (A : Option Addr) (n c : Nat) (w : World) : Calls Tryz.prog 32 #[.pointer none, .slice A n c] w fun e w' => e = .returned (.int .i64 1) ∧ w = w' := by
  have HR := Lib.hid (sready_nil w)
  go_enter Tryz.func32, Tryz.ntmps32
  go_wp2_with fail
  refine HR.out.mono ?_
  rintro x w' ⟨rfl, rfl⟩
  go_wp2
  go_ret
  exact ⟨rfl, rfl⟩
set_option maxRecDepth 100000 in
set_option maxHeartbeats 1000000 in
theorem ssync_nil (w : World) : Calls Tryz.prog 35 #[.pointer none] w fun e w' => e = .returned (.int .i64 1) ∧ w = w' := by
  have HR := Lib.hid (sready_nil w)
  go_enter Tryz.func35, Tryz.ntmps35
  go_wp2_with fail
  refine HR.out.mono ?_
  rintro x w' ⟨rfl, rfl⟩
  go_wp2
  go_ret
  exact ⟨rfl, rfl⟩
set_option maxRecDepth 100000 in
set_option maxHeartbeats 1000000 in
theorem scheck_nil (w : World) : Calls Tryz.prog 41 #[.pointer none] w fun e w' => e = .returned (.int .i64 1) ∧ Below w.heap.size w w' := by
  have HR := Lib.hid (fun W => sready_nil W)
  have hb0 : Hid (∀ C t, Below w.heap.size w (w.alloc (.cells C t))) := Lib.hid fun C t => (Below.refl _ _).alloc (Nat.le_refl _) _
  go_enter Tryz.func41, Tryz.ntmps41
  go_wp2_with fail
  refine (HR.out _).mono ?_
  rintro x w' ⟨rfl, rfl⟩
  go_wp2
  go_ret
  exact ⟨rfl, by first | exact Below.refl _ _ | exact hb0.out _ _⟩
set_option maxRecDepth 100000 in
set_option maxHeartbeats 1000000 in
theorem sopen_nil (w : World) : Calls Tryz.prog 42 #[.pointer none] w fun e w' => e = .returned (.tuple #[.pointer none, .int .i64 1]) ∧ w = w' := by
  have HR := Lib.hid (open_nil w)
  go_enter Tryz.func42, Tryz.ntmps42
  go_wp2_with fail
  refine HR.out.mono ?_
  rintro x w' ⟨rfl, rfl⟩
  go_wp2
  go_ret2
  exact ⟨rfl, rfl⟩
end Go.Proofs.YtfepjgafamaegaaGreat
