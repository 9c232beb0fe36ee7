/- Of the proofs of layer 4, merged: WGiven, WRun. -/
import Derived.Test.YtpfccbojllabjaaM1DActs
import Derived.Test.YtpfccbojllabjaaM1GivenFrames
import Derived.Test.YtpfccbojllabjaaMRWal9
import Derived.Deep.Grids

/- Arguments of layer 4's laws: a [][]byte, a []bool, a row of acts. -/
namespace Go.Proofs.Ytpfccbojllabjaa
open Go.ChangeShapes Go.WideShapes Go.ChangeAt Go.RowKit Go.Deep

theorem lists_of_trod {H : Type} {enc : TypeId × Value → H} {W : World} {v : Value} {fuel : Nat} {x : DataW H × List MemPlace} (hf : DataW.trod enc Try.prog W 0 (fun _ => true) true fuel 28 [v] = some x) :
    ∃ (A : Option Addr) (n c : Nat) (ls : List (List UInt8)), v = .slice A n c ∧ n ≤ c ∧ c ≤ 9223372036854775807 ∧ Parts W W.heap.size A n ls := by
  rcases open_slice1 Try.underlying28 (by kernel_rfl) hf with ⟨hcs, _⟩ | ⟨a, n, c, m, nn, V, D, Pl, hcs, _, hl, hm, hmm, _, hi⟩
  · injection hcs with hcs
    exact ⟨none, 0, 0, [], hcs, by omega, by omega, rfl, fun i hi => by simp at hi⟩
  · injection hcs with hcs
    have hmm' : m = c := by simpa using hmm
    have key : ∀ i, ∃ f : List UInt8, i < n → ∃ A' n' c', W.cell? (a.add i) = some (.slice A' n' c') ∧ n' ≤ c' ∧ c' ≤ 9223372036854775807 ∧ Rd W W.heap.size A' n' f := by
      intro i
      by_cases hin : i < n
      · obtain ⟨h1, h2⟩ := hi i (by omega)
        obtain ⟨A', n', c', l, hv1, k1, k2, k3⟩ := bytes_of_trod h2
        exact ⟨l, fun _ => ⟨A', n', c', by rw [h1, hv1], k1, k2, k3⟩⟩
      · exact ⟨[], fun h => absurd h hin⟩
    obtain ⟨f, hf'⟩ := Classical.axiomOfChoice key
    refine ⟨some a, n, c, (List.range n).map f, hcs, hl, by unfold maxLen at hm; omega, by simp, fun i hi' => ?_⟩
    have hin : i < n := by simpa using hi'
    obtain ⟨b, o, spot⟩ := a
    obtain ⟨A', n', c', h2, h3, h4, h5⟩ := hf' i hin
    have hspot : spot = none := by
      obtain ⟨_, _, _, h0, _⟩ := hf' 0 (by omega)
      simpa [Addr.add] using World.cell?_spot h0
    subst hspot
    rw [Addr.add_lit] at h2
    refine ⟨b, o, A', n', c', rfl, World.block_lt_of_cell? W _ h2, h2, h3, h4, ?_⟩
    simpa using h5
set_option maxRecDepth 100000 in
theorem given_lists {H : Type} {enc : TypeId × Value → H} {W : World} {base : Nat} {v : Value} {d : DataW H} {p : List MemPlace} (hv : Value.okWide Try.prog W .any base 28 v) (h : DataW.Trod enc Try.prog W 0 (fun _ => true) true 28 v d p) :
    ∃ (A : Option Addr) (n c : Nat) (ls : List (List UInt8)), v = .slice A n c ∧ n ≤ c ∧ c ≤ 9223372036854775807 ∧ Parts W W.heap.size A n ls := by
  obtain ⟨A, n, c, rfl⟩ := okWide_slice Try.underlying28 hv
  obtain ⟨fuel, hf⟩ := h
  exact lists_of_trod hf

/-- A slice of truths reads so. -/
def Bools (w : World) (B : Nat) (A : Option Addr) (n : Nat) (l : Nat → Bool) : Prop := 0 < n → ∃ b o, A = some ⟨b, o, none⟩ ∧ b < B ∧ ∀ i, i < n → w.cell? ⟨b, o + i, none⟩ = some (.bool (l i))
theorem Bools.below {w w' : World} {B n : Nat} {A : Option Addr} {l : Nat → Bool} (h : Bools w B A n l) (hb : Below B w w') : Bools w' B A n l := fun hn => by
  obtain ⟨b, o, e, hlt, hc⟩ := h hn
  exact ⟨b, o, e, hlt, fun i hi => (hb.cell hlt).trans (hc i hi)⟩
set_option maxRecDepth 100000 in
theorem given_bools {H : Type} {enc : TypeId × Value → H} {W : World} {base : Nat} {v : Value} {d : DataW H} {p : List MemPlace} (hv : Value.okWide Try.prog W .any base 48 v) (h : DataW.Trod enc Try.prog W 0 (fun _ => true) true 48 v d p) :
    ∃ (A : Option Addr) (n c : Nat) (l : Nat → Bool), v = .slice A n c ∧ n ≤ c ∧ c ≤ 9223372036854775807 ∧ Bools W W.heap.size A n l := by
  obtain ⟨A, n, c, rfl⟩ := okWide_slice Try.underlying48 hv
  obtain ⟨fuel, hf⟩ := h
  rcases open_slice1 Try.underlying48 (by kernel_rfl) hf with ⟨hcs, _⟩ | ⟨a, n', c', m, nn, V, D, Pl, hcs, _, hl, hm, hmm, _, hi⟩
  · simp [Value.cells] at hcs
    obtain ⟨rfl, rfl, rfl⟩ := hcs
    exact ⟨none, 0, 0, fun _ => false, rfl, by omega, by omega, fun h => by omega⟩
  · simp [Value.cells] at hcs
    obtain ⟨rfl, rfl, rfl⟩ := hcs
    have hmm' : m = c := by simpa using hmm
    have key : ∀ i, ∃ f : Bool, i < n → W.cell? (a.add i) = some (.bool f) := by
      intro i
      by_cases hin : i < n
      · obtain ⟨h1, h2⟩ := hi i (by omega)
        obtain ⟨b, hb, _⟩ := DataW.trod_bool Try.underlying4 h2
        injection hb with hb
        exact ⟨b, fun _ => by rw [h1, hb]⟩
      · exact ⟨false, fun h => absurd h hin⟩
    obtain ⟨f, hf'⟩ := Classical.axiomOfChoice key
    refine ⟨some a, n, c, f, rfl, hl, by unfold maxLen at hm; omega, fun hn => ?_⟩
    obtain ⟨b, o, spot⟩ := a
    have h0 := hf' 0 hn
    have hspot : spot = none := by simpa [Addr.add] using World.cell?_spot h0
    subst hspot
    refine ⟨b, o, rfl, World.block_lt_of_cell? W _ (by simpa [Addr.add] using h0), fun i hi => ?_⟩
    have := hf' i hi
    rwa [Addr.add_lit] at this

/-- A slice of acts. -/
def Acts4 (w : World) (B : Nat) (A : Option Addr) (n : Nat) (f : Nat → Ac4) : Prop :=
  0 < n → ∃ b o, A = some ⟨b, o, none⟩ ∧ b < B ∧ ∀ i, i < n → (f i).Ok w B ∧ w.cell? ⟨b, o + i * 5, none⟩ = some (.int .i64 (f i).kind) ∧ w.cell? ⟨b, o + i * 5 + 1, none⟩ = some (.int .i64 (f i).n) ∧
    w.cell? ⟨b, o + i * 5 + 2, none⟩ = some (.int .u8 ((f i).fill.toNat : Int)) ∧ w.cell? ⟨b, o + i * 5 + 3, none⟩ = some (.slice (f i).la (f i).ln (f i).lc) ∧ w.cell? ⟨b, o + i * 5 + 4, none⟩ = some (.slice (f i).ka (f i).kn (f i).kc)
theorem Acts4.up {w w' : World} {B n : Nat} {A : Option Addr} {f : Nat → Ac4} (h : Acts4 w B A n f) (hb : Below B w w') : Acts4 w' B A n f := fun hn => by
  obtain ⟨b, o, rfl, hlt, hi⟩ := h hn
  refine ⟨b, o, rfl, hlt, fun i hi' => ?_⟩
  obtain ⟨h0, h1, h2, h3, h4, h5⟩ := hi i hi'
  have e := fun j => World.cell?_of_block (a := ⟨b, j, none⟩) (hb.block b hlt)
  exact ⟨h0.below hb, (e _).trans h1, (e _).trans h2, (e _).trans h3, (e _).trans h4, (e _).trans h5⟩
set_option maxRecDepth 100000 in
theorem given_acts4 {H : Type} {enc : TypeId × Value → H} {W : World} {base : Nat} {v : Value} {d : DataW H} {p : List MemPlace} (hv : Value.okWide Try.prog W .any base 22 v) (h : DataW.Trod enc Try.prog W 0 (fun _ => true) true 22 v d p) :
    ∃ (A : Option Addr) (n c : Nat) (f : Nat → Ac4), v = .slice A n c ∧ n ≤ c ∧ c ≤ 9223372036854775807 ∧ Acts4 W W.heap.size A n f := by
  obtain ⟨A, n, c, rfl⟩ := okWide_slice Try.underlying22 hv
  obtain ⟨fuel, hf⟩ := h
  have dflt : Ac4 := ⟨0, 0, 0, [], none, 0, 0, [], none, 0, 0⟩
  rcases open_slice Try.underlying22 hf with ⟨hcs, _⟩ | ⟨a, len, cap, m, k, D, Pl, hcs, _, hl, hm, hmm, _, hi⟩
  · simp [Value.cells] at hcs
    obtain ⟨rfl, rfl, rfl⟩ := hcs
    exact ⟨none, 0, 0, fun _ => dflt, rfl, by omega, by omega, fun h => by omega⟩
  · simp [Value.cells] at hcs
    obtain ⟨rfl, rfl, rfl⟩ := hcs
    have hmm' : m = c := by simpa using hmm
    have key : ∀ i, ∃ x : Ac4, i < n → x.Ok W W.heap.size ∧ W.cell? (a.add (i * 5)) = some (.int .i64 x.kind) ∧ W.cell? (a.add (i * 5 + 1)) = some (.int .i64 x.n) ∧ W.cell? (a.add (i * 5 + 2)) = some (.int .u8 (x.fill.toNat : Int)) ∧ W.cell? (a.add (i * 5 + 3)) = some (.slice x.la x.ln x.lc) ∧ W.cell? (a.add (i * 5 + 4)) = some (.slice x.ka x.kn x.kc) := by
      intro i
      by_cases hin : i < n
      · obtain ⟨cs', hc, ht'⟩ := hi i (by omega)
        have hC : Try.prog.cellsOf 31 = 5 := by kernel_rfl
        rw [hC] at hc
        obtain ⟨ys, n', hn', hy, hlen, hyl, hff⟩ := DataW.trod_struct Try.underlying31 ht'
        obtain ⟨_, hcl, hat⟩ := World.cells?_some hc
        match cs', hcl with
        | [u0, u1, u2, u3, u4], _ =>
          have hyl' : ys.length = 5 := hyl
          have e3 : Try.prog.cellsOf 3 = 1 := by kernel_rfl
          have e5 : Try.prog.cellsOf 5 = 1 := by kernel_rfl
          have e6 : Try.prog.cellsOf 29 = 1 := by kernel_rfl
          have e7 : Try.prog.cellsOf 28 = 1 := by kernel_rfl
          have f0 : DataW.trod enc Try.prog W 0 (fun _ => true) true n' 3 (List.take (Try.prog.cellsOf 3) (List.drop 0 [u0, u1, u2, u3, u4])) = ys[0]? := hff 0 _ rfl
          have f1 : DataW.trod enc Try.prog W 0 (fun _ => true) true n' 3 (List.take (Try.prog.cellsOf 3) (List.drop 1 [u0, u1, u2, u3, u4])) = ys[1]? := hff 1 _ rfl
          have f2 : DataW.trod enc Try.prog W 0 (fun _ => true) true n' 5 (List.take (Try.prog.cellsOf 5) (List.drop 2 [u0, u1, u2, u3, u4])) = ys[2]? := hff 2 _ rfl
          have f3 : DataW.trod enc Try.prog W 0 (fun _ => true) true n' 28 (List.take (Try.prog.cellsOf 28) (List.drop 3 [u0, u1, u2, u3, u4])) = ys[3]? := hff 3 _ rfl
          have f4 : DataW.trod enc Try.prog W 0 (fun _ => true) true n' 29 (List.take (Try.prog.cellsOf 29) (List.drop 4 [u0, u1, u2, u3, u4])) = ys[4]? := hff 4 _ rfl
          rw [List.getElem?_eq_getElem (by omega)] at f0 f1 f2 f3 f4
          simp only [e3, e5, e6, e7, List.drop_zero, List.drop_succ_cons, List.take_succ_cons, List.take_zero] at f0 f1 f2 f3 f4
          obtain ⟨z0, hz0, _, hw0⟩ := DataW.trod_int Try.underlying3 f0
          obtain ⟨z1, hz1, _, hw1⟩ := DataW.trod_int Try.underlying3 f1
          obtain ⟨z2, hz2, _, hw2⟩ := DataW.trod_int Try.underlying5 f2
          obtain ⟨LA, ln, lc, ls, hv3, l1, l2, l3⟩ := lists_of_trod f3
          obtain ⟨KA, kn, kc, ks, hv4, k1, k2, k3⟩ := ints_of_trod f4
          have b0 := bounds_i64 hw0
          have b1 := bounds_i64 hw1
          have b2 := bounds_u8 hw2
          injection hz0 with hz0
          injection hz1 with hz1
          injection hz2 with hz2
          have a0 := hat 0 (by omega)
          have a1 := hat 1 (by omega)
          have a2 := hat 2 (by omega)
          have a3 := hat 3 (by omega)
          have a4 := hat 4 (by omega)
          rw [Go.Deep.add_add] at a0 a1 a2 a3 a4
          rw [Nat.add_zero] at a0
          refine ⟨⟨z0, z1, UInt8.ofNat z2.toNat, ls, LA, ln, lc, ks, KA, kn, kc⟩, fun _ => ⟨⟨b0, b1, ⟨l1, l2⟩, l3, ⟨k1, k2⟩, k3⟩, a0.trans (by rw [hz0]; rfl), a1.trans (by rw [hz1]; rfl), a2.trans ?_, a3.trans (by rw [hv3]; rfl), a4.trans (by rw [hv4]; rfl)⟩⟩
          rw [hz2]
          simp only [UInt8.toNat_ofNat', List.getElem?_cons_succ, List.getElem?_cons_zero]
          congr 2
          omega
      · exact ⟨dflt, fun h => absurd h hin⟩
    obtain ⟨f, hf'⟩ := Classical.axiomOfChoice key
    refine ⟨some a, n, c, f, rfl, hl, by unfold maxLen at hm; omega, fun hn => ?_⟩
    obtain ⟨b, o, spot⟩ := a
    have hc0 := (hf' 0 hn).2.1
    have hspot : spot = none := by simpa [Addr.add] using World.cell?_spot hc0
    subst hspot
    refine ⟨b, o, rfl, World.block_lt_of_cell? W _ (by simpa [Addr.add] using hc0), fun i hi => ?_⟩
    obtain ⟨h0, h1, h2, h3, h4, h5⟩ := hf' i hi
    rw [Addr.add_lit] at h1 h2 h3 h4 h5
    exact ⟨h0, h1, by rw [Nat.add_assoc]; exact h2, by rw [Nat.add_assoc]; exact h3, by rw [Nat.add_assoc]; exact h4, by rw [Nat.add_assoc]; exact h5⟩
end Go.Proofs.Ytpfccbojllabjaa

/- Layer 4's laws: what holds between the rounds of a law that plays both. -/
namespace Go.Proofs.Ytpfccbojllabjaa
open Go.RowKit

def RunW (W w : World) (gp gd M i n : Nat) : Prop := ∃ H d o, Pq w H gp gd M d o ∧ (∀ k, H k → W.heap.size ≤ k) ∧ Below W.heap.size W w ∧ d.safe.length = n ∧ d.waits.length ≤ 1100 * (i + 1) ∧ (o ≠ none → 6 ≤ n)
section
variable {W w w' : World} {gp gd M i n : Nat}
theorem RunW.size (h : RunW W w gp gd M i n) : Below W.heap.size W w := by
  obtain ⟨H, d, o, _, _, h, _⟩ := h
  exact h
theorem RunW.below (h : RunW W w gp gd M i n) (hb : Below w.heap.size w w') : RunW W w' gp gd M i n := by
  obtain ⟨H, d, o, h1, h2, h3, h4⟩ := h
  exact ⟨H, d, o, h1.below hb, h2, h3.trans (hb.mono h3.size), h4⟩
theorem RunW.start {H : Nat → Prop} (h1 : Pq w H gp gd M (Dk.new n).openL.2.2 (Dk.new n).openL.2.1) (h2 : ∀ k, H k → W.heap.size ≤ k) (h3 : Below W.heap.size W w) : RunW W w gp gd M 0 n := by
  have hl := openL_len (Dk.new n)
  have hw := openL_waits (Dk.new n)
  have hln : (Dk.new n).safe.length = n := by simp [Dk.new]
  have hw0 : (Dk.new n).waits.length = 0 := rfl
  have hlen := h1.disks.len
  have hh : (Dk.new n).half ≤ 1024 := by unfold Dk.half halfN; omega
  refine ⟨H, _, _, h1, h2, h3, by omega, by omega, fun h => ?_⟩
  obtain ⟨s, hs⟩ := Option.ne_none_iff_exists'.1 h
  have := openL_six hs
  omega
theorem RunW.play (h : RunW W w gp gd M i n) (hi : i ≤ 1000) (x : Ac4) (hx : x.Ok W W.heap.size) :
    Calls Try.prog 12 #[.pointer (some ⟨gp, 0, none⟩), .agg #[.int .i64 x.kind, .int .i64 x.n, .int .u8 (x.fill.toNat : Int), .slice x.la x.ln x.lc, .slice x.ka x.kn x.kc]] w fun e w' => e = .returned (.bool true) ∧ RunW W w' gp gd M (i + 1) n := by
  obtain ⟨H, d, o, h1, h2, h3, h4, h5, h6⟩ := h
  refine (play_any x o (by omega) (fun h => by have := h6 h; omega) (hx.below h3) h3.size h2 h1).mono ?_
  rintro e w' ⟨rfl, d', o', H', q1, q2, q3, q4, q5, _⟩
  exact ⟨rfl, H', d', o', q1, q2.ge h3.size h2, h3.trans (q2.kp.below h2 h3.size), by omega, by omega, fun h => by have := q5 h; omega⟩
theorem RunW.alike (h : RunW W w gp gd M i n) :
    Calls Try.prog 13 #[.pointer (some ⟨gp, 0, none⟩)] w fun e w' => e = .returned (.bool true) ∧ RunW W w' gp gd M i n := by
  obtain ⟨H, d, o, h1, h2, h3, h4, h5, h6⟩ := h
  refine (alike_any o (fun h => by have := h6 h; omega) h1).mono ?_
  rintro e w' ⟨rfl, q1, q2⟩
  exact ⟨rfl, H, d, o, q1, h2, h3.trans (q2.below h2 h3.size), h4, h5, h6⟩

theorem ints3_rd (w : World) (a b c : Int) (ha : -9223372036854775808 ≤ a ∧ a ≤ 9223372036854775807) (hb : -9223372036854775808 ≤ b ∧ b ≤ 9223372036854775807) (hc : -9223372036854775808 ≤ c ∧ c ≤ 9223372036854775807) (t : TypeId) :
    RdI (w.alloc (.cells #[.int .i64 a, .int .i64 b, .int .i64 c] t)) (w.heap.size + 1) (some ⟨w.heap.size, 0, none⟩) 3 [a, b, c] :=
  ⟨rfl, fun y hy => by
    simp only [List.mem_cons, List.not_mem_nil, or_false] at hy
    rcases hy with rfl | rfl | rfl
    · exact ha
    · exact hb
    · exact hc, fun _ => ⟨_, _, rfl, by omega, fun j hj => by
    rw [cell_of_row _ _ _ #[.int .i64 a, .int .i64 b, .int .i64 c] t (0, 0) (heap_alloc_new w _), Nat.zero_add]
    match j, hj with
    | 0, _ => rfl
    | 1, _ => rfl
    | 2, _ => rfl⟩⟩
/-- Both disks, of the law's own. -/
def RunD (W w : World) (gp gd M : Nat) (d d' : Dk) : Prop := ∃ H, D2 w H gp gd M d d' ∧ (∀ k, H k → W.heap.size ≤ k) ∧ Below W.heap.size W w
theorem RunD.below {d d' : Dk} (h : RunD W w gp gd M d d') (hb : Below w.heap.size w w') : RunD W w' gp gd M d d' := by
  obtain ⟨H, h1, h2, h3⟩ := h
  exact ⟨H, h1.below hb, h2, h3.trans (hb.mono h3.size)⟩
theorem RunD.cells {d d' : Dk} (h : RunD W w gp gd M d d') : w.cell? ⟨gp, 0, none⟩ = some (.pointer (some ⟨gd, 0, none⟩)) ∧ w.cell? ⟨gp, 2, none⟩ = some (.pointer (some ⟨M, 0, none⟩)) := by
  obtain ⟨H, h1, h2, h3⟩ := h
  exact h1.cells
theorem RunD.size {d d' : Dk} (h : RunD W w gp gd M d d') : Below W.heap.size W w := by
  obtain ⟨H, h1, h2, h3⟩ := h
  exact h3
theorem RunW.disks (h : RunW W w gp gd M i n) : ∃ d, RunD W w gp gd M d d ∧ d.safe.length = n ∧ d.waits.length ≤ 1100 * (i + 1) := by
  obtain ⟨H, d, o, h1, h2, h3, h4, h5, h6⟩ := h
  exact ⟨d, ⟨H, h1.disks.two, h2, h3⟩, h4, h5⟩
/-- A crash, with what is kept in a block made since. -/
theorem RunD.crash {d d' : Dk} (h : RunD W w gp gd M d d') (hwl : d.waits.length ≤ 1000000000) (w1 : World) (hb : Below w.heap.size w w1) (g nk ck : Nat) (ks : List Int) (hn : nk ≤ 9223372036854775807) (hg : w.heap.size ≤ g) (hks : RdI w1 w1.heap.size (some ⟨g, 0, none⟩) nk ks) :
    Calls Try.prog 14 #[.pointer (some ⟨gd, 0, none⟩), .slice (some ⟨g, 0, none⟩) nk ck] w1 fun e w2 => e = .returned (.tuple #[]) ∧ RunD W w2 gp gd M (d.crash ks) d' := by
  obtain ⟨H, h1, h2, h3⟩ := h
  have hlt := h1.lt
  refine ((h1.below hb).crash (some ⟨g, 0, none⟩) nk ck ks hn hwl hks (fun _ ad e hf => by injection e with e; subst e; have := hlt _ hf; simp only at this; omega)).mono ?_
  rintro e w2 ⟨rfl, H', q1, q2⟩
  have h4 := h3.trans (hb.mono h3.size)
  exact ⟨rfl, H', q1, q2.ge h4.size h2, h4.trans (q2.kp.below h2 h4.size)⟩
theorem RunD.rcrash {d d' : Dk} (h : RunD W w gp gd M d d') (hwl : d'.waits.length ≤ 1000000000) (w1 : World) (hb : Below w.heap.size w w1) (g nk ck : Nat) (ks : List Int) (hn : nk ≤ 9223372036854775807) (hg : w.heap.size ≤ g) (hks : RdI w1 w1.heap.size (some ⟨g, 0, none⟩) nk ks) :
    Calls Try.prog 15 #[.pointer (some ⟨M, 0, none⟩), .slice (some ⟨g, 0, none⟩) nk ck] w1 fun e w2 => e = .returned (.tuple #[]) ∧ RunD W w2 gp gd M d (d'.crash ks) := by
  obtain ⟨H, h1, h2, h3⟩ := h
  have hlt := h1.lt
  refine ((h1.below hb).rcrash (some ⟨g, 0, none⟩) nk ck ks hn hwl hks (fun _ ad e hf => by injection e with e; subst e; have := hlt _ hf; simp only at this; omega)).mono ?_
  rintro e w2 ⟨rfl, H', q1, q2⟩
  have h4 := h3.trans (hb.mono h3.size)
  exact ⟨rfl, H', q1, q2.ge h4.size h2, h4.trans (q2.kp.below h2 h4.size)⟩
/-- A sector, read on both. -/
theorem RunD.read {d d' : Dk} (h : RunD W w gp gd M d d') (a : Int) : Calls Try.prog 16 #[.pointer (some ⟨gd, 0, none⟩), .int .i64 a] w fun e w' => ∃ A n c r, e = .returned (.tuple #[.slice A n c, .int .i64 r]) ∧ Rd w' w'.heap.size A n (d.read a).1 ∧ Below w.heap.size w w' := by
  obtain ⟨H, ⟨F1, F2, vw, vr, h1, h2, h3, _⟩, _⟩ := h
  refine (read_meth gd d F1 a w h2).mono ?_
  rintro e w' ⟨A, c, rfl, ho, hb⟩
  exact ⟨A, _, c, _, rfl, Rd.of_own ho, hb⟩
theorem RunD.rread {d d' : Dk} (h : RunD W w gp gd M d d') (hwl : d'.waits.length ≤ 1000000000) (a : Int) : Calls Try.prog 17 #[.pointer (some ⟨M, 0, none⟩), .int .i64 a] w fun e w' => ∃ A n c r, e = .returned (.tuple #[.slice A n c, .int .i64 r]) ∧ Rd w' w'.heap.size A n (d'.read a).1 ∧ Below w.heap.size w w' := by
  obtain ⟨H, ⟨F1, F2, vw, vr, h1, h2, h3, _⟩, _⟩ := h
  refine (rread_any M d' F2 a w hwl h3).mono ?_
  rintro e w' ⟨A, c, rfl, hr, _, hb⟩
  exact ⟨A, _, c, _, rfl, hr, hb⟩
end
end Go.Proofs.Ytpfccbojllabjaa
