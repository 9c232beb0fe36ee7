/- The two Readers side by side; an argument that is a row of acts. -/
import Derived.Test.YtlnbebeghfhfdaaReaderN
import Derived.Test.YtlnbebeghfhfdaaLaw
import Derived.Test.YtlnbebeghfhfdaaFam
import Derived.Deep.Slices
import Derived.Deep.Fields
namespace Go.Proofs.Ytlnbebeghfhfdaa
open Go.ChangeShapes Go.WideShapes Go.ChangeAt Go.RowKit Go.Deep

/-- What both have: what the one has left is what stands behind the other's place; with an error nothing is left. -/
structure Par (l : List UInt8) (rem : List UInt8) (p err : Nat) : Prop where
  good : err = 0 → rem = l.drop p
  bad : err ≠ 0 → rem = []
  le : p ≤ l.length
  small : err ≤ 11

theorem Par.left {l rem : List UInt8} {p err : Nat} (h : Par l rem p err) : ((rem.length : Nat) : Int) = (if err ≠ 0 then 0 else ((l.length - p : Nat) : Int)) := by
  by_cases he : err = 0
  · rw [if_neg (by simp [he]), h.good he, List.length_drop]
  · rw [if_pos he, h.bad he]; rfl

theorem next_num (l rem : List UInt8) (p err : Nat) (hl : l.length ≤ 9223372036854775807) (h : Par l rem p err) :
    ∃ (v p' e' : Nat) (rem' : List UInt8), nextU rem err = (v, rem', e') ∧ nextUR l p err = (v, p', e') ∧ Par l rem' p' e' ∧ v < 18446744073709551616 := by
  unfold nextU nextUR
  by_cases he : err = 0
  · subst he
    have hr := h.good rfl
    subst hr
    have hp := h.le
    rw [if_neg (show ¬ ((0 : Nat) ≠ 0) by simp), if_neg (show ¬ ((0 : Nat) ≠ 0) by simp)]
    rcases uintAt_shift l p hl hp with ⟨v, k, h1, h2, hk1, hk2, hv⟩ | ⟨e, h1, h2, he1, he2⟩
    · rw [h1, h2]
      simp only [ne_eq, not_true_eq_false, if_false, Int.toNat_natCast, List.drop_drop]
      exact ⟨v, p + k, 0, _, rfl, rfl, ⟨fun _ => rfl, fun h => absurd rfl h, hk2, by omega⟩, hv⟩
    · rw [h1, h2]
      simp only
      rw [if_pos (by omega), if_pos (by omega), Int.toNat_natCast]
      exact ⟨0, p, e, [], rfl, rfl, ⟨by omega, fun _ => rfl, hp, he2⟩, by omega⟩
  · rw [if_pos he, if_pos he]
    exact ⟨0, p, err, rem, rfl, rfl, h, by omega⟩

theorem next_text (l rem : List UInt8) (p err : Nat) (most : Int) (hl : l.length ≤ 9223372036854775807) (h : Par l rem p err) :
    ∃ (t : List UInt8) (p' e' : Nat) (rem' : List UInt8), nextB rem err most = (t, rem', e') ∧ nextBR l p err most = (t, p', e') ∧ Par l rem' p' e' ∧ t.length ≤ l.length := by
  unfold nextB nextBR
  by_cases he : err = 0
  · subst he
    have hr := h.good rfl
    subst hr
    have hp := h.le
    rw [if_neg (show ¬ ((0 : Nat) ≠ 0) by simp), if_neg (show ¬ ((0 : Nat) ≠ 0) by simp)]
    rcases txtAt_shift l p most hl hp with ⟨t, k, h1, h2, hk1, hk2, hv⟩ | ⟨e, h1, h2, he1, he2⟩
    · rw [h1, h2]
      simp only [ne_eq, not_true_eq_false, if_false, Int.toNat_natCast, List.drop_drop]
      exact ⟨t, p + k, 0, _, rfl, rfl, ⟨fun _ => rfl, fun h => absurd rfl h, hk2, by omega⟩, hv⟩
    · rw [h1, h2]
      simp only
      rw [if_pos (by omega), if_pos (by omega), Int.toNat_natCast]
      exact ⟨[], p, e, [], rfl, rfl, ⟨by omega, fun _ => rfl, hp, he2⟩, by simp⟩
  · rw [if_pos he, if_pos he]
    exact ⟨[], p, err, rem, rfl, rfl, h, by simp⟩

/-- What reads in blocks below reads on where a block behind them has turned. -/
theorem BR.other {w w' : World} {R g n c err : Nat} {rem : List UInt8} {A : Option Addr} (h : BR w R rem err A n c) (hg : w.grownBy w' (some g)) (hlt : R < g) : BR w' R rem err A n c :=
  ⟨h.blk.grown hg (by intro e; injection e with e; omega), h.cap, h.rd.keep fun p hp => World.cell?_of_block (hg.block p.block (by have := h.blk.lt; omega) (fun e => by injection e with e; omega))⟩
/-- The other, where the bytes lie below what has turned. -/
theorem MR.other {w w0 w' : World} {M p err n c g : Nat} {l : List UInt8} {A : Option Addr} (h : MR w M l p err A n c) (hb : Below w0.heap.size w0 w) (h0 : Rd w0 w0.heap.size A n l) (hg : w.grownBy w' (some g)) (hne : M ≠ g) (hlt : w0.heap.size ≤ g) (hM : w0.heap.size ≤ M) : MR w' M l p err A n c :=
  ⟨h.blk.grown hg (by intro e; injection e with e; exact hne e), h.cap, (h0.below (hb.grown hg hb.size fun k hk => by injection hk with hk; omega)).more hM, h.le⟩
theorem Fam.turned {w w' : World} {base g : Nat} {vals : List Value} {ls : List (List UInt8)} (h : Fam w base vals ls) (hg : w.grownBy w' (some g)) (hlt : g < base) : Fam w' base vals ls :=
  ⟨h.len, fun i v hv => own_grown (h.each i v hv) hg hlt, h.apart⟩
/-- One list more, made behind all of them, by a call that turned a block ahead of them. -/
theorem Fam.push2 {w w' : World} {base g : Nat} {vals : List Value} {ls : List (List UInt8)} {v : Value} {l : List UInt8} (h : Fam w base vals ls) (hg : w.grownBy w' (some g)) (hlt : g < base) (hv : w'.ownsRow w.heap.size 5 1 v l.length (u8s l)) (hbase : base ≤ w.heap.size) :
    Fam w' base (vals ++ [v]) (ls ++ [l]) := by
  have h' := h.turned hg hlt
  have hl := h.len
  have hap : ∀ (i : Nat) (u : Value), vals[i]? = some u → Apart u v := by
    intro i u hu g hg hvg
    have h1 := ((h.each i u hu).lt g hg).2
    have h2 := (hv.lt g hvg).1
    omega
  refine ⟨by simp [hl], fun i u hu => ?_, fun i j u x hij hu hx => ?_⟩
  · rcases append_get hu with ⟨hi, hu⟩ | ⟨rfl, rfl⟩
    · have := h'.each i u hu
      have e : (ls ++ [l]).getD i [] = ls.getD i [] := by simp [List.getD, List.getElem?_append_left (show i < ls.length by omega)]
      rw [e]
      exact this
    · have e : (ls ++ [l]).getD vals.length [] = l := by simp [List.getD, hl]
      rw [e]
      exact own_mono hv hbase
  · rcases append_get hu with ⟨_, hu'⟩ | ⟨rfl, rfl⟩
    · rcases append_get hx with ⟨_, hx'⟩ | ⟨rfl, rfl⟩
      · exact h.apart i j u x hij hu' hx'
      · exact hap i u hu'
    · rcases append_get hx with ⟨_, hx'⟩ | ⟨rfl, rfl⟩
      · exact (hap j x hx').symm
      · exact absurd rfl hij

/-- A row of acts: each two cells. -/
def Acts (w : World) (B : Nat) (A : Option Addr) (n : Nat) (f : Nat → Bool × Int) : Prop :=
  0 < n → ∃ b o, A = some ⟨b, o, none⟩ ∧ b < B ∧ ∀ i, i < n → w.cell? ⟨b, o + i * 2, none⟩ = some (.bool (f i).1) ∧ w.cell? ⟨b, o + i * 2 + 1, none⟩ = some (.int .i64 (f i).2) ∧ -9223372036854775808 ≤ (f i).2 ∧ (f i).2 ≤ 9223372036854775807
theorem Acts.up {w w' : World} {B n : Nat} {A : Option Addr} {f : Nat → Bool × Int} (h : Acts w B A n f) (hb : Below B w w') : Acts w' B A n f := fun hn => by
  obtain ⟨b, o, rfl, hlt, hi⟩ := h hn
  refine ⟨b, o, rfl, hlt, fun i hi' => ?_⟩
  obtain ⟨h1, h2, h3⟩ := hi i hi'
  exact ⟨(World.cell?_of_block (hb.block b hlt)).trans h1, (World.cell?_of_block (hb.block b hlt)).trans h2, h3⟩

theorem given_acts {H : Type} {enc : TypeId × Value → H} {W : World} {base : Nat} {v : Value} {d : DataW H} {p : List MemPlace} (hv : Value.okWide Try.prog W .any base 56 v) (h : DataW.Trod enc Try.prog W 0 (fun _ => true) true 56 v d p) :
    ∃ (A : Option Addr) (n c : Nat) (f : Nat → Bool × Int), v = .slice A n c ∧ n ≤ c ∧ c ≤ 9223372036854775807 ∧ Acts W W.heap.size A n f := by
  obtain ⟨A, n, c, rfl⟩ := okWide_slice Try.underlying56 hv
  obtain ⟨fuel, hf⟩ := h
  rcases open_slice Try.underlying56 hf with ⟨hcs, _⟩ | ⟨a, len, cap, m, k, D, Pl, hcs, _, hl, hm, hmm, _, hi⟩
  · simp [Value.cells] at hcs
    obtain ⟨rfl, rfl, rfl⟩ := hcs
    exact ⟨none, 0, 0, fun _ => (false, 0), rfl, by omega, by omega, fun h => by omega⟩
  · simp [Value.cells] at hcs
    obtain ⟨rfl, rfl, rfl⟩ := hcs
    have hmm' : m = c := by simpa using hmm
    have key : ∀ i, ∃ x : Bool × Int, i < n → W.cell? (a.add (i * 2)) = some (.bool x.1) ∧ W.cell? (a.add (i * 2 + 1)) = some (.int .i64 x.2) ∧ -9223372036854775808 ≤ x.2 ∧ x.2 ≤ 9223372036854775807 := by
      intro i
      by_cases hin : i < n
      · obtain ⟨cs', hc, ht'⟩ := hi i (by omega)
        have hC : Try.prog.cellsOf 63 = 2 := by kernel_rfl
        rw [hC] at hc
        obtain ⟨ys, n', hn', hy, hlen, hyl, hff⟩ := DataW.trod_struct Try.underlying63 ht'
        obtain ⟨_, hcl, hat⟩ := World.cells?_some hc
        match cs', hcl with
        | [u0, u1], _ =>
          have hyl' : ys.length = 2 := hyl
          have e4 : Try.prog.cellsOf 4 = 1 := by kernel_rfl
          have e3 : Try.prog.cellsOf 3 = 1 := by kernel_rfl
          have f0 : DataW.trod enc Try.prog W 0 (fun _ => true) true n' 4 (List.take (Try.prog.cellsOf 4) (List.drop 0 [u0, u1])) = ys[0]? := hff 0 _ rfl
          have f1 : DataW.trod enc Try.prog W 0 (fun _ => true) true n' 3 (List.take (Try.prog.cellsOf 3) (List.drop 1 [u0, u1])) = ys[1]? := hff 1 _ rfl
          rw [List.getElem?_eq_getElem (by omega)] at f0 f1
          simp only [e4, e3, List.drop_zero, List.drop_succ_cons, List.take_succ_cons, List.take_zero] at f0 f1
          obtain ⟨b0, hb0, _⟩ := DataW.trod_bool Try.underlying4 f0
          obtain ⟨z1, hz1, _, hw1⟩ := DataW.trod_int Try.underlying3 f1
          have bz := bounds_i64 hw1
          injection hb0 with hb0
          injection hz1 with hz1
          have a0 := hat 0 (by omega)
          have a1 := hat 1 (by omega)
          rw [Go.Deep.add_add] at a0 a1
          rw [Nat.add_zero] at a0
          refine ⟨(b0, z1), fun _ => ⟨a0.trans (by rw [hb0]; rfl), a1.trans (by rw [hz1]; rfl), bz.1, bz.2⟩⟩
      · exact ⟨(false, 0), fun h => absurd h hin⟩
    obtain ⟨f, hf'⟩ := Classical.axiomOfChoice key
    refine ⟨some a, n, c, f, rfl, hl, by unfold maxLen at hm; omega, fun hn => ?_⟩
    obtain ⟨b, o, spot⟩ := a
    have hc0 := (hf' 0 hn).1
    have hspot : spot = none := by simpa [Addr.add] using World.cell?_spot hc0
    subst hspot
    refine ⟨b, o, rfl, World.block_lt_of_cell? W _ (by simpa [Addr.add] using hc0), fun i hi => ?_⟩
    obtain ⟨h1, h2, h3⟩ := hf' i hi
    rw [Addr.add_lit] at h1 h2
    exact ⟨h1, by rw [Nat.add_assoc]; exact h2, h3⟩
end Go.Proofs.Ytlnbebeghfhfdaa
