/- The law's round: what holds ahead of each, and what a text or a number makes of it. -/
import Derived.Test.YtlnbebeghfhfdaaReaderL
import Derived.BigQuiet
import Derived.Deep.QuietTactic
namespace Go.Proofs.Ytlnbebeghfhfdaa
open Go.ChangeShapes Go.WideShapes Go.ChangeAt Go.RowKit

/-- What holds ahead of each round. -/
structure Round (w wr : World) (base R M n c : Nat) (l : List UInt8) (A At : Option Addr) (K cK p err n' c' : Nat) (A' : Option Addr) (rem : List UInt8) (vals : List Value) (ls : List (List UInt8)) : Prop where
  br : BR wr R rem err A' n' c'
  mr : MR wr M l p err A n c
  par : Par l rem p err
  told : wr.ownsRow base 24 1 (.slice At K cK) K vals
  len : vals.length = K
  fam : Fam wr base vals ls
  small : ∀ x ∈ ls, x.length ≤ 4096
  below : Below w.heap.size w wr
  size : base ≤ wr.heap.size
  rlt : R < M
  mlt : M < base
  rge : w.heap.size ≤ R

section
variable {w wr w1 w2 w3 : World} {base R M n c : Nat} {l : List UInt8} {A At : Option Addr} {K cK p err n' c' : Nat} {A' : Option Addr} {rem : List UInt8} {vals : List Value} {ls : List (List UInt8)}
variable {p' e' n1 c1 : Nat} {A1 : Option Addr} {rem' : List UInt8}

theorem Round.n_le (H : Round w wr base R M n c l A At K cK p err n' c' A' rem vals ls) : n' ≤ n := by
  have h1 := H.br.rd.1
  have h2 := H.mr.rd.1
  by_cases he : err = 0
  · have := H.par.good he
    subst this
    rw [List.length_drop] at h1
    omega
  · have := H.par.bad he
    subst this
    simp at h1
    omega

theorem Round.mr1 (H : Round w wr base R M n c l A At K cK p err n' c' A' rem vals ls) (h0 : Rd w w.heap.size A n l) (hg : wr.grownBy w1 (some R)) : MR w1 M l p err A n c :=
  H.mr.other H.below h0 hg (by have := H.rlt; omega) H.rge (by have := H.rlt; have := H.rge; omega)

theorem Round.num (H : Round w wr base R M n c l A At K cK p err n' c' A' rem vals ls) (hb : BR w1 R rem' e' A1 n1 c1) (hg1 : wr.grownBy w1 (some R)) (hm : MR w2 M l p' e' A n c) (hg2 : w1.grownBy w2 (some M)) (hp : Par l rem' p' e') :
    Round w w2 base R M n c l A At K cK p' e' n1 c1 A1 rem' vals ls := by
  have h1 := H.rlt
  have h2 := H.mlt
  have h3 := H.rge
  have b1 := H.below.grown hg1 H.below.size fun k hk => by injection hk with hk; omega
  exact ⟨hb.other hg2 h1, hm, hp, own_grown (own_grown H.told hg1 (by omega)) hg2 h2, H.len, (H.fam.turned hg1 (by omega)).turned hg2 h2, H.small, b1.grown hg2 b1.size fun k hk => by injection hk with hk; omega,
    Nat.le_trans H.size (Nat.le_trans hg1.size hg2.size), h1, h2, h3⟩

theorem Round.text (H : Round w wr base R M n c l A At K cK p err n' c' A' rem vals ls) {s v' : Value} {t : List UInt8} {o : Obj} (hos : w1.ownsRow wr.heap.size 5 1 s t.length (u8s t)) (hb : BR w1 R rem' e' A1 n1 c1) (hg1 : wr.grownBy w1 (some R)) (hm : MR w2 M l p' e' A n c) (hg2 : w1.grownBy w2 (some M)) (hp : Par l rem' p' e')
    (ht : t.length ≤ 4096) (ha : App (w2.alloc o) w3 base 24 1 (.slice At K cK) v' K 1 vals [s]) :
    ∃ At' cK', v' = .slice At' (K + 1) cK' ∧ Round w w3 base R M n c l A At' (K + 1) cK' p' e' n1 c1 A1 rem' (vals ++ [s]) (ls ++ [t]) := by
  have h1 := H.rlt
  have h2 := H.mlt
  have h3 := H.rge
  have hsz := Nat.le_trans H.size (Nat.le_trans hg1.size hg2.size)
  have H2 := H.num hb hg1 hm hg2 hp
  obtain ⟨At', cK', rfl, _⟩ := own_shape ha.own
  have hown := own_block_ge H2.told
  have bA : Below base w2 w3 := ha.below ((Below.refl base w2).alloc hsz o) (by simp; omega) hown
  have F2 : Fam w2 base (vals ++ [s]) (ls ++ [t]) := (H.fam.push2 hg1 (by omega) hos H.size).turned hg2 h2
  have F3 := F2.up ((Below.refl w2.heap.size w2).alloc (Nat.le_refl _) o)
  have F4 := F3.grown ha.grow fun i v hv => own_types_ne (F3.each i v hv) (H2.told.alloc o) (by decide)
  exact ⟨At', cK', rfl, H2.br.below bA (by omega), H2.mr.below bA h2, hp, ha.own, by simp [H.len], F4, fun x hx => by
      rcases List.mem_append.1 hx with hx | hx
      · exact H.small x hx
      · rw [List.mem_singleton.1 hx]; exact ht,
    H2.below.trans (bA.mono (by have := H.below.size; omega)), Nat.le_trans hsz bA.size, h1, h2, h3⟩

theorem Round.drewN (H : Round w wr base R M n c l A At K cK p err n' c' A' rem vals ls) (q : Nat) : Round w (wr.drewN q) base R M n c l A At K cK p err n' c' A' rem vals ls :=
  ⟨⟨H.br.blk, H.br.cap, H.br.rd⟩, H.mr.drewN q, H.par, H.told, H.len, ⟨H.fam.len, H.fam.each, H.fam.apart⟩, H.small, ⟨H.below.os, H.below.tape, H.below.output, H.below.size, H.below.block⟩, H.size, H.rlt, H.mlt, H.rge⟩
/-- Own of what was told. -/
theorem Round.own (H : Round w wr base R M n c l A At K cK p err n' c' A' rem vals ls) (hK : K ≤ 60) (w1 : World) (hb : Below wr.heap.size wr w1) :
    Calls Try.prog 18 #[.slice At K cK] w1 fun e w' => e = .returned (.bool true) ∧ Below w.heap.size w w' := by
  have hl := H.len
  have ht := own_below H.told hb fun k hk => (H.told.lt k hk).2
  have := (H.fam.up hb).own (A := At) (K := K) (c := cK) (by rw [hl]; exact ht) hl (by have := H.size; have := hb.size; omega) (by omega) (fun x hx => by have := H.small x hx; omega)
  refine this.mono fun e w' ⟨h1, h2⟩ => ⟨h1, ?_⟩
  have h3 := H.rlt
  have h4 := H.mlt
  have h5 := H.rge
  exact (below_then H.below hb).trans (h2.mono (by omega))

/-- What the round asks of both at its end. -/
theorem Round.left1 (H : Round w wr base R M n c l A At K cK p err n' c' A' rem vals ls) (q : Nat) :
    Calls Try.prog 38 #[.pointer (some ⟨R, 0, none⟩)] (wr.drewN q) fun e w' => e = .returned (.int .i64 n') ∧ w' = wr.drewN q :=
  (left_any R A' n' c' _ (wr.drewN q) H.br.blk).mono fun _ _ ⟨h1, h2⟩ => ⟨h1, h2.symm⟩
theorem Round.err1 (H : Round w wr base R M n c l A At K cK p err n' c' A' rem vals ls) (q : Nat) :
    Calls Try.prog 40 #[.pointer (some ⟨R, 0, none⟩)] (wr.drewN q) fun e w' => e = .returned (.int .i64 err) ∧ w' = wr.drewN q :=
  (err_any R _ err (wr.drewN q) H.br.blk).mono fun _ _ ⟨h1, h2⟩ => ⟨h1, h2.symm⟩
theorem Round.left2 (H : Round w wr base R M n c l A At K cK p err n' c' A' rem vals ls) (q : Nat) :
    Calls Try.prog 39 #[.pointer (some ⟨M, 0, none⟩)] (wr.drewN q) fun e w' => e = .returned (.int .i64 n') ∧ ∃ m, w' = (wr.drewN q).drewN m := by
  have h1 := H.par.left
  have h2 := H.mr.rd.1
  have h3 := H.br.rd.1
  rw [h3, h2] at h1
  have := rleft_meth M A n c p err l (wr.drewN q) (H.mr.drewN q)
  rwa [← h1] at this
end
end Go.Proofs.Ytlnbebeghfhfdaa
