/- Of the proofs of layer 4, merged: SynEo. -/
import Derived.Test.YtjapmolmgfaocaaM1SynEn
import Derived.Deep.LoopGhost

/- SynodEnds: what the law keeps: the calls that are told. -/
namespace Go.Proofs.Ytjapmolmgfaocaa
open Go.RowKit Go.Maps

section
variable {W w w' : World} {g N : Nat} {q : Qm} {o S k j D : Nat} {won : Bool} {vA : Option Addr} {vn : Nat}
theorem EnA.mono {S T : Nat} (h : EnA W w g N q S D) (hs : S ≤ T) : EnA W w g N q T D := by
  obtain ⟨col, r, x, h1, h2, h3, h4, h5⟩ := h
  exact ⟨col, r, x, h1, h2, h3, h4.mono hs, h5⟩
/-- The node knows. -/
def EnKn (W w : World) (g N : Nat) (q : Qm) (o S k : Nat) (won : Bool) (vA : Option Addr) (vn : Nat) : Prop :=
  ∃ col r x, OwR W w col g N q.n r ∧ EnP q r x o S k ∧ EnV w col q x won vA vn ∧ (r.node o).knows = true
def EnK (W w : World) (g N : Nat) (q : Qm) (o S k : Nat) : Prop := EnKn W w g N q o S k false none 0
theorem EnR.knows (h : EnR W w g N q o S k won vA vn) (hk : 60 < k) : EnKn W w g N q o S k won vA vn := by
  obtain ⟨col, r, x, h1, h2, h3⟩ := h
  exact ⟨col, r, x, h1, h2, h3, h2.kn hk⟩
theorem EnP.learned {r : Ro} {x : Gh} (h2 : EnP q r x o S k) : r.learned (o : Int) = ((r.node o).learned, (r.node o).knows) := by
  have hh : r.has (o : Int) = true := Ro.has_iff.2 ⟨by omega, by rw [Int.toNat_natCast]; exact h2.oi⟩
  unfold Ro.learned
  rw [if_pos hh, Int.toNat_natCast]
theorem EnV.below {col : Nat → Nat} {x : Gh} (h : EnV w col q x won vA vn) (hb : Below w.heap.size w w') : EnV w' col q x won vA vn := fun e => by
  obtain ⟨u, hu, hf⟩ := h e
  exact ⟨u, hu, hf.below hb⟩
theorem EnR.learned2 (h : EnR W w g N q o S k false none 0) : Calls Try.prog 13 #[.pointer (some ⟨g, 0, none⟩), .int .i64 (o : Int)] w fun e w' => ∃ A n c ok, e = .returned (.tuple #[.slice A n c, .bool ok]) ∧ Hid (EnR W w' g N q o S k false none 0) ∧ Hid (ok = true → EnK W w' g N q o S k) := by
  obtain ⟨col, r, x, h1, h2, h3⟩ := h
  refine (h1.learned (o : Int)).mono ?_
  rintro e w' ⟨A, c, rfl, hs⟩
  have hl := EnP.learned h2
  have hx := hs.out
  rw [hl] at hx ⊢
  exact ⟨A, _, c, _, rfl, Lib.hid ⟨col, r, x, h1.below hx.1, h2, h3.below hx.1⟩, Lib.hid fun e => ⟨col, r, x, h1.below hx.1, h2, h3.below hx.1, e⟩⟩
theorem EnK.learned (h : EnK W w g N q o S k) : Calls Try.prog 13 #[.pointer (some ⟨g, 0, none⟩), .int .i64 (o : Int)] w fun e w' => ∃ A n c, e = .returned (.tuple #[.slice A n c, .bool true]) ∧ Hid (EnR W w' g N q o S k true A n) := by
  obtain ⟨col, r, x, h1, h2, h3, h4⟩ := h
  refine (h1.learned (o : Int)).mono ?_
  rintro e w' ⟨A, c, rfl, hs⟩
  have hl := EnP.learned h2
  have hx := hs.out
  rw [hl] at hx ⊢
  have hc := h2.pi.lrn o h4
  rw [h2.q] at hc
  exact ⟨A, _, c, by rw [h4], Lib.hid ⟨col, r, x, h1.below hx.1, h2, fun _ => ⟨_, hc, hx.2.1⟩⟩⟩
theorem EnKn.learned2 (h : EnKn W w g N q o S k true vA vn) (vc : Nat) : Calls Try.prog 13 #[.pointer (some ⟨g, 0, none⟩), .int .i64 (o : Int)] w fun e w' => ∃ A n c, e = .returned (.tuple #[.slice A n c, .bool true]) ∧ Hid (Calls Try.prog 14 #[.slice vA vn vc, .slice A n c] w' fun e w'' => e = .returned (.bool true) ∧ w' = w'') ∧ Hid (Below W.heap.size W w') := by
  obtain ⟨col, r, x, h1, h2, h3, h4⟩ := h
  refine (h1.learned (o : Int)).mono ?_
  rintro e w' ⟨A, c, rfl, hs⟩
  have hl := EnP.learned h2
  have hx := hs.out
  rw [hl] at hx ⊢
  have hc := h2.pi.lrn o h4
  obtain ⟨u, hu, hf⟩ := h3.below hx.1 rfl
  rw [← h2.q] at hu
  have he := Chosen.one h2.pi hu hc
  refine ⟨A, _, c, by rw [h4], Lib.hid ?_, Lib.hid (h1.below hx.1).bel⟩
  refine (same_any vA A vn _ vc c _ _ u (r.node o).learned w' hf.rd hx.2.1.rd).mono ?_
  rintro e w'' ⟨rfl, rfl⟩
  exact ⟨by rw [he]; simp, rfl⟩
def otherL : List UInt8 := [111, 116, 104, 101, 114]
theorem EnR.startOther (h : EnR W w g N q o S k won vA vn) (hS : S ≤ 1000) (hn : q.n ≤ 12) (gb : Nat) (hgb : gb = w.heap.size) : Calls Try.prog 21 #[.pointer (some ⟨g, 0, none⟩), .int .i64 (o : Int), .slice (some ⟨gb, 0, none⟩) 5 5] (w.alloc (.cells #[.int .u8 111, .int .u8 116, .int .u8 104, .int .u8 101, .int .u8 114] 5 (5, 6))) fun e w' => (∃ (bn : Nat) (bd E : Int), e = .returned (.tuple #[.agg #[.int .u64 (bn : Int), .int .i64 bd], .int .i64 E])) ∧ Hid (∃ ln, EnT W w' g N q o (S + 1) k 0 won vA vn ln) := by
  subst hgb
  obtain ⟨col, r, x, h1, h2, h3⟩ := h
  have hb : Below w.heap.size w (w.alloc (.cells #[.int .u8 111, .int .u8 116, .int .u8 104, .int .u8 101, .int .u8 114] 5 (5, 6))) := bel1P _
  have hc : col w.heap.size = 0 := by
    by_cases e : col w.heap.size = 0
    · exact e
    · have := h1.rm.lt _ e
      omega
  have hf : Fr (w.alloc (.cells #[.int .u8 111, .int .u8 116, .int .u8 104, .int .u8 101, .int .u8 114] 5 (5, 6))) col (some ⟨w.heap.size, 0, none⟩) otherL.length otherL := ⟨rfl, fun _ => ⟨w.heap.size, 0, rfl, hc, by simp, fun j hj => by
    have hj' : j = 0 ∨ j = 1 ∨ j = 2 ∨ j = 3 ∨ j = 4 := by simp [otherL] at hj; omega
    rcases hj' with rfl | rfl | rfl | rfl | rfl <;> (rw [World.cell?_alloc_mark]; rfl)⟩⟩
  exact EnR.startCore (h1.below hb) h2 (h3.below hb) hS hn _ 5 otherL (by decide) hf
end
end Go.Proofs.Ytjapmolmgfaocaa
