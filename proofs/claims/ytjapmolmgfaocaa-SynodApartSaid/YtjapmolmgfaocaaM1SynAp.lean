/- Of the proofs of layer 4, merged: SynAp. -/
import Derived.Test.YtjapmolmgfaocaaM1SynAq
import Derived.Test.YtjapmolmgfaocaaM1SynQ
import Derived.Test.YtjapmolmgfaocaaM1SynRo
import Derived.Deep.LoopGhost

/- SynodApart: three rooms, each its own. -/
namespace Go.Proofs.Ytjapmolmgfaocaa
open Go.ChangeShapes Go.WideShapes Go.ChangeAt Go.RowKit Go.Maps

structure Ap3 (W w : World) (B : Nat) (c1 c2 c3 : Nat → Nat) (g1 N1 g2 N2 g3 N3 : Nat) (r s t : Ro) : Prop where
  one : OwR W w c1 g1 N1 3 r
  two : OwR W w c2 g2 N2 3 s
  tri : OwR W w c3 g3 N3 3 t
  d12 : ∀ k, c1 k ≠ 0 → c2 k = 0
  d13 : ∀ k, c1 k ≠ 0 → c3 k = 0
  d23 : ∀ k, c2 k ≠ 0 → c3 k = 0
  lt : ∀ k, c1 k ≠ 0 ∨ c2 k ≠ 0 ∨ c3 k ≠ 0 → k < B
  bd : W.heap.size ≤ B ∧ B ≤ w.heap.size
def ApS (W w : World) (B g1 N1 g2 N2 g3 N3 : Nat) (r s : Ro) : Prop := ∃ c1 c2 c3 t, Ap3 W w B c1 c2 c3 g1 N1 g2 N2 g3 N3 r s t
section
variable {W w w' : World} {B g1 N1 g2 N2 g3 N3 : Nat} {r s t : Ro} {c1 c2 c3 : Nat → Nat}
theorem d_step {ca ca' cb : Nat → Nat} (hd : ∀ k, ca k ≠ 0 → cb k = 0) (hc : Cl ca ca' w w') (hl : ∀ k, cb k ≠ 0 → k < w.heap.size) : ∀ k, ca' k ≠ 0 → cb k = 0 := fun k hk => by
  by_cases h : k < w.heap.size
  · rw [hc.old k h] at hk; exact hd k hk
  · by_cases e : cb k = 0
    · exact e
    · have := hl k e; omega
theorem d_sym {ca cb : Nat → Nat} (hd : ∀ k, ca k ≠ 0 → cb k = 0) : ∀ k, cb k ≠ 0 → ca k = 0 := fun k hk => by
  by_cases e : ca k = 0
  · exact e
  · exact absurd (hd k e) hk
theorem own_step {ca ca' cb : Nat → Nat} {ga Na gb Nb : Nat} {x y : Ro} (ha : OwR W w ca ga Na 3 x) (hb : OwR W w cb gb Nb 3 y) (hd : ∀ k, ca k ≠ 0 → cb k = 0) (hc : Cl ca ca' w w') : OwR W w' cb gb Nb 3 y :=
  hb.kp hc.kp0 (fun k e => ha.ge k e) fun k e e2 => e (hd k e2)
theorem ApS.bel (h : ApS W w B g1 N1 g2 N2 g3 N3 r s) : Below W.heap.size W w := by
  obtain ⟨c1, c2, c3, t, h⟩ := h
  exact h.one.bel
theorem ApS.below (h : ApS W w B g1 N1 g2 N2 g3 N3 r s) (hb : Below w.heap.size w w') : ApS W w' B g1 N1 g2 N2 g3 N3 r s := by
  obtain ⟨c1, c2, c3, t, h⟩ := h
  exact ⟨c1, c2, c3, t, h.one.below hb, h.two.below hb, h.tri.below hb, h.d12, h.d13, h.d23, h.lt, h.bd.1, Nat.le_trans h.bd.2 hb.size⟩
theorem ApS.kp {G : Nat → Prop} (h : ApS W w B g1 N1 g2 N2 g3 N3 r s) (hk : Kp G w w') (hG : ∀ k, G k → B ≤ k) : ApS W w' B g1 N1 g2 N2 g3 N3 r s := by
  obtain ⟨c1, c2, c3, t, h⟩ := h
  have hg : ∀ k, G k → W.heap.size ≤ k := fun k e => Nat.le_trans h.bd.1 (hG k e)
  refine ⟨c1, c2, c3, t, h.one.kp hk hg fun k e e2 => ?_, h.two.kp hk hg fun k e e2 => ?_, h.tri.kp hk hg fun k e e2 => ?_, h.d12, h.d13, h.d23, h.lt, h.bd.1, Nat.le_trans h.bd.2 hk.size⟩
  · have := h.lt k (.inl e); have := hG k e2; omega
  · have := h.lt k (.inr (.inl e)); have := hG k e2; omega
  · have := h.lt k (.inr (.inr e)); have := hG k e2; omega
theorem ApS.bd (h : ApS W w B g1 N1 g2 N2 g3 N3 r s) : B ≤ w.heap.size := by
  obtain ⟨c1, c2, c3, t, h⟩ := h
  exact h.bd.2
theorem ApS.play1 (h : ApS W w B g1 N1 g2 N2 g3 N3 r s) (kd a : Int) (vA : Option Addr) (vn vc : Nat) (l : List UInt8) (hv : Rd w W.heap.size vA vn l) : Calls Try.prog 12 #[.pointer (some ⟨g1, 0, none⟩), .agg #[.int .i64 kd, .int .i64 a, .slice vA vn vc], .int .i64 3] w fun e w' => e = .returned (.tuple #[]) ∧ Hid (ApS W w' w'.heap.size g1 N1 g2 N2 g3 N3 (r.play kd a l 3) s) := by
  obtain ⟨c1, c2, c3, t, h⟩ := h
  refine (play_any h.one kd a vA vn vc l (Fr.given hv h.one.ge h.one.bel.size)).mono ?_
  rintro e w' ⟨rfl, hs⟩
  obtain ⟨c1', p1, p2⟩ := hs.out
  have h2 := own_step h.one h.two h.d12 p2
  have h3 := own_step h.one h.tri h.d13 p2
  refine ⟨rfl, Lib.hid ⟨c1', c2, c3, t, p1, h2, h3, d_step h.d12 p2 h.two.rm.lt, d_step h.d13 p2 h.tri.rm.lt, h.d23, fun k e => ?_, p1.bel.size, Nat.le_refl _⟩⟩
  rcases e with e | e | e
  · exact p1.rm.lt k e
  · exact h2.rm.lt k e
  · exact h3.rm.lt k e
theorem ApS.play2 (h : ApS W w B g1 N1 g2 N2 g3 N3 r s) (kd a : Int) (vA : Option Addr) (vn vc : Nat) (l : List UInt8) (hv : Rd w W.heap.size vA vn l) : Calls Try.prog 12 #[.pointer (some ⟨g2, 0, none⟩), .agg #[.int .i64 kd, .int .i64 a, .slice vA vn vc], .int .i64 3] w fun e w' => e = .returned (.tuple #[]) ∧ Hid (ApS W w' w'.heap.size g1 N1 g2 N2 g3 N3 r (s.play kd a l 3)) := by
  obtain ⟨c1, c2, c3, t, h⟩ := h
  refine (play_any h.two kd a vA vn vc l (Fr.given hv h.two.ge h.two.bel.size)).mono ?_
  rintro e w' ⟨rfl, hs⟩
  obtain ⟨c2', p1, p2⟩ := hs.out
  have h1 := own_step h.two h.one (d_sym h.d12) p2
  have h3 := own_step h.two h.tri h.d23 p2
  refine ⟨rfl, Lib.hid ⟨c1, c2', c3, t, h1, p1, h3, d_sym (d_step (d_sym h.d12) p2 h.one.rm.lt), h.d13, d_step h.d23 p2 h.tri.rm.lt, fun k e => ?_, p1.bel.size, Nat.le_refl _⟩⟩
  rcases e with e | e | e
  · exact h1.rm.lt k e
  · exact p1.rm.lt k e
  · exact h3.rm.lt k e
theorem ApS.play3 (h : ApS W w B g1 N1 g2 N2 g3 N3 r s) (kd a : Int) (vA : Option Addr) (vn vc : Nat) (l : List UInt8) (hv : Rd w W.heap.size vA vn l) : Calls Try.prog 12 #[.pointer (some ⟨g3, 0, none⟩), .agg #[.int .i64 kd, .int .i64 a, .slice vA vn vc], .int .i64 3] w fun e w' => e = .returned (.tuple #[]) ∧ Hid (ApS W w' w'.heap.size g1 N1 g2 N2 g3 N3 r s) := by
  obtain ⟨c1, c2, c3, t, h⟩ := h
  refine (play_any h.tri kd a vA vn vc l (Fr.given hv h.tri.ge h.tri.bel.size)).mono ?_
  rintro e w' ⟨rfl, hs⟩
  obtain ⟨c3', p1, p2⟩ := hs.out
  have h1 := own_step h.tri h.one (d_sym h.d13) p2
  have h2 := own_step h.tri h.two (d_sym h.d23) p2
  refine ⟨rfl, Lib.hid ⟨c1, c2, c3', _, h1, h2, p1, h.d12, d_sym (d_step (d_sym h.d13) p2 h.one.rm.lt), d_sym (d_step (d_sym h.d23) p2 h.two.rm.lt), fun k e => ?_, p1.bel.size, Nat.le_refl _⟩⟩
  rcases e with e | e | e
  · exact h1.rm.lt k e
  · exact h2.rm.lt k e
  · exact p1.rm.lt k e
/-- A letter, told. -/
def ApL (W w w' : World) (B g1 N1 g2 N2 g3 N3 : Nat) (r s : Ro) (m : Ml) (e : Ending) : Prop :=
  ∃ A c ok, e = .returned (.tuple #[.agg #[.int .i64 (m.kind : Int), .int .i64 (m.frm : Int), .int .i64 (m.dst : Int), .int .u64 (m.bal.n : Int), .int .i64 m.bal.node, .slice A m.votes.length c], .bool ok]) ∧ Hid (ApS W w' B g1 N1 g2 N2 g3 N3 r s) ∧ Hid (LkO w w' m.votes A c) ∧ Hid (m.votes.length ≤ 1)
theorem ApS.look1 (h : ApS W w B g1 N1 g2 N2 g3 N3 r s) (k : Nat) : Calls Try.prog 25 #[.pointer (some ⟨g1, 0, none⟩), .int .i64 (k : Int)] w fun e w' => ApL W w w' B g1 N1 g2 N2 g3 N3 r s (r.look k).1 e := by
  have h0 := h
  obtain ⟨c1, c2, c3, t, h⟩ := h
  refine (look_any h.one.rm (k : Int)).mono ?_
  rintro e w' ⟨A, c, rfl, hl⟩
  exact ⟨A, c, _, rfl, Lib.hid (h0.below hl.1), Lib.hid hl, Lib.hid (look_one_le h.one.rm.ok _)⟩
theorem ApS.look2 (h : ApS W w B g1 N1 g2 N2 g3 N3 r s) (k : Nat) : Calls Try.prog 25 #[.pointer (some ⟨g2, 0, none⟩), .int .i64 (k : Int)] w fun e w' => ApL W w w' B g1 N1 g2 N2 g3 N3 r s (s.look k).1 e := by
  have h0 := h
  obtain ⟨c1, c2, c3, t, h⟩ := h
  refine (look_any h.two.rm (k : Int)).mono ?_
  rintro e w' ⟨A, c, rfl, hl⟩
  exact ⟨A, c, _, rfl, Lib.hid (h0.below hl.1), Lib.hid hl, Lib.hid (look_one_le h.two.rm.ok _)⟩
/-- Bytes, told. -/
def OwnY (w w' : World) (A : Option Addr) (n c : Nat) : Prop := ∃ l, w'.ownsRow w.heap.size 5 1 (.slice A n c) n (u8s l) ∧ n ≤ 1000000
theorem ApS.learned (h : ApS W w B g1 N1 g2 N2 g3 N3 r s) (k : Nat) : Calls Try.prog 13 #[.pointer (some ⟨g1, 0, none⟩), .int .i64 (k : Int)] w fun e w' => ∃ A n c ok, e = .returned (.tuple #[.slice A n c, .bool ok]) ∧ Hid (Below w.heap.size w w') ∧ Hid (OwnY w w' A n c) := by
  obtain ⟨c1, c2, c3, t, h⟩ := h
  refine (h.one.learned (k : Int)).mono ?_
  rintro e w' ⟨A, c, rfl, hs⟩
  refine ⟨A, _, c, _, rfl, Lib.hid hs.out.1, Lib.hid ⟨_, hs.out.2.2, ?_⟩⟩
  unfold Ro.learned
  split
  · rename_i hh
    have := (h.one.rm.ok.nodes _ (Ro.node_mem (Ro.has_iff.1 hh).2)).len
    show (r.node (k : Int).toNat).learned.length ≤ _
    omega
  · exact Nat.zero_le _
theorem ApS.voted (h : ApS W w B g1 N1 g2 N2 g3 N3 r s) (k : Nat) : Calls Try.prog 16 #[.pointer (some ⟨g1, 0, none⟩), .int .i64 (k : Int)] w fun e w' => ∃ (b : Bl) (sl bn : Nat) (bd : Int) (A : Option Addr) (n c : Nat), e = .returned (.tuple #[.agg #[.int .u64 (b.n : Int), .int .i64 b.node], .agg #[.int .u64 (sl : Int), .int .u64 (bn : Int), .int .i64 bd, .slice A n c]]) ∧ Hid (Below w.heap.size w w') ∧ Hid (OwnY w w' A n c) := by
  obtain ⟨c1, c2, c3, t, h⟩ := h
  refine (h.one.voted (k : Int)).mono ?_
  rintro e w' ⟨A, c, rfl, hs⟩
  refine ⟨_, _, _, _, A, _, c, rfl, Lib.hid hs.out.1, Lib.hid ⟨_, hs.out.2.2, ?_⟩⟩
  unfold Ro.voted
  split
  · rename_i hh
    rcases (h.one.rm.ok.nodes _ (Ro.node_mem (Ro.has_iff.1 hh).2)).vote with e | e
    · show (r.node (k : Int).toNat).vote.val.length ≤ _
      rw [e]; exact Nat.zero_le _
    · have := e.len
      show (r.node (k : Int).toNat).vote.val.length ≤ _
      omega
  · exact Nat.zero_le _
theorem ApS.len1 (h : ApS W w B g1 N1 g2 N2 g3 N3 r s) : Calls Try.prog 19 #[.pointer (some ⟨g1, 0, none⟩)] w fun e w' => e = .returned (.int .i64 (r.row.length : Int)) ∧ w = w' := by
  obtain ⟨c1, c2, c3, t, h⟩ := h
  exact h.one.len
theorem ApS.len2 (h : ApS W w B g1 N1 g2 N2 g3 N3 r s) : Calls Try.prog 19 #[.pointer (some ⟨g2, 0, none⟩)] w fun e w' => e = .returned (.int .i64 (s.row.length : Int)) ∧ w = w' := by
  obtain ⟨c1, c2, c3, t, h⟩ := h
  exact h.two.len
theorem ApS.most (h : ApS W w B g1 N1 g2 N2 g3 N3 r s) : r.row.length ≤ 200 := by
  obtain ⟨c1, c2, c3, t, h⟩ := h
  exact h.one.rm.ok.most
end
/-! ### the start -/
def Ap1 (W w : World) (g1 N1 : Nat) : Prop := ∃ c1, OwR W w c1 g1 N1 3 (Ro.new kq11)
def Ap2 (W w : World) (g1 N1 g2 N2 : Nat) : Prop := ∃ c1 c2, OwR W w c1 g1 N1 3 (Ro.new kq11) ∧ OwR W w c2 g2 N2 3 (Ro.new kq11) ∧ ∀ k, c1 k ≠ 0 → c2 k = 0
/-- New, in any world. -/
def NewP (w : World) (e : Ending) (w' : World) : Prop := ∃ g N col, e = .returned (.tuple #[.pointer (some ⟨g, 0, none⟩), .int .i64 0]) ∧ OwR w w' col g N 3 (Ro.new kq11)
theorem newP_any (w : World) : Calls Try.prog 23 #[.agg #[.int .i64 1, .int .i64 3, .int .i64 2, .int .i64 2, .slice none 0 0]] w (NewP w) := by
  refine (OwR.new kq11 none 0 0 w w (Below.refl _ _) (qi_kq11 w) kq11_right (by decide)).mono ?_
  rintro e w' ⟨g, N, col, rfl, h⟩
  exact ⟨g, N, col, rfl, h⟩
theorem OwR.base {W w w' : World} {col : Nat → Nat} {g N n : Nat} {r : Ro} (h : OwR w w' col g N n r) (hb : Below W.heap.size W w) : OwR W w' col g N n r := ⟨h.rm, fun k hk => Nat.le_trans hb.size (h.ge k hk), below_then hb h.bel⟩
theorem Ap1.next {W w w' : World} {g1 N1 g2 N2 : Nat} {col : Nat → Nat} (h : Ap1 W w g1 N1) (k : OwR w w' col g2 N2 3 (Ro.new kq11)) : Ap2 W w' g1 N1 g2 N2 := by
  obtain ⟨c1, h1⟩ := h
  refine ⟨c1, col, h1.below k.bel, k.base h1.bel, fun j hj => ?_⟩
  by_cases e : col j = 0
  · exact e
  · have := h1.rm.lt j hj; have := k.ge j e; omega
theorem Ap1.below {W w w' : World} {g1 N1 : Nat} (h : Ap1 W w g1 N1) (hb : Below w.heap.size w w') : Ap1 W w' g1 N1 := by
  obtain ⟨c1, h1⟩ := h
  exact ⟨c1, h1.below hb⟩
theorem Ap2.below {W w w' : World} {g1 N1 g2 N2 : Nat} (h : Ap2 W w g1 N1 g2 N2) (hb : Below w.heap.size w w') : Ap2 W w' g1 N1 g2 N2 := by
  obtain ⟨c1, c2, h1, h2, h3⟩ := h
  exact ⟨c1, c2, h1.below hb, h2.below hb, h3⟩
theorem Ap2.next {W w w' : World} {g1 N1 g2 N2 g3 N3 : Nat} {col : Nat → Nat} (h : Ap2 W w g1 N1 g2 N2) (k : OwR w w' col g3 N3 3 (Ro.new kq11)) : ApS W w' w'.heap.size g1 N1 g2 N2 g3 N3 (Ro.new kq11) (Ro.new kq11) := by
  obtain ⟨c1, c2, h1, h2, h3⟩ := h
  have q1 := h1.below k.bel
  have q2 := h2.below k.bel
  have q3 := k.base h1.bel
  refine ⟨c1, c2, col, _, q1, q2, q3, h3, fun j hj => ?_, fun j hj => ?_, fun j e => ?_, q1.bel.size, Nat.le_refl _⟩
  · by_cases e : col j = 0
    · exact e
    · have := h1.rm.lt j hj; have := k.ge j e; omega
  · by_cases e : col j = 0
    · exact e
    · have := h2.rm.lt j hj; have := k.ge j e; omega
  · rcases e with e | e | e
    · exact q1.rm.lt j e
    · exact q2.rm.lt j e
    · exact q3.rm.lt j e
end Go.Proofs.Ytjapmolmgfaocaa
