/- OnceSaves: two tables that remember the same. -/
import Derived.Test.YtonkohbmknopmaaOnLo
import Derived.Test.YtonkohbmknopmaaOnKn
import Derived.Test.YtonkohbmknopmaaSame
namespace Go.Proofs.Ytonkohbmknopmaa
open Go.ChangeShapes Go.WideShapes Go.ChangeAt Go.RowKit Go.Maps

structure Like (t u : Tb) : Prop where
  most : t.most = u.most
  row : t.row = u.row
theorem Like.begin {t u : Tb} (h : Like t u) (id num : Nat) : (t.begin id num).kind = (u.begin id num).kind ∧ (t.begin id num).rep = (u.begin id num).rep ∧ (t.begin id num).err = (u.begin id num).err ∧ Like (t.begin id num).tb (u.begin id num).tb := by
  obtain ⟨m, r, nb, na⟩ := t
  obtain ⟨m', r', nb', na'⟩ := u
  obtain ⟨rfl, rfl⟩ : m = m' ∧ r = r' := ⟨h.most, h.row⟩
  unfold Tb.begin Tb.at_ Tb.fresh
  dsimp only
  by_cases h0 : num = 0
  · simp only [if_pos h0]; exact ⟨trivial, trivial, trivial, rfl, rfl⟩
  simp only [if_neg h0]
  cases findC id r with
  | some k =>
    dsimp only
    by_cases h1 : num < (r.getD k Cl.none).num
    · simp only [if_pos h1]; exact ⟨trivial, trivial, trivial, rfl, rfl⟩
    simp only [if_neg h1]
    by_cases h2 : (r.getD k Cl.none).num < num
    · simp only [if_pos h2]; exact ⟨trivial, trivial, trivial, rfl, rfl⟩
    simp only [if_neg h2]
    cases (r.getD k Cl.none).busy with
    | true => exact ⟨rfl, rfl, rfl, rfl, rfl⟩
    | false => exact ⟨rfl, rfl, rfl, rfl, rfl⟩
  | none =>
    dsimp only
    by_cases h1 : r.length < m
    · simp only [if_pos h1]; exact ⟨trivial, trivial, trivial, rfl, rfl⟩
    simp only [if_neg h1]
    cases freeC r with
    | some k => exact ⟨rfl, rfl, rfl, rfl, rfl⟩
    | none => exact ⟨rfl, rfl, rfl, rfl, rfl⟩
theorem Like.ended {t u : Tb} (h : Like t u) (id num : Nat) (rep : List UInt8) : (t.ended id num rep).1 = (u.ended id num rep).1 ∧ Like (t.ended id num rep).2 (u.ended id num rep).2 := by
  obtain ⟨m, r, nb, na⟩ := t
  obtain ⟨m', r', nb', na'⟩ := u
  obtain ⟨rfl, rfl⟩ : m = m' ∧ r = r' := ⟨h.most, h.row⟩
  unfold Tb.ended Tb.at_
  dsimp only
  by_cases h0 : 200 < rep.length
  · simp only [if_pos h0]; exact ⟨trivial, rfl, rfl⟩
  simp only [if_neg h0]
  cases findC id r with
  | some k =>
    dsimp only
    by_cases h1 : (r.getD k Cl.none).num = num ∧ (r.getD k Cl.none).busy = true
    · simp only [if_pos h1]; exact ⟨trivial, rfl, rfl⟩
    · simp only [if_neg h1]; exact ⟨trivial, rfl, rfl⟩
  | none => exact ⟨rfl, rfl, rfl⟩
theorem Like.enc {t u : Tb} (h : Like t u) : encT t = encT u := by unfold encT; rw [h.most, h.row]
/-- One table. -/
def SvA (W : World) (g : Nat) (w : World) : Prop := ∃ F t, OW W w F g t
/-- Two that remember the same. -/
def SvB (W : World) (g g2 : Nat) (w : World) : Prop := ∃ F F2 t u, OW W w F g t ∧ OW W w F2 g2 u ∧ (∀ k, F k → ¬ F2 k) ∧ Like t u
section
variable {W w w' : World} {g g2 : Nat}
theorem SvA.bel (h : SvA W g w) : Below W.heap.size W w := by obtain ⟨F, t, h⟩ := h; exact h.bel
theorem SvB.bel (h : SvB W g g2 w) : Below W.heap.size W w := by obtain ⟨F, F2, t, u, h, _⟩ := h; exact h.bel
def AnyA (W : World) (g : Nat) (e : Ending) (w' : World) : Prop := ∃ v, e = .returned v ∧ Hid (SvA W g w')
theorem SvA.begin (h : SvA W g w) (id num : Nat) (hid : id < 18446744073709551616) (hnum : num < 18446744073709551616) (ty : TypeId) (cs : Array Value) : Calls Try.prog 13 #[.pointer (some ⟨g, 0, none⟩), .int .u64 (id : Int), .int .u64 (num : Int)] (w.alloc (.cells cs ty)) (AnyA W g) := by
  obtain ⟨F, t, h⟩ := h
  refine ((h.below (bel1N w (.cells cs ty))).begin id num hid hnum).mono ?_
  rintro e w' ⟨A, c, rfl, HX⟩
  obtain ⟨F', ho, _⟩ := HX.out
  exact ⟨_, rfl, Lib.hid ⟨F', _, ho⟩⟩
theorem SvA.ended (h : SvA W g w) (id num : Nat) (hid : id < 18446744073709551616) (A : Option Addr) (n c0 : Nat) (rep : List UInt8) (hr : Rd W W.heap.size A n rep) (hcap : n ≤ c0 ∧ c0 ≤ maxLen) (hn : n ≤ 1000000) (ty : TypeId) (cs : Array Value) : Calls Try.prog 18 #[.pointer (some ⟨g, 0, none⟩), .int .u64 (id : Int), .int .u64 (num : Int), .slice A n c0] (w.alloc (.cells cs ty)) (AnyA W g) := by
  obtain ⟨F, t, h⟩ := h
  have hb := h.below (bel1N w (.cells cs ty))
  refine (hb.ended id num hid A n c0 rep (RdA.old hb (hr.below hb.bel) hcap) hn).mono ?_
  rintro e w' ⟨rfl, HX⟩
  obtain ⟨F', ho, _⟩ := HX.out
  exact ⟨_, rfl, Lib.hid ⟨F', _, ho⟩⟩
def BgP (W : World) (g g2 id num bx : Nat) (ty : TypeId) (cs : Array Value) (e : Ending) (w1 : World) : Prop :=
  ∃ A c k er m, e = .returned (.tuple #[.int .i64 k, .slice A m c, .int .i64 er]) ∧ Hid (Bk w1 bx ty cs) ∧
    Hid (Calls Try.prog 13 #[.pointer (some ⟨g2, 0, none⟩), .int .u64 (id : Int), .int .u64 (num : Int)] w1 fun e2 w2 => ∃ A2 c2, e2 = .returned (.tuple #[.int .i64 k, .slice A2 m c2, .int .i64 er]) ∧ Hid (SvB W g g2 w2 ∧ ∃ l, Rd w2 w2.heap.size A m l ∧ Rd w2 w2.heap.size A2 m l))
theorem SvB.begin (h : SvB W g g2 w) (id num : Nat) (hid : id < 18446744073709551616) (hnum : num < 18446744073709551616) (ty : TypeId) (cs : Array Value) : Calls Try.prog 13 #[.pointer (some ⟨g, 0, none⟩), .int .u64 (id : Int), .int .u64 (num : Int)] (w.alloc (.cells cs ty)) (BgP W g g2 id num w.heap.size ty cs) := by
  obtain ⟨F, F2, t, u, h1, h2, hd, hl⟩ := h
  have hb0 := bel1N w (.cells cs ty)
  have hbx := Bk.new w ty cs
  have h1b := h1.below hb0
  have h2b := h2.below hb0
  refine (h1b.begin id num hid hnum).mono ?_
  rintro e w1 ⟨A, c, rfl, HX⟩
  obtain ⟨F', ho, hm, hown, hr⟩ := HX.out
  obtain ⟨l1, l2, l3, l4⟩ := hl.begin id num
  have ho2 : OW W w1 F2 g2 u := h2b.kp hm.kp (fun k a b => hd k b a) h1.new
  have hd' : ∀ k, F' k → ¬ F2 k := fun k a b => by
    rcases hm.new k a with h' | h'
    · exact hd k h' b
    · have := h2b.p.lt k b; omega
  have hrF2 : RdF w1 (fun k => ¬ F2 k) (A, (t.begin id num).rep.length, c) (t.begin id num).rep := (RdF.of_own (s := (A, (t.begin id num).rep.length, c)) hown).mono fun k e hf => by
    have := (hown.lt k e).1
    have := h2b.p.lt k hf
    omega
  refine ⟨A, c, _, _, _, rfl, Lib.hid (hbx.kp hm.kp (fun hf => by have := h1.p.lt _ hf; omega)), Lib.hid ?_⟩
  refine (ho2.begin id num hid hnum).mono ?_
  rintro e w2 ⟨A2, c2, rfl, HY⟩
  obtain ⟨F2', ho2', hm2, _, hr2⟩ := HY.out
  rw [← l1, ← l2, ← l3] at *
  refine ⟨A2, c2, rfl, Lib.hid ⟨⟨F', F2', _, _, ho.kp hm2.kp (fun k a b => hd' k a b) h2.new, ho2', fun k a b => ?_, l4⟩, _, ?_, hr2.rd⟩⟩
  · rcases hm2.new k b with h' | h'
    · exact hd' k a h'
    · have := ho.p.lt k a; omega
  · exact (hrF2.kp hm2.kp (fun k a b => a b)).rd
def EnP (W : World) (g g2 id num : Nat) (v : Value) (bx : Nat) (ty : TypeId) (cs : Array Value) (e : Ending) (w1 : World) : Prop :=
  ∃ er, e = .returned (.int .i64 er) ∧ Hid (Bk w1 bx ty cs) ∧
    Hid (Calls Try.prog 18 #[.pointer (some ⟨g2, 0, none⟩), .int .u64 (id : Int), .int .u64 (num : Int), v] w1 fun e2 w2 => e2 = .returned (.int .i64 er) ∧ Hid (SvB W g g2 w2))
theorem SvB.ended (h : SvB W g g2 w) (id num : Nat) (hid : id < 18446744073709551616) (A : Option Addr) (n c0 : Nat) (rep : List UInt8) (hr : Rd W W.heap.size A n rep) (hcap : n ≤ c0 ∧ c0 ≤ maxLen) (hn : n ≤ 1000000) (ty : TypeId) (cs : Array Value) : Calls Try.prog 18 #[.pointer (some ⟨g, 0, none⟩), .int .u64 (id : Int), .int .u64 (num : Int), .slice A n c0] (w.alloc (.cells cs ty)) (EnP W g g2 id num (.slice A n c0) w.heap.size ty cs) := by
  obtain ⟨F, F2, t, u, h1, h2, hd, hl⟩ := h
  have hb0 := bel1N w (.cells cs ty)
  have hbx := Bk.new w ty cs
  have h1b := h1.below hb0
  have h2b := h2.below hb0
  refine (h1b.ended id num hid A n c0 rep (RdA.old h1b (hr.below h1b.bel) hcap) hn).mono ?_
  rintro e w1 ⟨rfl, HX⟩
  obtain ⟨F', ho, hm⟩ := HX.out
  obtain ⟨l1, l4⟩ := hl.ended id num rep
  have ho2 : OW W w1 F2 g2 u := h2b.kp hm.kp (fun k a b => hd k b a) h1.new
  have hd' : ∀ k, F' k → ¬ F2 k := fun k a b => by
    rcases hm.new k a with h' | h'
    · exact hd k h' b
    · have := h2b.p.lt k b; omega
  refine ⟨_, rfl, Lib.hid (hbx.kp hm.kp (fun hf => by have := h1.p.lt _ hf; omega)), Lib.hid ?_⟩
  refine (ho2.ended id num hid A n c0 rep (RdA.old ho2 (hr.below ho2.bel) hcap) hn).mono ?_
  rintro e w2 ⟨rfl, HY⟩
  obtain ⟨F2', ho2', hm2⟩ := HY.out
  refine ⟨by rw [l1], Lib.hid ⟨F', F2', _, _, ho.kp hm2.kp (fun k a b => hd' k a b) h2.new, ho2', fun k a b => ?_, l4⟩⟩
  rcases hm2.new k b with h' | h'
  · exact hd' k a h'
  · have := ho.p.lt k a; omega
/-- A table is saved, and loaded. -/
def SvP (W : World) (g : Nat) (e : Ending) (w1 : World) : Prop :=
  ∃ A m c, e = .returned (.slice A m c) ∧ Hid (Calls Try.prog 23 #[.slice A m c] w1 fun e2 w2 => ∃ g2, e2 = .returned (.tuple #[.pointer (some ⟨g2, 0, none⟩), .int .i64 0]) ∧ Hid (SvB W g g2 w2))
theorem SvA.saves (h : SvA W g w) : Calls Try.prog 21 #[.pointer (some ⟨g, 0, none⟩)] w (SvP W g) := by
  obtain ⟨F, t, h⟩ := h
  refine (csave_any h.p h.ok).mono ?_
  rintro e w1 ⟨A, c, rfl, HX⟩
  obtain ⟨ho, hb⟩ := HX.out
  have h1 := h.below hb
  have hlen : (encT t).length ≤ 1000000 := by
    unfold encT
    have a1 := Lib.uvarint_length64 (x := t.most) (by have := h.ok.most; omega)
    have a2 := Lib.uvarint_length64 (x := t.row.length) (by have := h.ok.most; have := h.ok.len; omega)
    have a3 := bodyT_len t.row h.ok.each
    have := h.ok.most
    have := h.ok.len
    rw [List.length_append, List.length_append]
    omega
  refine ⟨A, _, c, rfl, Lib.hid ?_⟩
  refine (cload_any A _ c (encT t) w1 hlen (Rd.of_own ho)).mono ?_
  rw [loadT_enc t h.ok]
  rintro e w2 (⟨h0, _⟩ | ⟨u, g2, F2, h0, rfl, HY⟩)
  · cases h0
  injection h0 with h0
  obtain ⟨hp, hF, hb2⟩ := HY.out
  have hok : Tb.Ok ⟨t.most, t.row, 0, 0⟩ := ⟨h.ok.most, h.ok.len, h.ok.ids, h.ok.each, ⟨by show (_ : Int) ≤ 0; decide, by show (0 : Int) ≤ _; decide⟩, ⟨by show (_ : Int) ≤ 0; decide, by show (0 : Int) ≤ _; decide⟩⟩
  refine ⟨g2, rfl, Lib.hid ⟨F, F2, t, u, h1.below hb2, ⟨hp, h0 ▸ hok, fun k hk => Nat.le_trans h1.bel.size (hF k hk), h1.bel.trans (hb2.mono h1.bel.size)⟩, fun k a b => ?_, h0 ▸ ⟨rfl, rfl⟩⟩⟩
  have := h1.p.lt k a
  have := hF k b
  omega
/-- Both are saved. -/
def SvQ (W : World) (g2 : Nat) (e : Ending) (w1 : World) : Prop :=
  ∃ A m c, e = .returned (.slice A m c) ∧ Hid (Calls Try.prog 21 #[.pointer (some ⟨g2, 0, none⟩)] w1 fun e2 w2 => ∃ A2 c2, e2 = .returned (.slice A2 m c2) ∧ Hid (Below W.heap.size W w2 ∧ ∃ l, Rd w2 w2.heap.size A m l ∧ Rd w2 w2.heap.size A2 m l))
theorem SvB.saves (h : SvB W g g2 w) : Calls Try.prog 21 #[.pointer (some ⟨g, 0, none⟩)] w (SvQ W g2) := by
  obtain ⟨F, F2, t, u, h1, h2, hd, hl⟩ := h
  refine (csave_any h1.p h1.ok).mono ?_
  rintro e w1 ⟨A, c, rfl, HX⟩
  obtain ⟨ho, hb⟩ := HX.out
  have h2b := h2.below hb
  refine ⟨A, _, c, rfl, Lib.hid ?_⟩
  refine (csave_any h2b.p h2b.ok).mono ?_
  rintro e w2 ⟨A2, c2, rfl, HY⟩
  obtain ⟨ho2, hb2⟩ := HY.out
  rw [← hl.enc] at ho2 ⊢
  exact ⟨A2, c2, rfl, Lib.hid ⟨h2b.bel.trans (hb2.mono h2b.bel.size), encT t, (Rd.of_own ho).up hb2, Rd.of_own ho2⟩⟩
end
end Go.Proofs.Ytonkohbmknopmaa
