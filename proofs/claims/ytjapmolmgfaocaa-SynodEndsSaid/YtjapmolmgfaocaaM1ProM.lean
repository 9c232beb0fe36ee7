/- Of the proofs of layer 4, merged: ProM. -/
import Derived.Test.YtjapmolmgfaocaaMProP
import Derived.Test.YtjapmolmgfaocaaM1MapB
import Derived.Test.YtjapmolmgfaocaaM1BltA
import Derived.Test.YtjapmolmgfaocaaMQuM
import Derived.Test.YtjapmolmgfaocaaMWords

/- The program's proposer in memory; votes that are read. -/
namespace Go.Proofs.Ytjapmolmgfaocaa
open Go.RowKit Go.Maps

/-! ### elements -/
abbrev Tm := Nat × Bl × Sl
def tmV (x : Tm) : Value := .agg #[.int .i64 (x.1 : Int), .int .u64 (x.2.1.n : Int), .int .i64 x.2.1.node, slV x.2.2]
def tmD (x : Tm) : DataW Unit := .agg [.lit (.int .i64 (x.1 : Int)), .lit (.int .u64 (x.2.1.n : Int)), .lit (.int .i64 x.2.1.node), slD x.2.2]
def tmR : Value → Option (DataW Unit × List MemPlace)
  | .agg cs => match cs.toList with
    | [.int .i64 a, .int .u64 b, .int .i64 c, x] => (slR x).map fun y => (.agg [.lit (.int .i64 a), .lit (.int .u64 b), .lit (.int .i64 c), y.1], [])
    | _ => none
  | _ => none
theorem slR_nil {v : Value} {y : DataW Unit × List MemPlace} (h : slR v = some y) : y.2 = [] := by
  unfold slR at h
  split at h
  · injection h with h; rw [← h]
  · injection h with h; rw [← h]
  · cases h
def tmE : Enco Tm where
  V := tmV
  D := tmD
  R := tmR
  rd := fun x => by
    obtain ⟨n, ⟨b, d⟩, s⟩ := x
    unfold tmV tmR tmD
    simp [slR_mk]
  inv := fun v x ps h => by
    obtain ⟨n, ⟨b, d⟩, s⟩ := x
    unfold tmR at h
    split at h
    · rename_i cs
      split at h
      · rename_i a b' c' y hcs
        obtain ⟨z, hz, hz2⟩ := Option.map_eq_some_iff.1 h
        unfold tmD at hz2
        simp only [Prod.mk.injEq, DataW.agg.injEq, List.cons.injEq, DataW.lit.injEq, Lit.int.injEq, true_and, and_true] at hz2
        obtain ⟨⟨e1, e2, e3, e4⟩, _⟩ := hz2
        have e5 : slR y = some (slD s, z.2) := by rw [hz, ← e4]
        have e6 := slR_inv e5
        have : cs = #[.int .i64 a, .int .u64 b', .int .i64 c', y] := by rw [← Array.toArray_toList (xs := cs), hcs]
        rw [this, e1, e2, e3, e6]
        rfl
      · cases h
    · cases h
def prV : Option Nat → Value
  | none => .pointer none
  | some g => .pointer (some ⟨g, 0, none⟩)
def prD : Option Nat → DataW Unit
  | none => .lit (.bool false)
  | some g => .lit (.int .i64 (g : Int))
def prR : Value → Option (DataW Unit × List MemPlace)
  | .pointer none => some (prD none, [])
  | .pointer (some ⟨g, 0, none⟩) => some (prD (some g), [])
  | _ => none
def prE : Enco (Option Nat) where
  V := prV
  D := prD
  R := prR
  rd := fun x => by cases x <;> rfl
  inv := fun v x ps h => by
    unfold prR at h
    split at h
    · cases x with
      | none => rfl
      | some g => simp [prD] at h
    · rename_i g
      cases x with
      | none => simp [prD] at h
      | some k =>
        simp only [prD, Option.some.injEq, Prod.mk.injEq, DataW.lit.injEq, Lit.int.injEq, true_and] at h
        have : g = k := by have := h.1; omega
        subst this
        rfl
    · cases h

/-! ### the proposer -/
abbrev Tle := Nat × (Tl × Sl)
abbrev Pze := Nat × (Pz × (Nat × Sl))
def tlM (x : Tl × Sl) : Tm := (x.1.node, x.1.bal, x.2)
def pzM (x : Pz × (Nat × Sl)) : Option Nat := some x.2.1
def ppA (p : Pp) (S : Value) (bt bp : Nat) : Array Value :=
  #[.int .i64 p.q.kind, .int .i64 p.q.nodes, .int .i64 p.q.one, .int .i64 p.q.two, S, .int .u64 (p.bal.n : Int), .int .i64 p.bal.node, .int .u64 (p.base : Int), .int .u32 (p.prom : Int), .map (some bt), .int .u64 (p.top : Int), .map (some bp), .int .u64 (p.pre : Int)]
def pzA (x : Pz × (Nat × Sl)) : Array Value := #[slV x.2.2, .int .u32 (x.1.acc : Int)]
theorem i64s_at (l : List Int) (j : Nat) (h : j < l.length) : (l.map (Value.int .i64))[j]? = some (.int .i64 l[j]) := by simp [h]
theorem RdI.of_own {w : World} {base e n c : Nat} {A : Option Addr} {l : List Int} (h : w.ownsRow base e 1 (.slice A n c) n (l.map (Value.int .i64))) (hn : l.length = n) (hr : ∀ x ∈ l, -9223372036854775808 ≤ x ∧ x ≤ 9223372036854775807) : RdI w w.heap.size A n l := by
  refine ⟨hn, hr, fun h0 => ?_⟩
  rcases h.2 with ⟨_, h1⟩ | ⟨g, cap, cur, hv, _, hh, _⟩
  · omega
  · have hA : A = some ⟨g, 0, none⟩ := by injection hv
    subst hA
    refine ⟨g, 0, rfl, (Array.getElem?_eq_some_iff.1 hh).1, fun j hj => ?_⟩
    have := h.cells (g := g) rfl j _ (i64s_at l j hj)
    rwa [Addr.add_lit] at this
/-- The sites that the proposer keeps. -/
structure Sit (w : World) (F : Nat → Prop) (A : Option Addr) (n c : Nat) (l : List Int) : Prop where
  cap : n ≤ c ∧ c ≤ 9223372036854775807
  len : l.length = n
  num : ∀ x ∈ l, -9223372036854775808 ≤ x ∧ x ≤ 9223372036854775807
  own : 0 < n → w.ownsRow 0 3 1 (.slice A n c) n (l.map (Value.int .i64))
  foot : 0 < n → ∀ k, (Value.slice A n c).ownBlock = some k → F k
theorem Sit.rd {w : World} {F : Nat → Prop} {A : Option Addr} {n c : Nat} {l : List Int} (h : Sit w F A n c l) : RdI w w.heap.size A n l := by
  by_cases hn : 0 < n
  · exact RdI.of_own (h.own hn) h.len h.num
  · obtain rfl : n = 0 := by omega
    obtain rfl : l = [] := List.eq_nil_of_length_eq_zero h.len
    exact RdI.nil _ _ _
theorem Sit.keep {w w' : World} {F F' G : Nat → Prop} {A : Option Addr} {n c : Nat} {l : List Int} (h : Sit w F A n c l) (hk : Kp G w w') (hd : 0 < n → ∀ k, (Value.slice A n c).ownBlock = some k → ¬ G k) (hf : ∀ k, F k → F' k) : Sit w' F' A n c l :=
  ⟨h.cap, h.len, h.num, fun hn => own_kp (h.own hn) hk (hd hn), fun hn k e => hf k (h.foot hn k e)⟩
structure PPm (w : World) (F : Nat → Prop) (g bt bp : Nat) (A : Option Addr) (n c : Nat) (p : Pp) (ts : List Tle) (ps : List Pze) : Prop where
  bk : Bk w g 108 (ppA p (.slice A n c) bt bp)
  sit : Sit w F A n c p.q.sites
  tmap : OwnB tmE w bt ts.length (onK tlM ts)
  pmap : OwnB prE w bp ps.length (onK pzM ps)
  teach : ∀ e ∈ ts, w.ownsRow 0 5 1 (slV e.2.2) e.2.1.val.length (u8s e.2.1.val)
  peach : ∀ e ∈ ps, Bk w e.2.2.1 122 (pzA e.2)
  pval : ∀ e ∈ ps, w.ownsRow 0 5 1 (slV e.2.2.2) e.2.1.val.length (u8s e.2.1.val)
  pinj : ∀ e ∈ ps, ∀ e' ∈ ps, e.2.2.1 = e'.2.2.1 → e = e'
  teq : onK (·.1) ts = p.told
  peq : onK (·.1) ps = p.props
  ok : p.Ok
  qi : i64In p.q.kind ∧ i64In p.q.nodes ∧ i64In p.q.one ∧ i64In p.q.two
  fg : F g
  ft : F bt
  fp : F bp
  tne : bt ≠ bp
  tf : ∀ e ∈ ts, ∀ k, (slV e.2.2).ownBlock = some k → F k
  pf : ∀ e ∈ ps, F e.2.2.1
  vf : ∀ e ∈ ps, ∀ k, (slV e.2.2.2).ownBlock = some k → F k
  lt : ∀ k, F k → k < w.heap.size
def PPM (w : World) (F : Nat → Prop) (g : Nat) (p : Pp) : Prop := ∃ bt bp A n c ts ps, PPm w F g bt bp A n c p ts ps
section
variable {w w' : World} {F G : Nat → Prop} {g bt bp n c : Nat} {A : Option Addr} {p : Pp} {ts : List Tle} {ps : List Pze}
theorem Sit.kp {l : List Int} (h : Sit w F A n c l) (hk : Kp G w w') (hd : ∀ k, F k → ¬ G k) : Sit w' F A n c l := h.keep hk (fun hn k e => hd k (h.foot hn k e)) (fun _ h => h)
theorem PPm.kp (h : PPm w F g bt bp A n c p ts ps) (hk : Kp G w w') (hd : ∀ k, F k → ¬ G k) : PPm w' F g bt bp A n c p ts ps :=
  ⟨h.bk.kp hk (hd _ h.fg), h.sit.kp hk hd, h.tmap.kp hk (hd _ h.ft), h.pmap.kp hk (hd _ h.fp), fun e he => own_kp (h.teach e he) hk fun k e2 => hd k (h.tf e he k e2), fun e he => (h.peach e he).kp hk (hd _ (h.pf e he)),
    fun e he => own_kp (h.pval e he) hk fun k e2 => hd k (h.vf e he k e2), h.pinj, h.teq, h.peq, h.ok, h.qi, h.fg, h.ft, h.fp, h.tne, h.tf, h.pf, h.vf, fun k e => Nat.lt_of_lt_of_le (h.lt k e) hk.size⟩
theorem PPm.below (h : PPm w F g bt bp A n c p ts ps) (hb : Below w.heap.size w w') : PPm w' F g bt bp A n c p ts ps := h.kp (G := fun _ => False) (Kp.of_below hb) fun _ _ h => h
theorem PPm.drewN (h : PPm w F g bt bp A n c p ts ps) (q : Nat) : PPm (w.drewN q) F g bt bp A n c p ts ps := h.kp (G := fun _ => False) (Kp.drewN _ w q) fun _ _ h => h
theorem PPM.kp (h : PPM w F g p) (hk : Kp G w w') (hd : ∀ k, F k → ¬ G k) : PPM w' F g p := by obtain ⟨bt, bp, A, n, c, ts, ps, h⟩ := h; exact ⟨bt, bp, A, n, c, ts, ps, h.kp hk hd⟩
theorem PPM.below (h : PPM w F g p) (hb : Below w.heap.size w w') : PPM w' F g p := h.kp (G := fun _ => False) (Kp.of_below hb) fun _ _ h => h
theorem PPM.ok (h : PPM w F g p) : p.Ok := by obtain ⟨bt, bp, A, n, c, ts, ps, h⟩ := h; exact h.ok
theorem PPM.lt (h : PPM w F g p) : ∀ k, F k → k < w.heap.size := by obtain ⟨bt, bp, A, n, c, ts, ps, h⟩ := h; exact h.lt
theorem PPM.fg (h : PPM w F g p) : F g := by obtain ⟨bt, bp, A, n, c, ts, ps, h⟩ := h; exact h.fg
theorem PPm.q (h : PPm w F g bt bp A n c p ts ps) : Qi w p.q A n c := ⟨h.qi.1, h.qi.2.1, h.qi.2.2.1, h.qi.2.2.2, h.sit.cap, h.sit.rd⟩
theorem PPm.len (h : PPm w F g bt bp A n c p ts ps) : ts.length = p.told.length ∧ ps.length = p.props.length := by rw [← h.teq, ← h.peq, onK_len, onK_len]; exact ⟨rfl, rfl⟩
theorem zeroTold (w : World) : (zeroValue 127).run Try.prog w = .ok (.agg #[.int .i64 0, .int .u64 0, .int .i64 0, .slice none 0 0]) w := by kernel_rfl
theorem zeroPz (w : World) : (zeroValue 120).run Try.prog w = .ok (.pointer none) w := by kernel_rfl
/-- What stands in a slot. -/
theorem PPm.tlook (h : PPm w F g bt bp A n c p ts ps) (k : Nat) (hk : k < 18446744073709551616) :
    (Instr.lookup 104 (.map (some bt)) (.int .u64 (k : Int)) true).run Try.prog w = .ok (.tuple #[tmV ((getK (onK tlM ts) k).getD (0, Bl.zero, (none, 0, 0))), .bool (getK (onK tlM ts) k).isSome]) w :=
  h.tmap.look2 Try.underlying104 (z := ((0, Bl.zero, (none, 0, 0)) : Tm)) (zeroTold w) k hk
theorem PPm.plook (h : PPm w F g bt bp A n c p ts ps) (k : Nat) (hk : k < 18446744073709551616) :
    (Instr.lookup 105 (.map (some bp)) (.int .u64 (k : Int)) false).run Try.prog w = .ok (prV ((getK (onK pzM ps) k).getD none)) w :=
  h.pmap.look1 Try.underlying105 (z := (none : Option Nat)) (zeroPz w) k hk
theorem PPm.tget (h : PPm w F g bt bp A n c p ts ps) (k : Nat) : (getK (onK tlM ts) k = none ∧ getK p.told k = none) ∨ ∃ x, (k, x) ∈ ts ∧ getK (onK tlM ts) k = some (tlM x) ∧ getK p.told k = some x.1 := by
  rw [← h.teq, getK_on, getK_on]
  cases hg : getK ts k with
  | none => exact .inl ⟨rfl, rfl⟩
  | some x => exact .inr ⟨x, getK_mem hg, rfl, rfl⟩
theorem PPm.pget (h : PPm w F g bt bp A n c p ts ps) (k : Nat) : (getK (onK pzM ps) k = none ∧ getK p.props k = none) ∨ ∃ x, (k, x) ∈ ps ∧ getK (onK pzM ps) k = some (some x.2.1) ∧ getK p.props k = some x.1 := by
  rw [← h.peq, getK_on, getK_on]
  cases hg : getK ps k with
  | none => exact .inl ⟨rfl, rfl⟩
  | some x => exact .inr ⟨x, getK_mem hg, rfl, rfl⟩
theorem PPm.cells (h : PPm w F g bt bp A n c p ts ps) :
    w.cell? ⟨g, 0, none⟩ = some (.int .i64 p.q.kind) ∧ w.cell? ⟨g, 1, none⟩ = some (.int .i64 p.q.nodes) ∧ w.cell? ⟨g, 2, none⟩ = some (.int .i64 p.q.one) ∧ w.cell? ⟨g, 3, none⟩ = some (.int .i64 p.q.two) ∧ w.cell? ⟨g, 4, none⟩ = some (.slice A n c) ∧
    w.cell? ⟨g, 5, none⟩ = some (.int .u64 (p.bal.n : Int)) ∧ w.cell? ⟨g, 6, none⟩ = some (.int .i64 p.bal.node) ∧ w.cell? ⟨g, 7, none⟩ = some (.int .u64 (p.base : Int)) ∧ w.cell? ⟨g, 8, none⟩ = some (.int .u32 (p.prom : Int)) ∧ w.cell? ⟨g, 9, none⟩ = some (.map (some bt)) ∧
    w.cell? ⟨g, 10, none⟩ = some (.int .u64 (p.top : Int)) ∧ w.cell? ⟨g, 11, none⟩ = some (.map (some bp)) ∧ w.cell? ⟨g, 12, none⟩ = some (.int .u64 (p.pre : Int)) :=
  ⟨h.bk.cell 0, h.bk.cell 1, h.bk.cell 2, h.bk.cell 3, h.bk.cell 4, h.bk.cell 5, h.bk.cell 6, h.bk.cell 7, h.bk.cell 8, h.bk.cell 9, h.bk.cell 10, h.bk.cell 11, h.bk.cell 12⟩
end

/-! ### votes that are read -/
/-- As Rd, in blocks of G. -/
def RdG (w : World) (G : Nat → Prop) (A : Option Addr) (n : Nat) (l : List UInt8) : Prop :=
  l.length = n ∧ (0 < n → ∃ b o, A = some ⟨b, o, none⟩ ∧ G b ∧ b < w.heap.size ∧ ∀ j (h : j < l.length), w.cell? ⟨b, o + j, none⟩ = some (.int .u8 (l[j].toNat : Int)))
theorem RdG.rd {w : World} {G : Nat → Prop} {A : Option Addr} {n : Nat} {l : List UInt8} (h : RdG w G A n l) : Rd w w.heap.size A n l :=
  ⟨h.1, fun hn => by obtain ⟨b, o, e, _, hb, hc⟩ := h.2 hn; exact ⟨b, o, e, hb, hc⟩⟩
theorem RdG.kp {w w' : World} {F G : Nat → Prop} {A : Option Addr} {n : Nat} {l : List UInt8} (h : RdG w G A n l) (hk : Kp F w w') (hd : ∀ k, G k → ¬ F k) : RdG w' G A n l :=
  ⟨h.1, fun hn => by
    obtain ⟨b, o, e, hg, hb, hc⟩ := h.2 hn
    exact ⟨b, o, e, hg, Nat.lt_of_lt_of_le hb hk.size, fun j hj => cell_kp (p := ⟨b, o + j, none⟩) (hc j hj) hk (hd b hg)⟩⟩
theorem RdG.below {w w' : World} {G : Nat → Prop} {A : Option Addr} {n : Nat} {l : List UInt8} (h : RdG w G A n l) (hb : Below w.heap.size w w') : RdG w' G A n l := h.kp (F := fun _ => False) (Kp.of_below hb) fun _ _ h => h
theorem RdG.of_rd {w : World} {B n : Nat} {A : Option Addr} {l : List UInt8} (h : Rd w B A n l) (hB : B ≤ w.heap.size) : RdG w (fun k => k < B) A n l :=
  ⟨h.1, fun hn => by obtain ⟨b, o, e, hb, hc⟩ := h.2 hn; exact ⟨b, o, e, hb, Nat.lt_of_lt_of_le hb hB, hc⟩⟩
theorem RdG.mono {w : World} {G G' : Nat → Prop} {A : Option Addr} {n : Nat} {l : List UInt8} (h : RdG w G A n l) (hg : ∀ k, G k → G' k) : RdG w G' A n l :=
  ⟨h.1, fun hn => by obtain ⟨b, o, e, h1, hb, hc⟩ := h.2 hn; exact ⟨b, o, e, hg b h1, hb, hc⟩⟩
abbrev Vtr := Vt × (Option Addr × Nat × Nat)
/-- The slice reads as these votes, in blocks of G. -/
structure VsR (w : World) (G : Nat → Prop) (A : Option Addr) (n c : Nat) (es : List Vtr) : Prop where
  len : es.length = n
  cap : n ≤ c ∧ c ≤ 9223372036854775807
  row : 0 < n → ∃ R o, A = some ⟨R, o, none⟩ ∧ G R ∧ R < w.heap.size ∧ ∀ i (h : i < es.length), w.cell? ⟨R, o + i * 4, none⟩ = some (.int .u64 (es[i].1.slot : Int)) ∧ w.cell? ⟨R, o + i * 4 + 1, none⟩ = some (.int .u64 (es[i].1.bal.n : Int)) ∧
    w.cell? ⟨R, o + i * 4 + 2, none⟩ = some (.int .i64 es[i].1.bal.node) ∧ w.cell? ⟨R, o + i * 4 + 3, none⟩ = some (.slice es[i].2.1 es[i].2.2.1 es[i].2.2.2)
  each : ∀ e ∈ es, e.2.2.1 ≤ e.2.2.2 ∧ e.2.2.2 ≤ 9223372036854775807 ∧ RdG w G e.2.1 e.2.2.1 e.1.val ∧ e.1.Num ∧ e.1.bal.Ok
theorem VsR.kp {w w' : World} {F G : Nat → Prop} {A : Option Addr} {n c : Nat} {es : List Vtr} (h : VsR w G A n c es) (hk : Kp F w w') (hd : ∀ k, G k → ¬ F k) : VsR w' G A n c es :=
  ⟨h.len, h.cap, fun hn => by
    obtain ⟨R, o, e, hg, hb, hc⟩ := h.row hn
    refine ⟨R, o, e, hg, Nat.lt_of_lt_of_le hb hk.size, fun i hi => ?_⟩
    obtain ⟨c0, c1, c2, c3⟩ := hc i hi
    exact ⟨cell_kp c0 hk (hd R hg), cell_kp c1 hk (hd R hg), cell_kp c2 hk (hd R hg), cell_kp c3 hk (hd R hg)⟩,
   fun e he => by obtain ⟨h1, h2, h3, h4⟩ := h.each e he; exact ⟨h1, h2, h3.kp hk hd, h4⟩⟩
theorem VsR.below {w w' : World} {G : Nat → Prop} {A : Option Addr} {n c : Nat} {es : List Vtr} (h : VsR w G A n c es) (hb : Below w.heap.size w w') : VsR w' G A n c es := h.kp (F := fun _ => False) (Kp.of_below hb) fun _ _ h => h
theorem VsR.nil (w : World) (G : Nat → Prop) (A : Option Addr) (c : Nat) (hc : c ≤ 9223372036854775807) : VsR w G A 0 c [] := ⟨rfl, ⟨Nat.zero_le _, hc⟩, fun h => absurd h (by omega), fun e he => (List.not_mem_nil he).elim⟩
def VsR.vs (es : List Vtr) : List Vt := es.map (·.1)
end Go.Proofs.Ytjapmolmgfaocaa
