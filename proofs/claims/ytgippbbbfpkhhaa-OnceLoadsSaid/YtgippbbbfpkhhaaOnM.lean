/- Layer 13 in memory: a row of clients; the program's table. -/
import Derived.Test.YtgippbbbfpkhhaaOnO
namespace Go.Proofs.Ytgippbbbfpkhhaa
open Go.RowKit Go.Maps

abbrev Sl3 := Option Addr × Nat × Nat
def s3W (s : Sl3) : Value := .slice s.1 s.2.1 s.2.2
abbrev Cle := Cl × Sl3
def clV (c : Cl) (s : Sl3) : Value := .agg #[.int .u64 (c.id : Int), .int .u64 (c.num : Int), .bool c.busy, s3W s]
def clE (e : Cle) : List Value := [.int .u64 (e.1.id : Int), .int .u64 (e.1.num : Int), .bool e.1.busy, s3W e.2]
def clC (es : List Cle) : List Value := es.flatMap clE
theorem clC_len (es : List Cle) : (clC es).length = es.length * 4 := flat_len es fun _ _ => rfl
theorem clC_app (a b : List Cle) : clC (a ++ b) = clC a ++ clC b := by unfold clC; rw [List.flatMap_append]
theorem clC_at (es : List Cle) (i j : Nat) (hi : i < es.length) (hj : j < 4) : (clC es)[i * 4 + j]? = (clE es[i])[j]? := flat_at (s := 4) es (fun _ _ => rfl) i j hi hj
theorem clC_take (es : List Cle) (k : Nat) : (clC es).take (k * 4) = clC (es.take k) := flat_take (s := 4) es (fun _ _ => rfl) k
theorem clC_drop (es : List Cle) (k : Nat) : (clC es).drop (k * 4) = clC (es.drop k) := flat_drop (s := 4) es (fun _ _ => rfl) k
theorem clC_one (es : List Cle) : ∀ u ∈ clC es, u.oneCell' = true := by
  intro u hu
  unfold clC at hu
  obtain ⟨e, _, hu⟩ := List.mem_flatMap.1 hu
  simp only [clE, List.mem_cons, List.not_mem_nil, or_false] at hu
  rcases hu with rfl | rfl | rfl | rfl <;> rfl
theorem Try.infoClient : (Try.prog.info? 64).map (fun i => (i.zero, i.size, i.bytes)) = some (some (.agg #[.int .u64 0, .int .u64 0, .bool false, .slice none 0 0]), 4, 48) := by kernel_rfl

/-- As Rd, in blocks of G. -/
def RdF (w : World) (G : Nat → Prop) (s : Sl3) (l : List UInt8) : Prop :=
  s.2.1 ≤ s.2.2 ∧ s.2.2 ≤ maxLen ∧ l.length = s.2.1 ∧ (0 < s.2.1 → ∃ b o, s.1 = some ⟨b, o, none⟩ ∧ G b ∧ b < w.heap.size ∧ ∀ j (h : j < l.length), w.cell? ⟨b, o + j, none⟩ = some (.int .u8 (l[j].toNat : Int)))
section
variable {w w' : World} {F G G' : Nat → Prop} {s : Sl3} {l : List UInt8}
theorem RdF.rd (h : RdF w G s l) : Rd w w.heap.size s.1 s.2.1 l := ⟨h.2.2.1, fun hn => by obtain ⟨b, o, e, _, hb, hc⟩ := h.2.2.2 hn; exact ⟨b, o, e, hb, hc⟩⟩
theorem RdF.kp (h : RdF w G s l) (hk : Kp F w w') (hd : ∀ k, G k → ¬ F k) : RdF w' G s l :=
  ⟨h.1, h.2.1, h.2.2.1, fun hn => by
    obtain ⟨b, o, e, hg, hb, hc⟩ := h.2.2.2 hn
    exact ⟨b, o, e, hg, Nat.lt_of_lt_of_le hb hk.size, fun j hj => cell_kp (p := ⟨b, o + j, none⟩) (hc j hj) hk (hd b hg)⟩⟩
theorem RdF.below (h : RdF w G s l) (hb : Below w.heap.size w w') : RdF w' G s l := h.kp (F := fun _ => False) (Kp.of_below hb) fun _ _ h => h
theorem RdF.mono (h : RdF w G s l) (hg : ∀ k, G k → G' k) : RdF w G' s l := ⟨h.1, h.2.1, h.2.2.1, fun hn => by obtain ⟨b, o, e, h1, hb, hc⟩ := h.2.2.2 hn; exact ⟨b, o, e, hg b h1, hb, hc⟩⟩
theorem RdF.nil (w : World) (G : Nat → Prop) (A : Option Addr) (c : Nat) (hc : c ≤ maxLen) : RdF w G (A, 0, c) [] := ⟨Nat.zero_le _, hc, rfl, fun h => (Nat.lt_irrefl 0 h).elim⟩
theorem RdF.of_own {base : Nat} (h : w.ownsRow base 5 1 (s3W s) l.length (u8s l)) : RdF w (fun k => (s3W s).ownBlock = some k) s l := by
  have hl := h.1
  rcases h.2 with ⟨h', h0⟩ | ⟨g, cap, cur, hv, _, hh, hnc, hcm, _⟩
  · obtain ⟨A, n, c⟩ := s
    injection h' with h1 h2 h3
    subst h1 h2 h3
    exact ⟨Nat.le_refl _, by decide, h0, fun h => (Nat.lt_irrefl 0 h).elim⟩
  · obtain ⟨A, n, c⟩ := s
    injection hv with h1 h2 h3
    subst h1 h2 h3
    refine ⟨hnc, hcm, rfl, fun _ => ⟨g, 0, rfl, rfl, (Array.getElem?_eq_some_iff.1 hh).1, fun j hj => ?_⟩⟩
    have := h.cells (g := g) rfl j _ (u8s_at l j hj)
    rwa [Addr.add_lit] at this
end

structure ClRow (w : World) (F : Nat → Prop) (v : Value) (es : List Cle) : Prop where
  own : w.ownsRow 0 64 4 v es.length (clC es)
  each : ∀ e ∈ es, w.ownsRow 0 5 1 (s3W e.2) e.1.rep.length (u8s e.1.rep)
  foot : ∀ k, v.ownBlock = some k → F k
  bods : ∀ e ∈ es, ∀ k, (s3W e.2).ownBlock = some k → F k
theorem own_not_bkC {w : World} {g : Nat} {t : TypeId} {cs : Array Value} {base e size n : Nat} {v : Value} {xs : List Value} (hb : Bk w g t cs) (ho : w.ownsRow base e size v n xs) (hne : e ≠ t) : ∀ k, v.ownBlock = some k → k ≠ g := by
  rintro k e1 rfl
  rcases ho.2 with ⟨rfl, _⟩ | ⟨g', cap, cur, rfl, _, hh, _⟩
  · cases e1
  · simp only [Value.ownBlock, Option.some.injEq] at e1
    subst e1
    unfold Bk at hb
    rw [hb] at hh
    injection hh with hh
    injection hh with _ hh _
    exact hne hh.symm
theorem own_sepC {w : World} {b1 b2 e1 e2 s1 s2 n1 n2 : Nat} {v1 v2 : Value} {x1 x2 : List Value} (h1 : w.ownsRow b1 e1 s1 v1 n1 x1) (h2 : w.ownsRow b2 e2 s2 v2 n2 x2) (hne : e1 ≠ e2) : ∀ k, v1.ownBlock = some k → ¬ v2.ownBlock = some k := fun k p q => by
  rcases own_types_ne h1 h2 hne with h' | h'
  · rw [h'] at p; cases p
  · exact h' (p.trans q.symm)
section
variable {w w' : World} {F G : Nat → Prop} {v : Value} {es : List Cle} {A : Option Addr} {n c g : Nat}
theorem ClRow.keep (h : ClRow w F v es) (hk : Kp G w w') (hd : ∀ k, (v.ownBlock = some k ∨ ∃ e ∈ es, (s3W e.2).ownBlock = some k) → ¬ G k) : ClRow w' F v es :=
  ⟨own_kp h.own hk fun k e => hd k (.inl e), fun e he => own_kp (h.each e he) hk fun k e2 => hd k (.inr ⟨e, he, e2⟩), h.foot, h.bods⟩
theorem ClRow.kp (h : ClRow w F v es) (hk : Kp G w w') (hd : ∀ k, F k → ¬ G k) : ClRow w' F v es :=
  h.keep hk fun k e => by
    rcases e with e | ⟨x, hx, e⟩
    · exact hd k (h.foot k e)
    · exact hd k (h.bods x hx k e)
theorem ClRow.below (h : ClRow w F v es) (hb : Below w.heap.size w w') : ClRow w' F v es := h.kp (G := fun _ => False) (Kp.of_below hb) fun _ _ h => h
theorem ClRow.mono (h : ClRow w F v es) (hf : ∀ k, F k → G k) : ClRow w G v es := ⟨h.own, h.each, fun k e => hf k (h.foot k e), fun e he k e2 => hf k (h.bods e he k e2)⟩
theorem ClRow.nil (w : World) (F : Nat → Prop) : ClRow w F (.slice none 0 0) [] := ⟨World.ownsRow_nil _ _ _ _, fun _ he => (List.not_mem_nil he).elim, (fun k e => by cases e), fun _ he => (List.not_mem_nil he).elim⟩
theorem ClRow.shape (h : ClRow w F v es) : ∃ A c, v = .slice A es.length c ∧ es.length ≤ c ∧ c ≤ maxLen := own_shape h.own
theorem ClRow.off (h : ClRow w F v es) {t : TypeId} {cs : Array Value} (hb : Bk w g t cs) (h1 : 64 ≠ t) (h2 : 5 ≠ t) : ∀ k, (v.ownBlock = some k ∨ ∃ e ∈ es, (s3W e.2).ownBlock = some k) → k ≠ g := by
  rintro k (e | ⟨e, he, e2⟩)
  · exact own_not_bkC hb h.own h1 k e
  · exact own_not_bkC hb (h.each e he) h2 k e2
theorem ClRow.bodRow (h : ClRow w F v es) {e : Cle} (he : e ∈ es) : ∀ k, (s3W e.2).ownBlock = some k → ¬ v.ownBlock = some k := own_sepC (h.each e he) h.own (by decide)
theorem ClRow.cell (h : ClRow w F v es) (i : Nat) (hi : i < es.length) : ∃ R c, v = .slice (some ⟨R, 0, none⟩) es.length c ∧ es.length ≤ c ∧ c ≤ maxLen ∧ R < w.heap.size ∧ w.cell? ⟨R, i * 4, none⟩ = some (.int .u64 (es[i].1.id : Int)) ∧ w.cell? ⟨R, i * 4 + 1, none⟩ = some (.int .u64 (es[i].1.num : Int)) ∧ w.cell? ⟨R, i * 4 + 2, none⟩ = some (.bool es[i].1.busy) ∧ w.cell? ⟨R, i * 4 + 3, none⟩ = some (s3W es[i].2) := by
  rcases h.own.2 with ⟨_, h0⟩ | ⟨g, cap, cur, rfl, _, hh, h1, h2, _⟩
  · omega
  · have q := fun j (hj : j < 4) u (hu : (clE es[i])[j]? = some u) => h.own.cells (g := g) rfl (i * 4 + j) u (by rw [clC_at es i j hi hj]; exact hu)
    have q0 := q 0 (by omega) _ rfl
    have q1 := q 1 (by omega) _ rfl
    have q2 := q 2 (by omega) _ rfl
    have q3 := q 3 (by omega) _ rfl
    rw [Addr.add_lit, Nat.zero_add] at q0 q1 q2 q3
    exact ⟨g, cap, rfl, h1, h2, (Array.getElem?_eq_some_iff.1 hh).1, q0, q1, q2, q3⟩
theorem ClRow.body (h : ClRow w F v es) {e : Cle} (he : e ∈ es) : RdF w F e.2 e.1.rep := (RdF.of_own (h.each e he)).mono fun k e2 => h.bods e he k e2
end

/-- Where a client stands, as the map has it. -/
def plE : Enco Int where
  V := fun x => .int .i64 x
  D := fun x => .lit (.int .i64 x)
  R := fun v => match v with
    | .int .i64 x => some (.lit (.int .i64 x), [])
    | _ => none
  rd := fun _ => rfl
  inv := fun v x ps h => by
    split at h
    · simp only [Option.some.injEq, Prod.mk.injEq, DataW.lit.injEq, Lit.int.injEq, true_and] at h
      rw [h.1]
    · cases h
def flag (b : Bool) : Int := if b then 1 else 0
def tbL (t : Tb) (v : Value) (dn lk : Int) (mp : Option Nat) : Array Value := #[.int .i64 (t.most : Int), v, .int .u32 dn, .int .i32 lk, .int .u32 0, .map mp, .int .i64 t.nb, .int .i64 t.na]
def tbC (t : Tb) (v : Value) (dn : Bool) (mp : Option Nat) : Array Value := tbL t v (flag dn) 0 mp
/-- Block g is the program's table t, nothing said of its places. -/
structure PRm (w : World) (F : Nat → Prop) (g : Nat) (t : Tb) (A : Option Addr) (n c : Nat) (es : List Cle) (dn : Bool) (mp : Option Nat) : Prop where
  bk : Bk w g 85 (tbC t (.slice A n c) dn mp)
  row : ClRow w F (.slice A n c) es
  eq : es.map (·.1) = t.row
  len : n = t.row.length
  fg : F g
  lt : ∀ k, F k → k < w.heap.size
/-- Block g is the program's table t; its places are built, or not. -/
structure PTm (w : World) (F : Nat → Prop) (g : Nat) (t : Tb) (A : Option Addr) (n c : Nat) (es : List Cle) (dn : Bool) (mp : Option Nat) : Prop extends PRm w F g t A n c es dn mp where
  map : dn = true → ∃ b L, mp = some b ∧ F b ∧ OwnB plE w b L.length L ∧ PlaceOk L t.row
/-- The same, nothing said of how it lies. -/
def PT (w : World) (F : Nat → Prop) (g : Nat) (t : Tb) : Prop := ∃ A n c es dn mp, PTm w F g t A n c es dn mp
section
variable {w w' : World} {F G : Nat → Prop} {g n c : Nat} {t : Tb} {A : Option Addr} {es : List Cle} {dn : Bool} {mp : Option Nat}
theorem PRm.kp (h : PRm w F g t A n c es dn mp) (hk : Kp G w w') (hd : ∀ k, F k → ¬ G k) : PRm w' F g t A n c es dn mp :=
  ⟨h.bk.kp hk (hd _ h.fg), h.row.kp hk hd, h.eq, h.len, h.fg, fun k e => Nat.lt_of_lt_of_le (h.lt k e) hk.size⟩
theorem PRm.below (h : PRm w F g t A n c es dn mp) (hb : Below w.heap.size w w') : PRm w' F g t A n c es dn mp := h.kp (G := fun _ => False) (Kp.of_below hb) fun _ _ h => h
theorem PTm.kp (h : PTm w F g t A n c es dn mp) (hk : Kp G w w') (hd : ∀ k, F k → ¬ G k) : PTm w' F g t A n c es dn mp :=
  ⟨h.toPRm.kp hk hd, fun e => by
    obtain ⟨b, L, e1, e2, e3, e4⟩ := h.map e
    exact ⟨b, L, e1, e2, e3.kp hk (hd _ e2), e4⟩⟩
theorem PTm.below (h : PTm w F g t A n c es dn mp) (hb : Below w.heap.size w w') : PTm w' F g t A n c es dn mp := h.kp (G := fun _ => False) (Kp.of_below hb) fun _ _ h => h
theorem PT.kp (h : PT w F g t) (hk : Kp G w w') (hd : ∀ k, F k → ¬ G k) : PT w' F g t := by obtain ⟨A, n, c, es, dn, mp, h⟩ := h; exact ⟨A, n, c, es, dn, mp, h.kp hk hd⟩
theorem PT.below (h : PT w F g t) (hb : Below w.heap.size w w') : PT w' F g t := h.kp (G := fun _ => False) (Kp.of_below hb) fun _ _ h => h
theorem PT.lt (h : PT w F g t) : ∀ k, F k → k < w.heap.size := by obtain ⟨A, n, c, es, dn, mp, h⟩ := h; exact h.lt
theorem PT.fg (h : PT w F g t) : F g := by obtain ⟨A, n, c, es, dn, mp, h⟩ := h; exact h.fg
theorem PRm.cells (h : PRm w F g t A n c es dn mp) : w.cell? ⟨g, 0, none⟩ = some (.int .i64 (t.most : Int)) ∧ w.cell? ⟨g, 1, none⟩ = some (.slice A n c) ∧ w.cell? ⟨g, 2, none⟩ = some (.int .u32 (flag dn)) ∧ w.cell? ⟨g, 3, none⟩ = some (.int .i32 0) ∧
    w.cell? ⟨g, 4, none⟩ = some (.int .u32 0) ∧ w.cell? ⟨g, 5, none⟩ = some (.map mp) ∧ w.cell? ⟨g, 6, none⟩ = some (.int .i64 t.nb) ∧ w.cell? ⟨g, 7, none⟩ = some (.int .i64 t.na) :=
  ⟨h.bk.cell 0, h.bk.cell 1, h.bk.cell 2, h.bk.cell 3, h.bk.cell 4, h.bk.cell 5, h.bk.cell 6, h.bk.cell 7⟩
theorem PRm.frz (h : PRm w F g t A n c es dn mp) (i : Nat) : w.frozen? ⟨g, i, none⟩ = false := h.bk.frozen i
theorem PRm.elen (h : PRm w F g t A n c es dn mp) : es.length = n := by rw [h.len, ← h.eq, List.length_map]
theorem PTm.offMap (h : PTm w F g t A n c es dn mp) (hd : dn = true) : ∀ b, mp = some b → ∀ k, ((Value.slice A n c).ownBlock = some k ∨ ∃ e ∈ es, (s3W e.2).ownBlock = some k) ∨ k = g → k ≠ b := by
  obtain ⟨b, L, rfl, _, h3, _⟩ := h.map hd
  rintro b' e k (( e1 | ⟨x, hx, e1⟩) | rfl)
  · injection e with e; subst e; exact h3.off h.row.own k e1
  · injection e with e; subst e; exact h3.off (h.row.each x hx) k e1
  · injection e with e; subst e; exact h3.off_bk h.bk
end
end Go.Proofs.Ytgippbbbfpkhhaa
