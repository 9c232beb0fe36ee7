/- OnceDoes: the program's table beside the document's. -/
import Derived.Test.YtgippbbbfpkhhaaOnQ
import Derived.Test.YtgippbbbfpkhhaaOnT
import Derived.Test.YtgippbbbfpkhhaaOnA
import Derived.Test.YtgippbbbfpkhhaaOnAs
import Derived.Test.YtgippbbbfpkhhaaOnL
import Derived.Test.YtgippbbbfpkhhaaLent2
import Derived.Test.YtgippbbbfpkhhaaSame
namespace Go.Proofs.Ytgippbbbfpkhhaa
open Go.RowKit Go.Maps

def SpoilO (w : World) (v : Value) (e : Ending) (w' : World) : Prop := e = .returned (.tuple #[]) ∧ Kp (fun k => v.ownBlock = some k) w w'
set_option maxRecDepth 100000 in
set_option maxHeartbeats 1000000 in
theorem spoilO_own {w : World} {A : Option Addr} {n c base : Nat} {l : List UInt8} (ho : w.ownsRow base 5 1 (.slice A n c) n (u8s l)) (hn : n ≤ 1000000) : Calls Try.prog 16 #[.slice A n c] w (SpoilO w (.slice A n c)) := by
  rcases ho.2 with ⟨h', h0⟩ | ⟨gr, cap, cur, hv, _⟩
  · subst h0
    injection h' with e1 _ e2
    subst e1
    subst e2
    clear ho
    go_enter Try.func16, Try.ntmps16
    go_wp2_with fail
    go_loopg [2] 0 (fun gk i wr => i = .int .i64 0 ∧ w = wr)
    case atStart => exact ⟨rfl, rfl⟩
    case round =>
      obtain ⟨rfl, rfl⟩ := hrel
      go_wp2
      go_end0
      exact ⟨rfl, Kp.refl _ _⟩
  · injection hv with e1 _ e2
    subst e1
    subst e2
    refine (spoil_any gr n c base l w (by omega) ho).mono ?_
    rintro e w' ⟨rfl, h⟩
    exact ⟨rfl, Kp.of_grown h rfl⟩
theorem begin_rep {t : Tb} (hok : t.Ok) (id num : Nat) : (t.begin id num).rep.length ≤ 200 := by
  unfold Tb.begin Tb.fresh
  by_cases h0 : num = 0
  · rw [if_pos h0]; simp
  · rw [if_neg h0]
    cases hf : findC id t.row with
    | some k =>
      obtain ⟨hk, _⟩ := findC_some hf
      have := (hok.each _ (List.getElem_mem hk)).rep
      dsimp only
      rw [Tb.at_eq t hk]
      split
      · simp
      · split
        · simp
        · split
          · simp
          · exact this
    | none =>
      dsimp only
      split
      · simp
      · cases freeC t.row <;> simp
theorem encT_len {t : Tb} (hok : t.Ok) : (encT t).length ≤ 1000000 := by
  unfold encT
  have a1 := Lib.uvarint_length64 (x := t.most) (by have := hok.most; omega)
  have a2 := Lib.uvarint_length64 (x := t.row.length) (by have := hok.most; have := hok.len; omega)
  have a3 := bodyT_len t.row hok.each
  have := hok.most
  have := hok.len
  rw [List.length_append, List.length_append]
  omega
/-- The program's table and the document's are one. -/
structure SD2 (W w : World) (F G : Nat → Prop) (g g2 : Nat) (t : Tb) : Prop where
  p : OW W w F g t
  d : DTx w G g2 t
  new : ∀ k, G k → W.heap.size ≤ k
  apart : ∀ k, F k → ¬ G k
def SD (W : World) (g g2 : Nat) (w : World) : Prop := ∃ F G t, SD2 W w F G g g2 t
section
variable {W w w' : World} {F F' G : Nat → Prop} {g g2 : Nat} {t : Tb}
theorem DTx.lt (h : DTx w G g t) : ∀ k, G k → k < w.heap.size := by obtain ⟨_, _, _, _, h⟩ := h; exact h.lt
theorem DTx.kp (h : DTx w G g t) (hk : Kp F w w') (hd : ∀ k, G k → ¬ F k) : DTx w' G g t := by obtain ⟨A, n, c, es, h⟩ := h; exact ⟨A, n, c, es, h.kp hk hd⟩
theorem SD2.below (h : SD2 W w F G g g2 t) (hb : Below w.heap.size w w') : SD2 W w' F G g g2 t := ⟨h.p.below hb, h.d.below hb, h.new, h.apart⟩
theorem SD.below (h : SD W g g2 w) (hb : Below w.heap.size w w') : SD W g g2 w' := by obtain ⟨F, G, t, h⟩ := h; exact ⟨F, G, t, h.below hb⟩
theorem SD.bel (h : SD W g g2 w) : Below W.heap.size W w := by obtain ⟨F, G, t, h⟩ := h; exact h.p.bel
/-- Begin, Begin, Same, Spoil. -/
def DB3 (W : World) (g g2 : Nat) (e : Ending) (w3 : World) : Prop := e = .returned (.tuple #[]) ∧ Hid (SD W g g2 w3)
def DB2 (W : World) (g g2 : Nat) (K E : Int) (A : Option Addr) (m c : Nat) (e : Ending) (w2 : World) : Prop :=
  ∃ Ar nr cr, e = .returned (.tuple #[.int .i64 K, .slice Ar nr cr, .int .i64 E]) ∧ Hid (Calls Try.prog 15 #[.slice A m c, .slice Ar nr cr] w2 fun e w' => e = .returned (.bool true) ∧ w' = w2) ∧ Hid (Calls Try.prog 16 #[.slice A m c] w2 (DB3 W g g2))
def DB1 (W : World) (g g2 bx : Nat) (ty : TypeId) (cs : Array Value) (id num : Nat) (e : Ending) (w1 : World) : Prop :=
  ∃ K A m c E, e = .returned (.tuple #[.int .i64 K, .slice A m c, .int .i64 E]) ∧ Hid (Bk w1 bx ty cs) ∧ Hid (Calls Try.prog 14 #[.pointer (some ⟨g2, 0, none⟩), .int .u64 (id : Int), .int .u64 (num : Int)] w1 (DB2 W g g2 K E A m c))
theorem SD.begin (h : SD W g g2 w) (id num : Nat) (ty : TypeId) (cs : Array Value) (hid : id < 18446744073709551616) (hnum : num < 18446744073709551616) :
    Calls Try.prog 13 #[.pointer (some ⟨g, 0, none⟩), .int .u64 (id : Int), .int .u64 (num : Int)] (w.alloc (.cells cs ty)) (DB1 W g g2 w.heap.size ty cs id num) := by
  obtain ⟨F, G, t, h⟩ := h
  have hb0 := bel1N w (.cells cs ty)
  have hbx := Bk.new w ty cs
  have h0 := h.below hb0
  refine (cbegin_any h0.p.p h0.p.ok id num hid).mono ?_
  rintro e w1 ⟨⟨A, m, c⟩, rfl, HX⟩
  obtain ⟨ho, F', hp, hm, hF⟩ := HX.out
  unfold s3W at ho hF ⊢
  dsimp only at ho hF ⊢
  have hG0 := h.d.lt
  have hF0 := h.p.p.lt
  have hz := hb0.size
  have hx1 := hbx.kp hm.kp (fun hf => by have := hF0 _ hf; omega)
  have d1 := h0.d.kp hm.kp fun k hg hf => h.apart k hf hg
  refine ⟨_, A, m, c, _, rfl, Lib.hid hx1, Lib.hid ?_⟩
  refine (rbegin_any d1 h0.p.ok id num).mono ?_
  rintro e w2 ⟨Ar, nr, cr, rfl, HY⟩
  obtain ⟨G', hd2, hm2, hrd⟩ := HY.out
  have hown2 := own_kp ho hm2.kp fun k e hg => by have := (ho.lt k e).1; have := hG0 k hg; omega
  obtain ⟨A', c', hs, _⟩ := own_shape ho
  injection hs with hs1 hs2 hs3
  subst hs1 hs2 hs3
  have hrep := begin_rep h0.p.ok id num
  have hFG' : ∀ k, G' k → ¬ F' k := hm2.apart (G := F') hp.lt fun k hg hf => by
    rcases hm.new k hf with h1 | h1
    · exact h.apart k h1 hg
    · have := hG0 k hg; omega
  have hFG : ∀ k, F' k → ¬ G k := hm.apart (G := G) (fun k hg => by have := hG0 k hg; omega) h.apart
  have o1 : OW W w1 F' g (t.begin id num).tb := h0.p.step hp (h0.p.ok.begin hid hnum) hm
  have o2 := o1.kp hm2.kp hFG h.new
  refine ⟨Ar, nr, cr, rfl, Lib.hid ?_, Lib.hid ?_⟩
  · refine (same_any A Ar _ nr c cr _ _ _ _ w2 (Rd.of_own hown2) hrd.rd).mono ?_
    rintro e w' ⟨rfl, rfl⟩
    exact ⟨by simp, rfl⟩
  · refine (spoilO_own hown2 (by omega)).mono ?_
    rintro e w3 ⟨rfl, hk3⟩
    refine ⟨rfl, Lib.hid ⟨F', G', _, o2.kp hk3 (fun k hf e => hF k e hf) (fun k e => ?_), hd2.kp hk3 fun k hg e => ?_, hm2.ge o1.bel.size h.new, fun k hf hg => hFG' k hg hf⟩⟩
    · have := (ho.lt k e).1
      have := h0.p.bel.size
      omega
    · rcases hm2.new k hg with h1 | h1
      · have := (ho.lt k e).1; have := hG0 k h1; omega
      · have := (ho.lt k e).2; omega
/-- Lent, End, End, Whole, Spoil. -/
def DE3 (W : World) (g g2 bx : Nat) (ty : TypeId) (cs : Array Value) (A0 : Option Addr) (n0 c0 gv cap : Nat) (r : Int) (e : Ending) (w3 : World) : Prop :=
  e = .returned (.int .i64 r) ∧ Hid (Bk w3 bx ty cs) ∧ Hid (Calls Try.prog 20 #[.slice (some ⟨gv, 0, none⟩) n0 cap, .slice A0 n0 c0] w3 fun e w' => e = .returned (.bool true) ∧ w' = w3) ∧ Hid (Calls Try.prog 16 #[.slice (some ⟨gv, 0, none⟩) n0 cap] w3 (DB3 W g g2))
def DE2 (W : World) (g g2 bx : Nat) (ty : TypeId) (cs : Array Value) (id num : Nat) (A0 : Option Addr) (n0 c0 gv cap : Nat) (e : Ending) (w2 : World) : Prop :=
  ∃ r : Int, e = .returned (.int .i64 r) ∧ Hid (Bk w2 bx ty cs) ∧ Hid (Calls Try.prog 19 #[.pointer (some ⟨g2, 0, none⟩), .int .u64 (id : Int), .int .u64 (num : Int), .slice A0 n0 c0] w2 (DE3 W g g2 bx ty cs A0 n0 c0 gv cap r))
def DE1 (W : World) (g g2 bx : Nat) (ty : TypeId) (cs : Array Value) (id num : Nat) (A0 : Option Addr) (n0 c0 : Nat) (e : Ending) (w1 : World) : Prop :=
  ∃ gv cap, e = .returned (.slice (some ⟨gv, 0, none⟩) n0 cap) ∧ Hid (Bk w1 bx ty cs) ∧ Hid (Calls Try.prog 18 #[.pointer (some ⟨g, 0, none⟩), .int .u64 (id : Int), .int .u64 (num : Int), .slice (some ⟨gv, 0, none⟩) n0 cap] w1 (DE2 W g g2 bx ty cs id num A0 n0 c0 gv cap))
theorem SD.lent (h : SD W g g2 w) (id num : Nat) (A0 : Option Addr) (n0 c0 : Nat) (val : List UInt8) (ty : TypeId) (cs : Array Value) (hid : id < 18446744073709551616) (hr : Rd W W.heap.size A0 n0 val) (hn : n0 ≤ 1000) :
    Calls Try.prog 17 #[.slice A0 n0 c0] (w.alloc (.cells cs ty)) (DE1 W g g2 w.heap.size ty cs id num A0 n0 c0) := by
  obtain ⟨F, G, t, h⟩ := h
  have hb0 := bel1N w (.cells cs ty)
  have hbx := Bk.new w ty cs
  have h0 := h.below hb0
  have hl : val.length = n0 := hr.1
  have hG0 := h.d.lt
  have hF0 := h.p.p.lt
  have hz := hb0.size
  refine (lent_any A0 n0 c0 W.heap.size val _ (by omega) (hr.below h0.p.bel)).mono ?_
  rintro e w1 ⟨gv, cap, rfl, hx, hb1⟩
  have hgv := (hx.lt gv rfl).1
  have hgv2 := (hx.lt gv rfl).2
  have h1 := h0.below hb1
  have own1 : ∀ {a b : Nat} {k : Nat}, (Value.slice (some ⟨gv, 0, none⟩) a b).ownBlock = some k → k = gv := fun e => by cases e; rfl
  refine ⟨gv, cap, rfl, Lib.hid (hbx.below hb1 hbx.lt), Lib.hid ?_⟩
  have hra : RdA w1 F (some ⟨gv, 0, none⟩, n0, cap) val := RdA.of_own (s := (some ⟨gv, 0, none⟩, n0, cap)) (by rw [hl]; exact lent_own hl hx) fun k e hf => by
    have := own1 e
    have := hF0 _ hf
    omega
  refine (h1.p.ended id num hid (some ⟨gv, 0, none⟩) n0 cap val hra (by omega)).mono ?_
  rintro e w2 ⟨rfl, HX⟩
  obtain ⟨F', o2, hm⟩ := HX.out
  have d2 := h1.d.kp hm.kp fun k hg hf => h.apart k hf hg
  have hbx2 := (hbx.below hb1 hbx.lt).kp hm.kp (fun hf => by have := hF0 _ hf; omega)
  have hx2 := own_kp hx hm.kp fun k e hf => by have := own1 e; have := hF0 _ hf; omega
  refine ⟨_, rfl, Lib.hid hbx2, Lib.hid ?_⟩
  obtain ⟨A, n, c, es, d2'⟩ := d2
  refine (rend_any d2' h.p.ok id num A0 n0 c0 val ((hr.below o2.bel).more o2.bel.size) (by omega)).mono ?_
  rintro e w3 ⟨rfl, HY⟩
  obtain ⟨G', hd3, hm3⟩ := HY.out
  have hx3 := own_kp hx2 hm3.kp fun k e hf => by have := own1 e; have := hG0 _ hf; omega
  have hbx3 := hbx2.kp hm3.kp (fun hf => by have := hG0 _ hf; omega)
  have hz1 := hb1.size
  have hFG : ∀ k, F' k → ¬ G k := hm.apart (G := G) (fun k hg => by have := hG0 k hg; omega) h.apart
  have hFG' : ∀ k, G' k → ¬ F' k := hm3.apart (G := F') o2.p.lt fun k hg hf => hFG k hf hg
  have o3 := o2.kp hm3.kp hFG h.new
  refine ⟨rfl, Lib.hid hbx3, Lib.hid ?_, Lib.hid ?_⟩
  · refine (whole_any gv cap _ n0 c0 W.heap.size A0 val w3 (by omega) hx3 (hr.below o3.bel)).mono ?_
    rintro e w' ⟨rfl, rfl⟩
    exact ⟨rfl, rfl⟩
  · refine (spoilO_own (lent_own hl hx3) (by omega)).mono ?_
    rintro e w4 ⟨rfl, hk4⟩
    have hbel := h0.p.bel.size
    refine ⟨rfl, Lib.hid ⟨F', G', _, o3.kp hk4 (fun k hf e => ?_) (fun k e => ?_), hd3.kp hk4 fun k hg e => ?_, hm3.ge o2.bel.size h.new, fun k hf hg => hFG' k hg hf⟩⟩
    · have := own1 e
      rcases hm.new _ hf with h1 | h1
      · have := hF0 _ h1; omega
      · omega
    · have := own1 e
      omega
    · have := own1 e
      rcases hm3.new _ hg with h1 | h1
      · have := hG0 _ h1; omega
      · have := hm.kp.size; omega
/-- Save, Save, Same, Load. -/
def DS3 (W : World) (g2 : Nat) (e : Ending) (w3 : World) : Prop :=
  ∃ g', e = .returned (.tuple #[.pointer (some ⟨g', 0, none⟩), .int .i64 0]) ∧ w3.frozen? ⟨g2, 2, none⟩ = false ∧ (∃ x, w3.cell? ⟨g2, 2, none⟩ = some (.int .i64 x)) ∧ (w3.setCell ⟨g2, 2, none⟩ (.int .i64 0)).frozen? ⟨g2, 3, none⟩ = false ∧ (∃ x, (w3.setCell ⟨g2, 2, none⟩ (.int .i64 0)).cell? ⟨g2, 3, none⟩ = some (.int .i64 x)) ∧ Hid (SD W g' g2 ((w3.setCell ⟨g2, 2, none⟩ (.int .i64 0)).setCell ⟨g2, 3, none⟩ (.int .i64 0)))
def DS2 (W : World) (g2 : Nat) (A : Option Addr) (m c : Nat) (e : Ending) (w2 : World) : Prop :=
  ∃ A2 m2 c2, e = .returned (.slice A2 m2 c2) ∧ Hid (Calls Try.prog 15 #[.slice A m c, .slice A2 m2 c2] w2 fun e w' => e = .returned (.bool true) ∧ w' = w2) ∧ Hid (Calls Try.prog 23 #[.slice A m c] w2 (DS3 W g2))
def DS1 (W : World) (g2 : Nat) (e : Ending) (w1 : World) : Prop :=
  ∃ A m c, e = .returned (.slice A m c) ∧ Hid (Calls Try.prog 22 #[.pointer (some ⟨g2, 0, none⟩)] w1 (DS2 W g2 A m c))
theorem SD.saves (h : SD W g g2 w) (ty : TypeId) (cs : Array Value) : Calls Try.prog 21 #[.pointer (some ⟨g, 0, none⟩)] (w.alloc (.cells cs ty)) (DS1 W g2) := by
  obtain ⟨F, G, t, h⟩ := h
  have h0 := h.below (bel1N w (.cells cs ty))
  have hok := h.p.ok
  refine (csave_any h0.p.p hok).mono ?_
  rintro e w1 ⟨A, c, rfl, HX⟩
  obtain ⟨ho, hb1⟩ := HX.out
  have h1 := h0.below hb1
  refine ⟨A, _, c, rfl, Lib.hid ?_⟩
  obtain ⟨Ad, nd, cd, es, d1⟩ := h1.d
  refine (rsave_any d1 hok).mono ?_
  rintro e w2 ⟨A2, c2, rfl, HY⟩
  obtain ⟨ho2, hb2⟩ := HY.out
  have h2 := h1.below hb2
  have hr := (Rd.of_own ho).up hb2
  refine ⟨A2, _, c2, rfl, Lib.hid ?_, Lib.hid ?_⟩
  · refine (same_any A A2 _ _ c c2 _ _ _ _ w2 hr (Rd.of_own ho2)).mono ?_
    rintro e w' ⟨rfl, rfl⟩
    exact ⟨by simp, rfl⟩
  · refine (cload_any A _ c (encT t) w2 (encT_len hok) hr).mono ?_
    rw [loadT_enc t hok]
    rintro e w3 (⟨e0, _⟩ | ⟨u, g', F2, e0, rfl, HZ⟩)
    · cases e0
    injection e0 with e0
    subst e0
    obtain ⟨hp, hF, hb3⟩ := HZ.out
    have hok' : Tb.Ok ⟨t.most, t.row, 0, 0⟩ := ⟨hok.most, hok.len, hok.ids, hok.each, ⟨by show (_ : Int) ≤ 0; decide, by show (0 : Int) ≤ _; decide⟩, ⟨by show (_ : Int) ≤ 0; decide, by show (0 : Int) ≤ _; decide⟩⟩
    have h3 := h2.below hb3
    obtain ⟨Ae, ne, ce, es3, d3⟩ := h3.d
    have d4 := d3.setNb 0
    have d5 := d4.setNa 0
    have hG3 := h2.d.lt
    have o3 : OW W w3 F2 g' ⟨t.most, t.row, 0, 0⟩ := ⟨hp, hok', fun k hk => Nat.le_trans h2.p.bel.size (hF k hk), h3.p.bel⟩
    have hfg : ∀ k, F2 k → ¬ G k := fun k hf hg => by have := hG3 k hg; have := hF k hf; omega
    have hk4 : Kp G w3 (w3.setCell ⟨g2, 2, none⟩ (.int .i64 0)) := Kp.set_ (F := G) (p := ⟨g2, 2, none⟩) d3.fg _
    have hk5 : Kp G (w3.setCell ⟨g2, 2, none⟩ (.int .i64 0)) ((w3.setCell ⟨g2, 2, none⟩ (.int .i64 0)).setCell ⟨g2, 3, none⟩ (.int .i64 0)) := Kp.set_ (F := G) (p := ⟨g2, 3, none⟩) d3.fg _
    exact ⟨g', rfl, d3.frz 2, ⟨_, d3.cells.2.2.1⟩, d4.frz 3, ⟨_, d4.cells.2.2.2⟩, Lib.hid ⟨F2, G, _, (o3.kp hk4 hfg h.new).kp hk5 hfg h.new, ⟨_, _, _, _, d5⟩, h.new, hfg⟩⟩
/-- Counts, Clients, Same. -/
def DC2 (A : Option Addr) (n c : Nat) (wq : World) (e : Ending) (w5 : World) : Prop :=
  ∃ A5 c5, e = .returned (.slice A5 n c5) ∧ Below wq.heap.size wq w5 ∧ Hid (∀ ws, Below w5.heap.size w5 ws → Calls Try.prog 25 #[.slice A5 n c5, .slice A n c] ws fun e w' => e = .returned (.bool true) ∧ Below ws.heap.size ws w')
def DC1 (W : World) (g g2 : Nat) (e : Ending) (w4 : World) : Prop :=
  ∃ nb na A n c, e = .returned (.tuple #[.int .i64 nb, .int .i64 na]) ∧ Hid (∀ W', Below w4.heap.size w4 W' → (W'.cell? ⟨g2, 1, none⟩ = some (.slice A n c) ∧ W'.cell? ⟨g2, 2, none⟩ = some (.int .i64 nb) ∧ W'.cell? ⟨g2, 3, none⟩ = some (.int .i64 na)) ∧ Below w4.heap.size w4 W') ∧ Hid (∀ wq, Below w4.heap.size w4 wq → Calls Try.prog 26 #[.pointer (some ⟨g, 0, none⟩)] wq (DC2 A n c wq)) ∧ Hid (SD W g g2 w4)
theorem SD.counts (h : SD W g g2 w) : Calls Try.prog 24 #[.pointer (some ⟨g, 0, none⟩)] w (DC1 W g g2) := by
  obtain ⟨F, G, t, h⟩ := h
  refine (counts_any h.p.p).mono ?_
  rintro e w4 ⟨rfl, HX⟩
  have h4 := h.below HX.out
  obtain ⟨A, n, c, es, d4⟩ := h4.d
  refine ⟨t.nb, t.na, A, n, c, rfl, Lib.hid fun W' hb => ?_, Lib.hid fun wq hbq => ?_, Lib.hid ⟨F, G, t, h4⟩⟩
  · have d := d4.below hb
    exact ⟨⟨d.cells.2.1, d.cells.2.2.1, d.cells.2.2.2⟩, hb⟩
  have h4q := h4.below hbq
  have d4q := d4.below hbq
  refine (clients_any h4q.p.p h4q.p.ok).mono ?_
  rintro e w5 ⟨A5, c5, m, rfl, hm, HY⟩
  obtain ⟨es5, he5, hc5, hb5⟩ := HY.out
  have d5 := d4q.below hb5
  have hn : m = n := by rw [hm, d4.len2]
  subst hn
  refine ⟨A5, c5, rfl, hb5, Lib.hid fun w2 hb2 => ?_⟩
  have r1 := hc5.reads
  rw [he5] at r1
  have r2 := d5.row.reads
  rw [d5.eq] at r2
  refine (sameC_any (r1.up hb2) (r2.up hb2) d5.len2 (by have := d5.le h.p.ok; omega)).mono ?_
  rintro e w' ⟨rfl, p, rfl⟩
  exact ⟨rfl, bel_drewN (Below.refl _ _) p⟩
/-- New, New. -/
theorem SD.new (m : Nat) (W : World) (h : 1 ≤ m ∧ m ≤ 64) : Calls Try.prog 11 #[.int .i64 (m : Int)] W fun e w1 => ∃ g, e = .returned (.tuple #[.pointer (some ⟨g, 0, none⟩), .int .i64 0]) ∧ Hid (Calls Try.prog 12 #[.int .i64 (m : Int)] w1 fun e w2 => ∃ g2, e = .returned (.tuple #[.pointer (some ⟨g2, 0, none⟩), .int .i64 0]) ∧ Hid (SD W g g2 w2)) := by
  refine (ow_new m W h).mono ?_
  rintro e w1 ⟨g, F, rfl, HX⟩
  refine ⟨g, rfl, Lib.hid ?_⟩
  refine (rnew_any m w1 h).mono ?_
  rintro e w2 ⟨g2, rfl, HY⟩
  obtain ⟨hd, hg, hb⟩ := HY.out
  have hz := HX.out.bel.size
  exact ⟨g2, rfl, Lib.hid ⟨F, _, _, HX.out.below hb, ⟨_, _, _, _, hd⟩, fun k e => by omega, fun k hf e => by have := HX.out.p.lt k hf; omega⟩⟩
end
end Go.Proofs.Ytgippbbbfpkhhaa
