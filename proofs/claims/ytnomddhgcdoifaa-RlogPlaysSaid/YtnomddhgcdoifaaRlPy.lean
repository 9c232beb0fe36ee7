/- RlogPlays: the program's log beside the document's: one plain log. -/
import Derived.Test.YtnomddhgcdoifaaRlT
import Derived.Test.YtnomddhgcdoifaaRlDf
import Derived.Test.YtnomddhgcdoifaaRlDg
import Derived.Test.YtnomddhgcdoifaaRlDh
import Derived.Test.YtnomddhgcdoifaaRlDi
import Derived.Test.YtnomddhgcdoifaaRlDc
import Derived.Test.YtnomddhgcdoifaaRlGv
import Derived.Test.YtnomddhgcdoifaaLent
import Derived.Test.YtnomddhgcdoifaaSame
namespace Go.Proofs.Ytnomddhgcdoifaa
open Go.RowKit

theorem lentO_own {w : World} {g cap base n : Nat} {l : List UInt8} (hl : l.length = n) (hx : w.ownsRow base 5 1 (.slice (some ⟨g, 0, none⟩) (n + 2) cap) (n + 2) (u8s (l ++ [91, 92]))) : w.ownsRow base 5 1 (.slice (some ⟨g, 0, none⟩) n cap) n (u8s l) := by
  refine ⟨by rw [u8s_len, hl, Nat.mul_one], ?_⟩
  rcases hx.2 with ⟨h', _⟩ | ⟨g', cap', cur, hv, hb, hh, h1, h2, h3, h4⟩
  · cases h'
  · injection hv with hv _ hc
    injection hv with hv
    injection hv with hg
    subst hg hc
    refine .inr ⟨g, cap, cur, rfl, hb, hh, by omega, h2, h3, ?_⟩
    have e : cur.toList.take (n * 1) = (cur.toList.take ((n + 2) * 1)).take (n * 1) := by rw [List.take_take, Nat.min_eq_left (by omega)]
    rw [e, h4, u8s_append, Nat.mul_one]
    have := List.take_left (l₁ := u8s l) (l₂ := u8s [91, 92])
    rwa [u8s_len, hl] at this
def SpoilL (w : World) (v : Value) (e : Ending) (w' : World) : Prop := e = .returned (.tuple #[]) ∧ Kp (fun k => v.ownBlock = some k) w w'
set_option maxRecDepth 100000 in
set_option maxHeartbeats 1000000 in
theorem spoilL_own {w : World} {A : Option Addr} {n c base : Nat} {l : List UInt8} (ho : w.ownsRow base 5 1 (.slice A n c) n (u8s l)) (hn : n ≤ 1000000) : Calls Try.prog 24 #[.slice A n c] w (SpoilL w (.slice A n c)) := by
  rcases ho.2 with ⟨h', h0⟩ | ⟨gr, cap, cur, hv, _⟩
  · subst h0
    injection h' with e1 _ e2
    subst e1
    subst e2
    clear ho
    go_enter Try.func24, Try.ntmps24
    go_wp2_with fail
    go_loopg [2] 0 (fun gk i wr => i = .int .i64 0 ∧ w = wr)
    case atStart => exact ⟨rfl, rfl⟩
    case round =>
      obtain ⟨rfl, rfl⟩ := hrel
      go_wp2
      go_end0
      exact ⟨rfl, Kp.refl _ _⟩
  · injection hv with e1 _ e2
    subst e1
    subst e2
    refine (spoil_any gr n c base l w (by omega) ho).mono ?_
    rintro e w' ⟨rfl, h⟩
    exact ⟨rfl, Kp.of_grown h rfl⟩
theorem learn_row (p : Rl) (s : Nat) (v : List UInt8) : (p.learn s v).2.row.length ≤ p.row.length + 1 := by
  unfold Rl.learn
  repeat' split
  all_goals first
    | exact Nat.le_succ _
    | (show (insE _ _).length ≤ _; rw [insE_len]; exact Nat.le_refl _)
theorem above_row (u : Nat) (l : List En) : (aboveE u l).length ≤ l.length := by unfold aboveE; rw [List.length_drop]; omega
theorem apply_row (p : Rl) : p.apply.row.length ≤ p.row.length := by unfold Rl.apply; split <;> exact Nat.le_refl _
theorem trim_row (p : Rl) (u : Nat) : (p.trim u).2.row.length ≤ p.row.length := above_row _ _
theorem install_row (p : Rl) (u : Nat) : (p.install u).2.row.length ≤ p.row.length := by
  unfold Rl.install
  split
  · exact Nat.le_refl _
  · exact above_row _ _
/-- Both are one log. -/
structure SL2 (W w : World) (F G : Nat → Prop) (g g2 : Nat) (p : Rl) : Prop where
  o : OL W w F g p
  d : RDx w G g2 p
  new : ∀ k, G k → W.heap.size ≤ k
  apart : ∀ k, F k → ¬ G k
def SL (W : World) (g g2 m : Nat) (w : World) : Prop := ∃ F G p, SL2 W w F G g g2 p ∧ p.row.length ≤ m
section
variable {W w w' : World} {F F' G : Nat → Prop} {g g2 m : Nat} {p p' : Rl}
theorem RDx.lt (h : RDx w G g p) : ∀ k, G k → k < w.heap.size := by obtain ⟨_, _, _, _, h⟩ := h; exact h.lt
theorem RDx.kp (h : RDx w G g p) (hk : Kp F w w') (hd : ∀ k, G k → ¬ F k) : RDx w' G g p := by obtain ⟨A, n, c, es, h⟩ := h; exact ⟨A, n, c, es, h.kp hk hd⟩
theorem RDx.below (h : RDx w G g p) (hb : Below w.heap.size w w') : RDx w' G g p := by obtain ⟨A, n, c, es, h⟩ := h; exact ⟨A, n, c, es, h.below hb⟩
theorem SL2.below (h : SL2 W w F G g g2 p) (hb : Below w.heap.size w w') : SL2 W w' F G g g2 p := ⟨h.o.below hb, h.d.below hb, h.new, h.apart⟩
theorem SL.below (h : SL W g g2 m w) (hb : Below w.heap.size w w') : SL W g g2 m w' := by obtain ⟨F, G, p, h, hm⟩ := h; exact ⟨F, G, p, h.below hb, hm⟩
theorem SL.bel (h : SL W g g2 m w) : Below W.heap.size W w := by obtain ⟨F, G, p, h, hm⟩ := h; exact h.o.2.2
theorem SL.mono {m' : Nat} (h : SL W g g2 m w) (hm : m ≤ m') : SL W g g2 m' w := by obtain ⟨F, G, p, h, h2⟩ := h; exact ⟨F, G, p, h, by omega⟩
/-- The program's log has turned: the document's is as it was. -/
theorem SL2.actP (h : SL2 W w F G g g2 p) (hp : OL W w' F' g p') (hm : Mv F F' w w') : OL W w' F' g p' ∧ RDx w' G g2 p ∧ ∀ k, F' k → ¬ G k :=
  ⟨hp, h.d.kp hm.kp fun k hg hf => h.apart k hf hg, hm.apart (G := G) h.d.lt h.apart⟩
/-- .. and the document's has turned too. -/
theorem SL2.actD {G' : Nat → Prop} (hp : OL W w F' g p') (hn : ∀ k, G k → W.heap.size ≤ k) (ha : ∀ k, F' k → ¬ G k) (hd : RDx w' G' g2 p') (hm : Mv G G' w w') : SL2 W w' F' G' g g2 p' :=
  ⟨hp.kp hm.kp ha hn, hd, hm.ge hp.2.2.size hn, fun k hf hg => hm.apart (G := F') hp.1.lt (fun k hg hf => ha k hf hg) k hg hf⟩
/-- Trim, Trim. -/
def LT1 (W : World) (g g2 m bx u : Nat) (ty : TypeId) (cs : Array Value) (e : Ending) (w1 : World) : Prop :=
  ∃ r : Int, e = .returned (.int .i64 r) ∧ Hid (Bk w1 bx ty cs) ∧ Hid (Calls Try.prog 26 #[.pointer (some ⟨g2, 0, none⟩), .int .u64 (u : Int)] w1 fun e w2 => e = .returned (.int .i64 r) ∧ Hid (SL W g g2 m w2))
theorem SL.trim (h : SL W g g2 m w) (u : Nat) (ty : TypeId) (cs : Array Value) :
    Calls Try.prog 20 #[.pointer (some ⟨g, 0, none⟩), .int .u64 (u : Int)] (w.alloc (.cells cs ty)) (LT1 W g g2 m w.heap.size u ty cs) := by
  obtain ⟨F, G, p, h, hm⟩ := h
  have hb0 := bel1L w (.cells cs ty)
  have hbx := Bk.new w ty cs
  have h0 := h.below hb0
  have hF0 := h.o.1.lt
  refine (h0.o.trim u _ rfl).mono ?_
  rintro e w1 ⟨rfl, HX⟩
  obtain ⟨hp, hmv⟩ := HX.out
  obtain ⟨o1, d1, a1⟩ := h0.actP hp hmv
  obtain ⟨A, n, c, es, d1'⟩ := d1
  refine ⟨_, rfl, Lib.hid (hbx.kp hmv.kp (fun hf => by have := hF0 _ hf; omega)), Lib.hid ?_⟩
  refine (rtrim_any d1' u).mono ?_
  rintro e w2 ⟨rfl, HY⟩
  obtain ⟨G', d2, m2⟩ := HY.out
  exact ⟨rfl, Lib.hid ⟨F, G', _, SL2.actD o1 h.new a1 d2 m2, Nat.le_trans (trim_row p u) hm⟩⟩
/-- Install, Install. -/
def LI1 (W : World) (g g2 m bx u : Nat) (ty : TypeId) (cs : Array Value) (e : Ending) (w1 : World) : Prop :=
  ∃ r : Bool, e = .returned (.bool r) ∧ Hid (Bk w1 bx ty cs) ∧ Hid (Calls Try.prog 28 #[.pointer (some ⟨g2, 0, none⟩), .int .u64 (u : Int)] w1 fun e w2 => e = .returned (.bool r) ∧ Hid (SL W g g2 m w2))
theorem SL.install (h : SL W g g2 m w) (u : Nat) (hu : u < 18446744073709551616) (ty : TypeId) (cs : Array Value) :
    Calls Try.prog 27 #[.pointer (some ⟨g, 0, none⟩), .int .u64 (u : Int)] (w.alloc (.cells cs ty)) (LI1 W g g2 m w.heap.size u ty cs) := by
  obtain ⟨F, G, p, h, hm⟩ := h
  have hb0 := bel1L w (.cells cs ty)
  have hbx := Bk.new w ty cs
  have h0 := h.below hb0
  have hF0 := h.o.1.lt
  refine (h0.o.install u hu).mono ?_
  rintro e w1 ⟨rfl, HX⟩
  obtain ⟨hp, hmv⟩ := HX.out
  obtain ⟨o1, d1, a1⟩ := h0.actP hp hmv
  obtain ⟨A, n, c, es, d1'⟩ := d1
  refine ⟨_, rfl, Lib.hid (hbx.kp hmv.kp (fun hf => by have := hF0 _ hf; omega)), Lib.hid ?_⟩
  refine (rinstall_any d1' u hu).mono ?_
  rintro e w2 ⟨rfl, HY⟩
  obtain ⟨G', d2, m2⟩ := HY.out
  exact ⟨rfl, Lib.hid ⟨F, G', _, SL2.actD o1 h.new a1 d2 m2, Nat.le_trans (install_row p u) hm⟩⟩
/-- Lent, Learn, Learn, Whole, Spoil. -/
def LL3 (W : World) (g g2 m : Nat) (e : Ending) (w4 : World) : Prop := e = .returned (.tuple #[]) ∧ Hid (SL W g g2 m w4)
def LL2 (W : World) (g g2 m bx : Nat) (ty : TypeId) (cs : Array Value) (A0 : Option Addr) (n0 c0 gv cap : Nat) (r : Int) (e : Ending) (w3 : World) : Prop :=
  e = .returned (.int .i64 r) ∧ Hid (Bk w3 bx ty cs) ∧ Hid (Calls Try.prog 23 #[.slice (some ⟨gv, 0, none⟩) n0 cap, .slice A0 n0 c0] w3 fun e w' => e = .returned (.bool true) ∧ w' = w3) ∧ Hid (Calls Try.prog 24 #[.slice (some ⟨gv, 0, none⟩) n0 cap] w3 (LL3 W g g2 m))
def LL1 (W : World) (g g2 m bx : Nat) (ty : TypeId) (cs : Array Value) (s : Nat) (A0 : Option Addr) (n0 c0 gv cap : Nat) (e : Ending) (w2 : World) : Prop :=
  ∃ r : Int, e = .returned (.int .i64 r) ∧ Hid (Bk w2 bx ty cs) ∧ Hid (Calls Try.prog 22 #[.pointer (some ⟨g2, 0, none⟩), .int .u64 (s : Int), .slice A0 n0 c0] w2 (LL2 W g g2 m bx ty cs A0 n0 c0 gv cap r))
def LL0 (W : World) (g g2 m bx : Nat) (ty : TypeId) (cs : Array Value) (s : Nat) (A0 : Option Addr) (n0 c0 : Nat) (e : Ending) (w1 : World) : Prop :=
  ∃ gv cap, e = .returned (.slice (some ⟨gv, 0, none⟩) n0 cap) ∧ Hid (Bk w1 bx ty cs) ∧ Hid (Calls Try.prog 18 #[.pointer (some ⟨g, 0, none⟩), .int .u64 (s : Int), .slice (some ⟨gv, 0, none⟩) n0 cap] w1 (LL1 W g g2 m bx ty cs s A0 n0 c0 gv cap))
theorem SL.lent (h : SL W g g2 m w) (s : Nat) (A0 : Option Addr) (n0 c0 : Nat) (val : List UInt8) (ty : TypeId) (cs : Array Value) (hs : s < 18446744073709551616) (hr : Rd W W.heap.size A0 n0 val) (hn : n0 ≤ 1000) :
    Calls Try.prog 21 #[.slice A0 n0 c0] (w.alloc (.cells cs ty)) (LL0 W g g2 (m + 1) w.heap.size ty cs s A0 n0 c0) := by
  obtain ⟨F, G, p, h, hm⟩ := h
  have hb0 := bel1L w (.cells cs ty)
  have hbx := Bk.new w ty cs
  have h0 := h.below hb0
  have hl : val.length = n0 := hr.1
  have hG0 := h.d.lt
  have hF0 := h.o.1.lt
  have hz := hb0.size
  refine (lent_any A0 n0 c0 W.heap.size val _ (by omega) (hr.below h0.o.2.2)).mono ?_
  rintro e w1 ⟨gv, cap, rfl, hx, hb1⟩
  have hgv := (hx.lt gv rfl).1
  have hgv2 := (hx.lt gv rfl).2
  have h1 := h0.below hb1
  have own1 : ∀ {a b : Nat} {k : Nat}, (Value.slice (some ⟨gv, 0, none⟩) a b).ownBlock = some k → k = gv := fun e => by cases e; rfl
  refine ⟨gv, cap, rfl, Lib.hid (hbx.below hb1 hbx.lt), Lib.hid ?_⟩
  have hx0 := lentO_own hl hx
  have hra : Rd w1 w1.heap.size (some ⟨gv, 0, none⟩) n0 val := Rd.of_own hx0
  refine (h1.o.learn s _ rfl hs cap hra (by omega)).mono ?_
  rintro e w2 ⟨rfl, HX⟩
  obtain ⟨F', o2, hmv⟩ := HX.out
  have hbx2 := (hbx.below hb1 hbx.lt).kp hmv.kp (fun hf => by have := hF0 _ hf; omega)
  have hx2 := own_kp hx hmv.kp fun k e hf => by have := own1 e; have := hF0 _ hf; omega
  obtain ⟨_, d2, a2⟩ := h1.actP o2 hmv
  refine ⟨_, rfl, Lib.hid hbx2, Lib.hid ?_⟩
  obtain ⟨A, n, c, es, d2'⟩ := d2
  refine (rlearn_any d2' s hs c0 ((hr.below o2.2.2).more o2.2.2.size) (by omega)).mono ?_
  rintro e w3 ⟨rfl, HY⟩
  obtain ⟨G', d3, m3⟩ := HY.out
  have hx3 := own_kp hx2 m3.kp fun k e hf => by have := own1 e; have := hG0 _ hf; omega
  have hbx3 := hbx2.kp m3.kp (fun hf => by have := hG0 _ hf; omega)
  have hz1 := hb1.size
  have h3 := SL2.actD o2 h.new a2 d3 m3
  refine ⟨rfl, Lib.hid hbx3, Lib.hid ?_, Lib.hid ?_⟩
  · refine (whole_any gv cap _ n0 c0 W.heap.size A0 val w3 (by omega) hx3 (hr.below h3.o.2.2)).mono ?_
    rintro e w' ⟨rfl, rfl⟩
    exact ⟨rfl, rfl⟩
  · refine (spoilL_own (lentO_own hl hx3) (by omega)).mono ?_
    rintro e w4 ⟨rfl, hk4⟩
    have hbel := h0.o.2.2.size
    have hnF : ∀ k, (Value.slice (some ⟨gv, 0, none⟩) n0 cap).ownBlock = some k → ¬ F' k := fun k e hf => by
      have := own1 e
      rcases hmv.new _ hf with h1 | h1
      · have := hF0 _ h1; omega
      · omega
    refine ⟨rfl, Lib.hid ⟨F', G', _, ⟨h3.o.kp hk4 (fun k hf e => hnF k e hf) (fun k e => ?_), h3.d.kp hk4 fun k hg e => ?_, h3.new, h3.apart⟩, Nat.le_trans (learn_row p s val) (by omega)⟩⟩
    · have := own1 e
      omega
    · have := own1 e
      rcases m3.new _ hg with h1 | h1
      · have := hG0 _ h1; omega
      · have := hmv.kp.size; omega
/-- Apply, Apply, Same, Spoil. -/
def LA1 (W : World) (g g2 m : Nat) (B : Nat) (x : En) (b : Bool) (A : Option Addr) (n c : Nat) (W' : World) (e : Ending) (w2 : World) : Prop :=
  ∃ A2 n2 c2, e = .returned (.tuple #[.agg #[.int .u64 (x.slot : Int), .slice A2 n2 c2], .bool b]) ∧ Hid (∀ (a : Addr) v, B ≤ a.block → W'.cell? a = some v → w2.cell? a = some v) ∧
    Hid (∀ V, Below w2.heap.size w2 V → (∀ R R2, V.cell? ⟨R, 0, none⟩ = some (.int .u64 (x.slot : Int)) → V.cell? ⟨R, 1, none⟩ = some (.slice A n c) → V.cell? ⟨R2, 0, none⟩ = some (.int .u64 (x.slot : Int)) → V.cell? ⟨R2, 1, none⟩ = some (.slice A2 n2 c2) →
      Calls Try.prog 13 #[.slice (some ⟨R, 0, none⟩) 1 1, .slice (some ⟨R2, 0, none⟩) 1 1] V fun e w' => e = .returned (.bool true) ∧ ∃ q, w' = V.drewN q) ∧ Calls Try.prog 24 #[.slice A n c] V (LL3 W g g2 m))
def LA0 (W : World) (g g2 m : Nat) (e : Ending) (w1 : World) : Prop :=
  ∃ x b A n c, e = .returned (.tuple #[.agg #[.int .u64 (x.slot : Int), .slice A n c], .bool b]) ∧ Hid (∀ W', Below w1.heap.size w1 W' → Calls Try.prog 25 #[.pointer (some ⟨g2, 0, none⟩)] W' (LA1 W g g2 m w1.heap.size x b A n c W'))
theorem SL.apply (h : SL W g g2 m w) (ty : TypeId) (cs : Array Value) : Calls Try.prog 19 #[.pointer (some ⟨g, 0, none⟩)] (w.alloc (.cells cs ty)) (LA0 W g g2 m) := by
  obtain ⟨F, G, p, h, hm⟩ := h
  have hb0 := bel1L w (.cells cs ty)
  have h0 := h.below hb0
  have hz := hb0.size
  have hF0 := h.o.1.lt
  have hG0 := h.d.lt
  refine (h0.o.apply).mono ?_
  rintro e w1 ⟨⟨A, n, c⟩, rfl, HX⟩
  obtain ⟨ho, hp, hmv⟩ := HX.out
  obtain ⟨o1, d1, a1⟩ := h0.actP hp hmv
  have hG1 := d1.lt
  obtain ⟨x, hx⟩ : ∃ x, x = p.told.1 := ⟨_, rfl⟩
  rw [← hx] at ho ⊢
  obtain ⟨A', c', hs, _⟩ := own_shape ho
  unfold s3W at hs
  dsimp only at hs
  injection hs with hs1 hs2 hs3
  subst hs1 hs2 hs3
  have hxl : x.val.length ≤ 100 := by
    rw [hx]
    unfold Rl.told
    split
    · rename_i hh
      obtain ⟨hk, e1, _⟩ := Rl.at_eq hh
      show (p.at_ _).val.length ≤ 100
      rw [e1]
      exact h.o.ok.val _ (List.getElem_mem _)
    · exact Nat.zero_le _
  refine ⟨x, p.told.2, A, _, c, rfl, Lib.hid fun W' hb => ?_⟩
  have d1' := d1.below hb
  have o1' := o1.below hb
  obtain ⟨Ad, nd, cd, es, dd⟩ := d1'
  refine (rapply_any dd).mono ?_
  rintro e w2 ⟨⟨A2, n2, c2⟩, rfl, HY⟩
  obtain ⟨G', d2, m2, hr2⟩ := HY.out
  have hG1' := (show RDx W' G g2 p from ⟨_, _, _, _, dd⟩).lt
  rw [← hx] at hr2 ⊢
  have h2 := SL2.actD o1' h.new a1 d2 m2
  have ownk : ∀ k, (s3W (A, x.val.length, c)).ownBlock = some k → (w.alloc (.cells cs ty)).heap.size ≤ k ∧ k < w1.heap.size := fun k e => ho.lt k e
  have hoW := own_below ho hb fun k e => (ho.lt k e).2
  have ho2 := own_kp hoW m2.kp fun k e hg => by have := ownk k e; have := hG0 k hg; omega
  refine ⟨A2, n2, c2, rfl, Lib.hid fun a v ha hv => cell_kp hv m2.kp fun hg => by have := hG1 _ hg; omega, Lib.hid fun V hbV => ⟨fun R R2 q0 q1 q2 q3 => ?_, ?_⟩⟩
  · have hrA : Rd V V.heap.size A x.val.length x.val := (Rd.of_own ho2).up hbV
    have hrB : Rd V V.heap.size A2 n2 x.val := (RdF.rd hr2).up hbV
    refine sameE_any (l := [x]) (fun i hi => ?_) (fun i hi => ?_) rfl (by omega)
    · obtain rfl : i = 0 := by simp at hi; omega
      exact ⟨R, (A, x.val.length, c), rfl, q0, q1, hrA⟩
    · obtain rfl : i = 0 := by simp at hi; omega
      exact ⟨R2, (A2, n2, c2), rfl, q2, q3, hrB⟩
  · have ho3 := own_below ho2 hbV fun k e => (ho2.lt k e).2
    refine (spoilL_own ho3 (Nat.le_trans hxl (by decide))).mono ?_
    rintro e w4 ⟨rfl, hk4⟩
    have h3 := h2.below hbV
    have hzb := h0.o.2.2.size
    refine ⟨rfl, Lib.hid ⟨F, G', _, ⟨h3.o.kp hk4 (fun k hf e => ?_) (fun k e => ?_), h3.d.kp hk4 fun k hg e => ?_, h3.new, h3.apart⟩, Nat.le_trans (apply_row p) hm⟩⟩
    · have := ownk k e; have := hF0 k hf; omega
    · have := ownk k e; omega
    · have := ownk k e
      rcases m2.new _ hg with h1 | h1
      · have := hG0 _ h1; omega
      · have := hb.size; omega
end
end Go.Proofs.Ytnomddhgcdoifaa
