/- RlogPlays: what both logs tell, in whatever order they are asked. -/
import Derived.Test.YtnomddhgcdoifaaRlPy
import Derived.Test.YtnomddhgcdoifaaRlOw
namespace Go.Proofs.Ytnomddhgcdoifaa
open Go.RowKit

theorem bel_undrew1 {w w' : World} (h : Below w.drew.heap.size w.drew w') : Below w.heap.size w w' := ⟨h.os, h.tape, h.output, h.size, h.block⟩
theorem bel_undrewN1 {w w' : World} {q : Nat} (h : Below (w.drewN q).heap.size (w.drewN q) w') : Below w.heap.size w w' := ⟨h.os, h.tape, h.output, h.size, h.block⟩
theorem CatR.readsE {w : World} {base n c : Nat} {A : Option Addr} {es : List Ene} (h : CatR w base (.slice A n c) n es) : EsR w A (es.map (·.1)) := fun i hi => by
  have hie : i < es.length := by simpa using hi
  have hl := h.len
  obtain ⟨R, c', ev, _, q0, q1, hr⟩ := h.cell i (by omega)
  injection ev with ev _ _
  refine ⟨R, es[i].2, ev, ?_, q1, ?_⟩
  · simpa using q0
  · simpa using hr
/-- A row of the call's own, of entries that lie in the log. -/
theorem RowN.readsE {w w' : World} {G : Nat → Prop} {g n n2 c c2 : Nat} {p : Rl} {A A2 : Option Addr} {es l : List Ene} (h : RDL w G g p A n c es) (hb : Below w.heap.size w w') (hr : RowN w w' (.slice A2 n2 c2) l) (hin : ∀ x ∈ l, x ∈ es) : EsR w' A2 (l.map (·.1)) := fun i hi => by
  have hie : i < l.length := by simpa using hi
  have hbody := ((h.below hb).row.body (hin _ (List.getElem_mem hie))).rd
  rcases hr.1.2 with ⟨_, h0⟩ | ⟨R, cap, cur, hv, _⟩
  · omega
  · injection hv with hv1 hv2 hv3
    have q := fun j (hj : j < 2) u (hu : (enE l[i])[j]? = some u) => hr.1.cells (g := R) (by rw [hv1]; rfl) (i * 2 + j) u (by rw [enC_at l i j hie hj]; exact hu)
    have q0 := q 0 (by omega) _ rfl
    have q1 := q 1 (by omega) _ rfl
    rw [Addr.add_lit, Nat.zero_add] at q0 q1
    refine ⟨R, l[i].2, hv1, ?_, q1, ?_⟩
    · simpa using q0
    · simpa using hbody
section
variable {W w w' : World} {F G : Nat → Prop} {g g2 m : Nat} {p : Rl}
theorem SL2.apP (h : SL2 W w F G g g2 p) : ∀ W', Below w.heap.size w W' → Calls Try.prog 8 #[.pointer (some ⟨g, 0, none⟩)] W' fun e w' => e = .returned (.int .u64 (p.ap : Int)) ∧ Below w.heap.size w w' := fun W' hb => by
  refine ((h.o.below hb).applied).mono ?_
  rintro e w' ⟨rfl, rfl⟩
  exact ⟨rfl, hb⟩
theorem SL2.apD (h : SL2 W w F G g g2 p) : ∀ W', Below w.heap.size w W' → W'.cell? ⟨g2, 0, none⟩ = some (.int .u64 (p.ap : Int)) ∧ Below w.heap.size w W' := fun W' hb => by
  obtain ⟨A, n, c, es, d⟩ := h.d.below hb
  exact ⟨d.c0, hb⟩
theorem SL2.nxP (h : SL2 W w F G g g2 p) : ∀ W', Below w.heap.size w W' → Calls Try.prog 9 #[.pointer (some ⟨g, 0, none⟩)] W' fun e w' => e = .returned (.int .u64 (p.next : Int)) ∧ Below w.heap.size w w' := fun W' hb => by
  refine ((h.o.below hb).next).mono ?_
  rintro e w' ⟨rfl, hx⟩
  exact ⟨rfl, below_then hb hx.out⟩
theorem SL2.nxD (h : SL2 W w F G g g2 p) (hl : p.row.length < 4096) : ∀ W', Below w.heap.size w W' → Calls Try.prog 10 #[.pointer (some ⟨g2, 0, none⟩)] W' fun e w' => e = .returned (.int .u64 (p.next : Int)) ∧ Below w.heap.size w w' := fun W' hb => by
  obtain ⟨A, n, c, es, d⟩ := h.d.below hb
  refine (rnext_any d hl).mono ?_
  rintro e w' ⟨rfl, rfl⟩
  exact ⟨rfl, hb⟩
theorem SL2.tpP (h : SL2 W w F G g g2 p) : ∀ W', Below w.heap.size w W' → Calls Try.prog 11 #[.pointer (some ⟨g, 0, none⟩)] W' fun e w' => e = .returned (.int .u64 (p.top : Int)) ∧ Below w.heap.size w w' := fun W' hb => by
  refine ((h.o.below hb).top).mono ?_
  rintro e w' ⟨rfl, hx⟩
  exact ⟨rfl, below_then hb hx.out⟩
theorem SL2.tpD (h : SL2 W w F G g g2 p) : ∀ W', Below w.heap.size w W' → Calls Try.prog 12 #[.pointer (some ⟨g2, 0, none⟩)] W' fun e w' => e = .returned (.int .u64 (p.top : Int)) ∧ Below w.heap.size w w' := fun W' hb => by
  obtain ⟨A, n, c, es, d⟩ := h.d.below hb
  refine (rtop_any d).mono ?_
  rintro e w' ⟨rfl, rfl⟩
  exact ⟨rfl, hb⟩
/-- What a Catch gives, of either log. -/
def CxE (w W' : World) (L : List En) (N : Nat) (e : Ending) (w' : World) : Prop :=
  ∃ A c, e = .returned (.slice A N c) ∧ Below w.heap.size w w' ∧ Below W'.heap.size W' w' ∧ Hid (∀ V, Below w'.heap.size w' V → EsR V A L)
theorem SL2.caP (h : SL2 W w F G g g2 p) (f : Nat) (hf : f < 18446744073709551616) (most : Int) (hm : most ≤ 9223372036854775807) : ∀ W', Below w.heap.size w W' →
    Calls Try.prog 14 #[.pointer (some ⟨g, 0, none⟩), .int .u64 (f : Int), .int .i64 most] W' (CxE w W' (p.run f most.toNat) (p.run f most.toNat).length) := fun W' hb => by
  refine ((h.o.below hb).catch_ f _ rfl hf most hm).mono ?_
  rintro e w' ⟨A, c, rfl, HX⟩
  obtain ⟨es, hc, he, hb2⟩ := HX.out
  refine ⟨A, c, rfl, below_then hb hb2, hb2, Lib.hid fun V hV => ?_⟩
  have := (hc.up hV).readsE
  rwa [he] at this
theorem SL2.caD (h : SL2 W w F G g g2 p) (f : Nat) (hf : f < 18446744073709551616) (most : Int) (hm : most ≤ 9223372036854775807) : ∀ W', Below w.heap.size w W' →
    Calls Try.prog 15 #[.pointer (some ⟨g2, 0, none⟩), .int .u64 (f : Int), .int .i64 most] W' (CxE w W' (p.run f most.toNat) (p.run f most.toNat).length) := fun W' hb => by
  obtain ⟨A, n, c, es, d⟩ := h.d.below hb
  refine (rcatch_any d f hf most hm).mono ?_
  rintro e w' ⟨A2, n2, c2, l2, rfl, HX⟩
  obtain ⟨hr, hn, he, hin⟩ := HX.out
  have hl : n2 = (p.run f most.toNat).length := by rw [← he, List.length_map, hn]
  rw [← hl]
  refine ⟨A2, c2, rfl, below_then hb hr.2, hr.2, Lib.hid fun V hV => ?_⟩
  have := (RowN.readsE d hr.2 hr hin).up hV
  rwa [he] at this
theorem SL2.run_le (h : SL2 W w F G g g2 p) (f k : Nat) : (p.run f k).length ≤ 5000 := by
  obtain ⟨_, h2, _⟩ := runL_facts k f (p.row.drop (findE f p.row))
  have h3 := h.o.ok.len
  rw [List.length_drop] at h2
  show (runL f k (p.row.drop (findE f p.row))).length ≤ 5000
  omega
theorem sameX {w : World} {L : List En} {N : Nat} (hN : N = L.length) (hN2 : N ≤ 5000) : ∀ (V : World) (A A' : Option Addr) (c c' : Nat), EsR V A L → EsR V A' L → Below w.heap.size w V → Calls Try.prog 13 #[.slice A N c, .slice A' N c'] V fun e w' => e = .returned (.bool true) ∧ Below w.heap.size w w' := fun V A A' c c' h1 h2 hb => by
  refine (sameE_any h1 h2 hN hN2).mono ?_
  rintro e w' ⟨rfl, q, rfl⟩
  exact ⟨rfl, bel_drewN hb q⟩
/-- What Holes gives, of either log. -/
def HxE (W' : World) (H : List Nat) (K : Nat) (e : Ending) (w' : World) : Prop :=
  ∃ A c, e = .returned (.slice A K c) ∧ Hid (Below W'.heap.size W' w') ∧ Hid (∀ V, Below w'.heap.size w' V → ∀ k, k < K → ∃ R, A = some ⟨R, 0, none⟩ ∧ V.cell? ⟨R, k, none⟩ = some (.int .u64 ((H.getD k 0 : Nat) : Int)))
theorem holes_cells {w' V : World} {base n c : Nat} {A : Option Addr} {H : List Nat} (ho : w'.ownsRow base 23 1 (.slice A n c) n (u64s H)) (hn : n = H.length) (hV : Below w'.heap.size w' V) (k : Nat) (hk : k < n) : ∃ R, A = some ⟨R, 0, none⟩ ∧ V.cell? ⟨R, k, none⟩ = some (.int .u64 ((H.getD k 0 : Nat) : Int)) := by
  have ho2 := own_below ho hV fun k e => (ho.lt k e).2
  rcases ho2.2 with ⟨hv, h0⟩ | ⟨R, cap, cur, hv, _⟩
  · injection hv with _ hv _
    omega
  · injection hv with hv1 hv2 hv3
    have q := ho2.cells (g := R) (by rw [hv1]; rfl) k (.int .u64 ((H.getD k 0 : Nat) : Int)) (by simp [u64s, show k < H.length by omega])
    rw [Addr.add_lit, Nat.zero_add] at q
    exact ⟨R, hv1, q⟩
theorem SL2.hoP (h : SL2 W w F G g g2 p) (M : Int) (hM : M ≤ 1000000) : ∀ W', Below w.heap.size w W' → Calls Try.prog 16 #[.pointer (some ⟨g, 0, none⟩), .int .i64 M] W' (HxE W' (p.hol M.toNat p.top) (p.hol M.toNat p.top).length) := fun W' hb => by
  refine ((h.o.below hb).holes M hM).mono ?_
  rintro e w' ⟨A, c, rfl, HX⟩
  obtain ⟨ho, hb2⟩ := HX.out
  exact ⟨A, c, rfl, Lib.hid hb2, Lib.hid fun V hV k hk => holes_cells ho rfl hV k hk⟩
theorem SL2.hoD (h : SL2 W w F G g g2 p) (M : Int) (hM : M ≤ 1000000) : ∀ W', Below w.heap.size w W' → Calls Try.prog 17 #[.pointer (some ⟨g2, 0, none⟩), .int .i64 M] W' (HxE W' (p.hol M.toNat p.top) (p.hol M.toNat p.top).length) := fun W' hb => by
  obtain ⟨A, n, c, es, d⟩ := h.d.below hb
  refine (rholes_any d M hM).mono ?_
  rintro e w' ⟨A2, n2, c2, rfl, ho, hl, hb2⟩
  rw [hl]
  exact ⟨A2, c2, rfl, Lib.hid hb2, Lib.hid fun V hV k hk => holes_cells ho hl.symm hV k hk⟩
/-- Both new. -/
theorem SL.first {w1 : World} (h : OL W w1 F g Rl.new) : SL W g w1.heap.size 0 (w1.alloc (.cells #[.int .u64 0, .slice none 0 0] 31)) := by
  have hb := bel1L w1 (.cells #[.int .u64 0, .slice none 0 0] 31)
  have hk : Bk (w1.alloc (.cells #[.int .u64 0, .slice none 0 0] 31)) w1.heap.size 31 #[.int .u64 0, .slice none 0 0] := Bk.new w1 _ _
  refine ⟨F, fun k => k = w1.heap.size, Rl.new, ⟨h.below hb, ⟨none, 0, 0, [], hk, EnRow.nil _ _, Alike.new, rfl, Rl.Ok.new, rfl, fun k e => by have := hk.lt; omega⟩, fun k e => by have := h.2.2.size; omega, fun k hf e => by have := h.lt k hf; omega⟩, Nat.le_refl _⟩
end
end Go.Proofs.Ytnomddhgcdoifaa
