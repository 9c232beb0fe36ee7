/- OnceLoads: of any bytes the table that they are, or that they are none, is what the chapter says; what is loaded is saved as the bytes. -/
import Derived.Test.YtgippbbbfpkhhaaOnLr
import Derived.Test.YtgippbbbfpkhhaaOnH
import Derived.Test.YtgippbbbfpkhhaaOnT
import Derived.Test.YtgippbbbfpkhhaaLaw
import Derived.Test.YtgippbbbfpkhhaaOwn
import Derived.BigQuiet
import Derived.Deep.QuietTactic
import Derived.Deep.CutRange
import Derived.Deep.RegionHeld3
namespace Go.Proofs.Ytgippbbbfpkhhaa
open Go.ChangeShapes Go.WideShapes Go.ChangeAt Go.RowKit Go.Maps

theorem belAl {w V : World} (o : Obj) (h : Below w.heap.size w V) : Below w.heap.size w (V.alloc o) := h.alloc h.size o
/-- Two rows of bytes, the one made behind the other: Own says so. -/
theorem own2_any {w : World} {b1 b2 : Nat} {A1 A2 : Option Addr} {c1 c2 : Nat} {l : List UInt8} (h1 : w.ownsRow b1 5 1 (.slice A1 l.length c1) l.length (u8s l)) (h2 : w.ownsRow b2 5 1 (.slice A2 l.length c2) l.length (u8s l)) (hap : ∀ k, (Value.slice A1 l.length c1).ownBlock = some k → k < b2) (hB : b1 ≤ b2 ∧ b2 ≤ w.heap.size) (hl : l.length ≤ 1000000) :
    ∀ W2, Below w.heap.size w W2 → Calls Try.prog 28 #[.slice (some ⟨W2.heap.size, 0, none⟩) 2 2] (W2.alloc (.cells #[.slice A1 l.length c1, .slice A2 l.length c2] 33)) fun e w' => e = .returned (.bool true) ∧ Below b1 (W2.alloc (.cells #[.slice A1 l.length c1, .slice A2 l.length c2] 33)) w' := fun W2 hb2 => by
  have ha := bel1N W2 (.cells #[.slice A1 l.length c1, .slice A2 l.length c2] 33)
  have hbb := below_then hb2 ha
  have e1 := own_below h1 hbb fun k e => (h1.lt k e).2
  have e2 := own_mono (own_below h2 hbb fun k e => (h2.lt k e).2) hB.1
  have hz := hb2.size
  have hrow : (W2.alloc (.cells #[.slice A1 l.length c1, .slice A2 l.length c2] 33)).ownsRow W2.heap.size 33 1 (.slice (some ⟨W2.heap.size, 0, none⟩) 2 2) 2 [.slice A1 l.length c1, .slice A2 l.length c2] := World.ownsRow_lit W2 #[.slice A1 l.length c1, .slice A2 l.length c2] 2 (Nat.le_refl _) (by decide) (by simp)
  have hlies : Lies (W2.alloc (.cells #[.slice A1 l.length c1, .slice A2 l.length c2] 33)) b1 5 33 (.slice (some ⟨W2.heap.size, 0, none⟩) 2 2) [.slice A1 l.length c1, .slice A2 l.length c2] (fun _ => l) := by
    refine ⟨own_mono hrow (by omega), fun i v hi => ?_⟩
    match i, hi with
    | 0, hi => injection hi with hi; subst hi; exact e1
    | 1, hi => injection hi with hi; subst hi; exact e2
    | i + 2, hi => simp at hi
  have a12 : Apart (Value.slice A1 l.length c1) (.slice A2 l.length c2) := fun k e e' => by
    have := hap k e
    have := (h2.lt k e').1
    omega
  have hap2 : AllApart [Value.slice A1 l.length c1, .slice A2 l.length c2] := by
    intro i j v u hij hv hu
    have hi4 : i < 2 := (List.getElem?_eq_some_iff.1 hv).1
    have hj4 : j < 2 := (List.getElem?_eq_some_iff.1 hu).1
    have hi' : i = 0 ∨ i = 1 := by omega
    have hj' : j = 0 ∨ j = 1 := by omega
    rcases hi' with rfl | rfl <;> rcases hj' with rfl | rfl <;> first | exact absurd rfl hij | (injection hv with hv; injection hu with hu; subst hv hu; first | exact a12 | exact a12.symm)
  have hsz : (W2.alloc (.cells #[.slice A1 l.length c1, .slice A2 l.length c2] 33)).heap.size = W2.heap.size + 1 := by simp
  exact own_any _ 2 2 b1 _ (fun _ => l) _ rfl hlies hap2 (by omega) (by decide) (fun _ => by omega)
set_option maxHeartbeats 8000000 in
set_option maxRecDepth 100000 in
theorem onceLoads_walk (A : Option Addr) (n c : Nat) (l : List UInt8) (W : World) (hc : n ≤ c) (hm : c ≤ 9223372036854775807) (hr : Rd W W.heap.size A n l) :
    Calls Try.prog 4 #[.slice A n c] W fun e w' => e = .returned (.bool true) ∧ Below W.heap.size W w' := by
  have HKn := Lib.hid (fun w => known13_any w)
  have HR := Lib.hid hr
  have hl := hr.1
  by_cases h20 : 20000 < n
  · have m1 : (20000 : Int) < (n : Int) := by omega
    clear hr hl
    go_enter Try.func4, Try.ntmps4
    go_wp2_with fail
    refine (HKn.out _).mono ?_
    rintro e w2 ⟨rfl, hb2⟩
    go_wp2
    go_ret
    exact ⟨rfl, hb2⟩
  have m1 : ¬ (20000 : Int) < (n : Int) := by omega
  have HLn := Lib.hid (lent_any A n c W.heap.size l W (by omega) hr)
  have HLl := Lib.hid hl
  have HCc := Lib.hid (And.intro hc hm)
  clear hr hl
  go_enter Try.func4, Try.ntmps4
  go_wp2_with fail
  refine HLn.out.mono ?_
  clear HLn
  rintro e w1 ⟨gv, cap, rfl, hx, hb1⟩
  have HLd := Lib.hid (cload_any (some ⟨gv, 0, none⟩) n cap l w1 (by omega) (Rd.of_own (lent_own HLl.out hx)))
  have HX1 := Lib.hid (And.intro hx hb1)
  clear hx hb1
  cases hq : loadT l with
  | none =>
    rw [hq] at HLd
    go_wp2_with fail
    refine HLd.out.mono ?_
    clear HLd
    rintro e w2 (⟨_, rfl, H2⟩ | ⟨_, _, _, e0, _⟩)
    case inr => cases e0
    have HRl := Lib.hid (rload_any A n c l w2 HCc.out (by omega) ((HR.out.up HX1.out.2).up H2.out))
    rw [hq] at HRl
    go_wp2_with fail
    refine HRl.out.mono ?_
    clear HRl
    rintro e w3 (⟨_, rfl, H3⟩ | ⟨_, _, _, _, _, _, _, e0, _⟩)
    case inr => cases e0
    have HB3 : Hid (Below w1.heap.size w1 w3) := Lib.hid (below_then H2.out H3.out)
    have HWh : Hid (Calls Try.prog 20 #[.slice (some ⟨gv, 0, none⟩) n cap, .slice A n c] w3 fun e w' => e = .returned (.bool true) ∧ w3 = w') := Lib.hid (whole_any gv cap _ n c W.heap.size A l w3 (by omega) (own_below HX1.out.1 HB3.out fun k e => (HX1.out.1.lt k e).2) (HR.out.below (HX1.out.2.trans (HB3.out.mono HX1.out.2.size))))
    have HBW : Hid (Below W.heap.size W w3) := Lib.hid (HX1.out.2.trans (HB3.out.mono HX1.out.2.size))
    clear H2 H3
    go_upto_region 7 with (go_at_call 20; refine HWh.out.mono ?_; rintro e w' ⟨rfl, rfl⟩)
    refine (HKn.out _).mono ?_
    rintro e w4 ⟨rfl, hb4⟩
    have HB4 : Hid (Below W.heap.size W w4) := Lib.hid (HBW.out.trans (hb4.mono HBW.out.size))
    clear hb4 HWh HB3 HBW HX1
    go_wp2
    go_ret
    exact ⟨rfl, HB4.out⟩
  | some t =>
    obtain ⟨hE, hok, _, _⟩ := loadT_inv hq
    rw [hq] at HLd
    go_wp2_with fail
    refine HLd.out.mono ?_
    clear HLd
    rintro e w2 (⟨e0, _⟩ | ⟨u, g, F, e0, rfl, H2⟩)
    case inl => cases e0
    injection e0 with e0
    subst e0
    have HRl := Lib.hid (rload_any A n c l w2 HCc.out (by omega) ((HR.out.up HX1.out.2).up H2.out.2.2))
    rw [hq] at HRl
    go_wp2_with fail
    refine HRl.out.mono ?_
    clear HRl
    rintro e w3 (⟨e0, _⟩ | ⟨u, g2, G, Am, nm, cm, es, e0, rfl, H3⟩)
    case inl => cases e0
    injection e0 with e0
    subst e0
    have HB3 : Hid (Below w1.heap.size w1 w3) := Lib.hid (below_then H2.out.2.2 H3.out.2.2)
    have HBW : Hid (Below W.heap.size W w3) := Lib.hid (HX1.out.2.trans (HB3.out.mono HX1.out.2.size))
    have HWh : Hid (Calls Try.prog 20 #[.slice (some ⟨gv, 0, none⟩) n cap, .slice A n c] w3 fun e w' => e = .returned (.bool true) ∧ w3 = w') := Lib.hid (whole_any gv cap _ n c W.heap.size A l w3 (by omega) (own_below HX1.out.1 HB3.out fun k e => (HX1.out.1.lt k e).2) (HR.out.below HBW.out))
    have HSp : Hid (Calls Try.prog 16 #[.slice (some ⟨gv, 0, none⟩) n cap] w3 (SpoilO w3 (.slice (some ⟨gv, 0, none⟩) n cap))) := Lib.hid (spoilO_own (lent_own HLl.out (own_below HX1.out.1 HB3.out fun k e => (HX1.out.1.lt k e).2)) (by omega))
    have HEl := Lib.hid hE
    have HOk := Lib.hid hok
    clear hE hok hq
    go_upto_region 9 with (go_at_call 20; refine HWh.out.mono ?_; rintro e w' ⟨rfl, rfl⟩)
    refine HSp.out.mono ?_
    rintro e w4 ⟨rfl, hk4⟩
    have HS4 : Hid (PT w4 F g t ∧ DT w4 G g2 t Am nm cm es ∧ Rd w4 W.heap.size A n l ∧ Below W.heap.size W w4) := Lib.hid (by
      have hgv := (HX1.out.1.lt gv rfl)
      have own1 : ∀ {a b : Nat} {k : Nat}, (Value.slice (some ⟨gv, 0, none⟩) a b).ownBlock = some k → k = gv := fun e => by cases e; rfl
      have hz := H2.out.2.2.size
      have hbel : Below W.heap.size W w4 := HBW.out.trans (hk4.below (fun k e => by have := own1 e; omega) HBW.out.size)
      exact ⟨(H2.out.1.below H3.out.2.2).kp hk4 (fun k hf e => by have := own1 e; have := H2.out.2.1 k hf; omega), H3.out.1.kp hk4 (fun k hf e => by have := own1 e; have := H3.out.2.1 k hf; omega), HR.out.below hbel, hbel⟩)
    have HC1 := Lib.hid (csave_any HS4.out.1 HOk.out)
    rw [HEl.out] at HC1
    clear hk4 HSp HWh HB3 HBW H2 H3 HX1
    go_wp2_with fail
    refine HC1.out.mono ?_
    clear HC1
    rintro e w5 ⟨A5, c5, rfl, H5⟩
    have HC2 := Lib.hid (csave_any (HS4.out.1.below H5.out.2) HOk.out)
    rw [HEl.out] at HC2
    go_wp2_with fail
    refine HC2.out.mono ?_
    clear HC2
    rintro e w6 ⟨A6, c6, rfl, H6⟩
    have HB46 : Hid (Below w4.heap.size w4 w6) := Lib.hid (below_then H5.out.2 H6.out.2)
    have HB64 : Hid (∀ W', Below w6.heap.size w6 W' → Below w4.heap.size w4 W') := Lib.hid fun W' hb => below_then HB46.out hb
    have HCc : Hid (∀ W', Below w4.heap.size w4 W' → W'.cell? ⟨g2, 1, none⟩ = some (.slice Am nm cm) ∧ Below w4.heap.size w4 W') := Lib.hid fun W' hb => ⟨(HS4.out.2.1.below hb).cells.2.1, hb⟩
    have HS1 : Hid (∀ W', Below w6.heap.size w6 W' → Calls Try.prog 15 #[.slice A5 l.length c5, .slice A n c] W' fun e w' => e = .returned (.bool true) ∧ Below w6.heap.size w6 w') := Lib.hid fun W' hb => by
      refine (same_any A5 A _ _ c5 c _ _ l l W' (Rd.of_own (own_below (own_below H5.out.1 H6.out.2 fun k e => (H5.out.1.lt k e).2) hb fun k e => Nat.lt_of_lt_of_le (H5.out.1.lt k e).2 H6.out.2.size)) (HR.out.below (HS4.out.2.2.2.trans ((HB64.out W' hb).mono HS4.out.2.2.2.size)))).mono ?_
      rintro e w' ⟨rfl, rfl⟩
      exact ⟨by simp, hb⟩
    have HS2 : Hid (∀ W', Below w6.heap.size w6 W' → Calls Try.prog 15 #[.slice A6 l.length c6, .slice A n c] W' fun e w' => e = .returned (.bool true) ∧ Below w6.heap.size w6 w') := Lib.hid fun W' hb => by
      refine (same_any A6 A _ _ c6 c _ _ l l W' (Rd.of_own (own_below H6.out.1 hb fun k e => (H6.out.1.lt k e).2)) (HR.out.below (HS4.out.2.2.2.trans ((HB64.out W' hb).mono HS4.out.2.2.2.size)))).mono ?_
      rintro e w' ⟨rfl, rfl⟩
      exact ⟨by simp, hb⟩
    have HCl : Hid (∀ wq, Below w6.heap.size w6 wq → Calls Try.prog 26 #[.pointer (some ⟨g, 0, none⟩)] wq fun e w' => ∃ A7 c7, e = .returned (.slice A7 nm c7) ∧ Below w6.heap.size w6 w' ∧ Hid (∀ ws, Below w'.heap.size w' ws → Calls Try.prog 25 #[.slice A7 nm c7, .slice Am nm cm] ws fun e w9 => e = .returned (.bool true) ∧ Below ws.heap.size ws w9)) := Lib.hid fun wq hbq => by
      have p := HS4.out.1.below (HB64.out wq hbq)
      have d := HS4.out.2.1.below (HB64.out wq hbq)
      refine (clients_any p HOk.out).mono ?_
      rintro e w7 ⟨A7, c7, m, rfl, hm, HY⟩
      obtain ⟨es5, he5, hc5, hb5⟩ := HY.out
      have d5 := d.below hb5
      have hn : m = nm := by rw [hm, d.len2]
      subst hn
      refine ⟨A7, c7, rfl, below_then hbq hb5, Lib.hid fun w2 hb2 => ?_⟩
      have r1 := hc5.reads
      rw [he5] at r1
      have r2 := d5.row.reads
      rw [d5.eq] at r2
      refine (sameC_any (r1.up hb2) (r2.up hb2) d5.len2 (by have := d5.le HOk.out; omega)).mono ?_
      rintro e w' ⟨rfl, p, rfl⟩
      exact ⟨rfl, bel_drewN (Below.refl _ _) p⟩
    have HOw : Hid (∀ W2, Below w6.heap.size w6 W2 → Calls Try.prog 28 #[.slice (some ⟨W2.heap.size, 0, none⟩) 2 2] (W2.alloc (.cells #[.slice A5 l.length c5, .slice A6 l.length c6] 33)) fun e w' => e = .returned (.bool true) ∧ Below w4.heap.size w4 w') := Lib.hid fun W2 hb => by
      have h5 := H5.out.2.size
      have h6 := H6.out.2.size
      refine (own2_any (own_below H5.out.1 H6.out.2 fun k e => (H5.out.1.lt k e).2) H6.out.1 (fun k e => (H5.out.1.lt k e).2) ⟨h5, h6⟩ (by have := HLl.out; omega) W2 hb).mono ?_
      rintro e w' ⟨rfl, hb'⟩
      exact ⟨rfl, (belAl _ (HB64.out W2 hb)).trans hb'⟩
    have HKn4 : Hid (∀ W', Below w4.heap.size w4 W' → Calls Try.prog 10 #[] W' fun e w' => e = .returned (.bool true) ∧ Below w4.heap.size w4 w') := Lib.hid fun W' hb => by
      refine (HKn.out W').mono ?_
      rintro e w' ⟨rfl, hb'⟩
      exact ⟨rfl, below_then hb hb'⟩
    have HBW4 : Hid (Below W.heap.size W w4) := Lib.hid HS4.out.2.2.2
    clear H5 H6 HB46 HS4 HKn
    go_wp2_with fail
    go_region_held3 (fun W' => W'.cell? ⟨g2, 1, none⟩ = some (.slice Am nm cm) ∧ Below w4.heap.size w4 W')
      (first
        | (refine HCc.out _ ?_; first | assumption | (refine HB64.out _ ?_; (repeat' (first | assumption | exact Below.refl _ _ | exact Nat.le_refl _ | apply Below.drew | apply belAl)); done))
        | go_keep)
      (first
        | (go_at_call 26; (with_reducible refine (HCl.out _ (by (repeat' (first | assumption | exact Below.refl _ _ | exact Nat.le_refl _ | apply Below.drew | exact bel_drewN (Below.refl _ _) _)))).mono ?_); (rintro e V1 ⟨A7, c7, rfl, hd1, HSm⟩); (have hk1 := HCc.out V1 (HB64.out V1 hd1)))
        | (go_at_call 25; (with_reducible refine (HSm.out _ (by (repeat' (first | assumption | exact Below.refl _ _ | exact Nat.le_refl _ | apply Below.drew | exact bel_drewN (Below.refl _ _) _)))).mono ?_); (rintro e V2 ⟨rfl, hv2⟩); (have hd2 : Below w6.heap.size w6 V2 := below_then hd1 hv2); (have hk2 := HCc.out V2 (HB64.out V2 hd2)))
        | (go_at_call 15; (with_reducible refine (HS1.out _ (by (repeat' (first | assumption | exact Below.refl _ _ | exact Nat.le_refl _ | apply Below.drew | exact bel_drewN (Below.refl _ _) _)))).mono ?_); (rintro e V3 ⟨rfl, hd3⟩); (have hk3 := HCc.out V3 (HB64.out V3 hd3)))
        | (go_at_call 15; (with_reducible refine (HS2.out _ (by (repeat' (first | assumption | exact Below.refl _ _ | exact Nat.le_refl _ | apply Below.drew | exact bel_drewN (Below.refl _ _) _)))).mono ?_); (rintro e V4 ⟨rfl, hd4⟩); (have hk4 := HCc.out V4 (HB64.out V4 hd4)))
        | (go_at_call 28; (with_reducible refine (HOw.out _ (by (repeat' (first | assumption | exact Below.refl _ _ | exact Nat.le_refl _ | apply Below.drew | exact bel_drewN (Below.refl _ _) _)))).mono ?_); (rintro e V5 ⟨rfl, hd5⟩); (have hk5 := HCc.out V5 hd5))
        | (go_at_call 10; (with_reducible refine (HKn4.out _ (by (repeat' (first | assumption | exact Below.refl _ _ | exact Nat.le_refl _ | apply Below.drew | exact bel_drewN (Below.refl _ _) _)))).mono ?_); (rintro e V6 ⟨rfl, hd6⟩); (have hk6 := HCc.out V6 hd6)))
    all_goals
      rename_i hH
      obtain ⟨_, hbW⟩ := hH
      have HBf : Hid (Below W.heap.size W _) := Lib.hid (HBW4.out.trans (hbW.mono HBW4.out.size))
      clear HCl HOw HS1 HS2 HKn4 HCc HB64
      go_wp2
      go_ret
      exact ⟨rfl, HBf.out⟩

namespace onceLoads
set_option maxRecDepth 100000 in
theorem lifted (os : Os) (started : os.Started) (H : Type) (enc : TypeId × Value → H) :
    ReturnsInHanded {} Try.checked os 4 .any (Rows.onceLoadsSpec.pre6 enc Try.prog Try.f4 Rows.onceLoadsRow.domain false) (Rows.onceLoadsSpec.post enc Try.prog Try.f4 false true false false) := by
  refine law_lift started (by kernel_rfl) Try.func4
    (ChangeSpec.witness6 (enc := enc) (C := Try.checked) false ⟨#[], #[.slice none 0 0], []⟩ 8 (by kernel_rfl) (by kernel_rfl) (by kernel_rfl) (by kernel_rfl))
    rfl ?_ (by kernel_rfl) (by kernel_rfl) ?_
  · intro ds h
    match ds, h with
    | [_], _ => rfl
  intro W base args ds p g
  have hA := g.trod
  have hval := g.val
  rw [Try.params4] at hA hval
  obtain ⟨v0, vs0, d0, ds0, p0, q0, hargs, rfl, rfl, h0, r0⟩ := trodAll_cons hA
  obtain ⟨rfl, rfl, rfl⟩ := trodAll_nil r0
  obtain rfl : args = #[v0] := by cases args; simp_all
  obtain ⟨A0, n0, c0, l0, rfl, hc0, hm0, hr0⟩ := given_bytes (hval 0 33 v0 rfl rfl) h0
  exact onceLoads_walk A0 n0 c0 l0 W hc0 hm0 hr0

theorem over : Rows.onceLoadsRow.holds Try.pinned (OpenSpec.ofChange Rows.onceLoadsSpec) :=
  OpenClaim.holds_of_wide 4 Try.f4 rfl rfl rfl rfl rfl rfl rfl ⟨rfl, rfl, rfl, rfl, rfl⟩ rfl rfl rfl rfl rfl (by kernel_rfl) Try.func4 (by kernel_rfl)
    (of_decide_eq_true (by kernel_rfl)) (by unfold Func.isWrapper; first | (rw [if_pos (by decide +kernel)]; kernel_rfl) | (rw [if_neg (by decide +kernel)]; exact ⟨rfl, rfl⟩))
    (fun os started H enc _ => lifted os started H enc)
end onceLoads

theorem OnceLoads_proved : Rows.OnceLoadsSaid := onceLoads.over
#print axioms OnceLoads_proved
end Go.Proofs.Ytgippbbbfpkhhaa
