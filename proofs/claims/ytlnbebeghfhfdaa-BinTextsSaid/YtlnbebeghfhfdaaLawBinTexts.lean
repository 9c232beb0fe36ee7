/- BinTexts is true at every bytes, every place and every limit. Conditions: none. -/
import Derived.Test.YtlnbebeghfhfdaaLaw
import Derived.Test.YtlnbebeghfhfdaaKnown
import Derived.Test.YtlnbebeghfhfdaaLent2
import Derived.Test.YtlnbebeghfhfdaaFam
namespace Go.Proofs.Ytlnbebeghfhfdaa
open Go.ChangeShapes Go.WideShapes Go.ChangeAt Go.RowKit

set_option maxHeartbeats 2000000 in
set_option maxRecDepth 100000 in
theorem binTexts_walk (A : Option Addr) (n c : Nat) (l : List UInt8) (at_ most : Int) (w : World) (hc : n ≤ c) (hm : c ≤ 9223372036854775807) (h : Rd w w.heap.size A n l) (_h1 : -9223372036854775808 ≤ at_) (_h2 : at_ ≤ 9223372036854775807) (hm1 : -9223372036854775808 ≤ most) (hm2 : most ≤ 9223372036854775807) :
    Calls Try.prog 5 #[.slice A n c, .int .i64 at_, .int .i64 most] w fun e w' => e = .returned (.bool true) ∧ Below w.heap.size w w' := by
  by_cases hbig : 4096 < n
  · go_enter Try.func5, Try.ntmps5
    go_wp2_with fail
    refine (known_any _).mono ?_
    rintro e w' ⟨rfl, hb⟩
    go_wp2
    go_ret
    exact ⟨rfl, hb⟩
  · have hl := h.1
    have cl := lent_any A n c w.heap.size l w (by omega) h
    obtain ⟨t, to, e, htx, htl, hto, he⟩ := txtAt_form l at_ most (by omega)
    have cB : ∀ (A : Option Addr) (c : Nat) (w : World), n ≤ c → c ≤ 9223372036854775807 → Rd w w.heap.size A n l → Calls Try.prog 27 #[.slice A n c, .int .i64 at_, .int .i64 most] w fun e' w' => ∃ v, e' = .returned (.tuple #[v, .int .i64 to, .int .i64 e]) ∧ w'.ownsRow w.heap.size 5 1 v t.length (u8s t) ∧ Below w.heap.size w w' := by
      intro A c w h1 h2 h3
      have := binBytes_any A n c at_ most l w h1 (by omega) h2 hm1 hm2 h3
      rwa [htx] at this
    have rB : ∀ (A : Option Addr) (c : Nat) (w : World), n ≤ c → c ≤ 9223372036854775807 → Rd w w.heap.size A n l → Calls Try.prog 28 #[.slice A n c, .int .i64 at_, .int .i64 most] w fun e' w' => ∃ v, e' = .returned (.tuple #[v, .int .i64 to, .int .i64 e]) ∧ w'.ownsRow w.heap.size 5 1 v t.length (u8s t) ∧ Below w.heap.size w w' := by
      intro A c w h1 h2 h3
      have := refBytes_any A n c at_ most l w h1 (by omega) h2 hm1 hm2 h3
      rwa [htx] at this
    have cP : ∀ (A : Option Addr) (c : Nat) (w : World), Rd w w.heap.size A n l → Calls Try.prog 29 #[.slice A n c] w fun e' w' => ∃ v, e' = .returned v ∧ w'.ownsRow w.heap.size 5 1 v (putB l).length (u8s (putB l)) ∧ Below w.heap.size w w' := fun A c w h3 => binPutBytes_any A n c l w (by omega) h3
    have rP : ∀ (A : Option Addr) (c : Nat) (w : World), Rd w w.heap.size A n l → Calls Try.prog 30 #[.slice A n c] w fun e' w' => ∃ v, e' = .returned v ∧ w'.ownsRow w.heap.size 5 1 v (putB l).length (u8s (putB l)) ∧ Below w.heap.size w w' := fun A c w h3 => refPutBytes_any A n c l w (by omega) h3
    have hpl : (putB l).length ≤ 5000 := by
      unfold putB
      have := Lib.uvarint_length64 (show l.length < 18446744073709551616 by omega)
      rw [List.length_append]
      omega
    have Hpl := Lib.hid hpl
    have Htl : Hid (t.length ≤ 4096) := by show _ ≤ _; omega
    have CB := Lib.hid cB
    have RB := Lib.hid rB
    have CP := Lib.hid cP
    have RP := Lib.hid rP
    have Cl := Lib.hid cl
    have Hr := Lib.hid h
    clear cB rB cP rP cl h htx hpl htl
    have Hl := Lib.hid hl
    clear hl
    generalize putB l = pl at *
    go_enter Try.func5, Try.ntmps5
    go_wp2_with fail
    refine Cl.out.mono ?_
    rintro e' w1 ⟨g, cap, rfl, hx, hb⟩
    have hcap := lent_cap hx
    have Hg : Hid (w.heap.size ≤ g ∧ g < w1.heap.size) := hx.lt g rfl
    have Hx := Lib.hid (lent_rd Hl.out hx)
    have Hb := Lib.hid (Hr.out.up hb)
    have Hx0 := Lib.hid hx
    have Hbl := Lib.hid hb
    clear hx hb
    go_wp2_with fail
    refine (CB.out _ cap _ (by omega) (by omega) Hx.out).mono ?_
    rintro e' w2 ⟨vs, rfl, hos, hbs⟩
    have Fs : Hid (Fam w2 w1.heap.size ([] ++ [vs]) ([] ++ [t])) := (Fam.nil w1 w1.heap.size).push hbs hos (Nat.le_refl _)
    obtain ⟨As, cs, rfl, _⟩ := own_shape hos
    have Os := Lib.hid hos
    have Bs := Lib.hid hbs
    clear hos hbs
    go_wp2_with fail
    refine (RB.out _ c _ (by omega) (by omega) (Hb.out.up Bs.out)).mono ?_
    rintro e' w3 ⟨vt, rfl, hot, hbt⟩
    obtain ⟨At, ct, rfl, _⟩ := own_shape hot
    have Ot := Lib.hid hot
    have Bt := Lib.hid hbt
    clear hot hbt
    go_wp2_with fail
    refine (CP.out _ cap _ ((Hx.out.up Bs.out).up Bt.out)).mono ?_
    rintro e' w4 ⟨vp, rfl, hop, hbp⟩
    have Fp : Hid (Fam w4 w1.heap.size (([] ++ [_]) ++ [vp]) (([] ++ [t]) ++ [pl])) := (Fs.out.up Bt.out).push hbp hop (Nat.le_trans Bs.out.size Bt.out.size)
    obtain ⟨Ap, cp, rfl, _⟩ := own_shape hop
    have Op := Lib.hid hop
    have Bp := Lib.hid hbp
    clear hop hbp
    have S1 := Lib.hid (same_any _ _ _ _ cs ct _ _ _ _ _ (((Rd.of_own Os.out).up Bt.out).up Bp.out) ((Rd.of_own Ot.out).up Bp.out))
    go_wp2_with fail
    refine S1.out.mono ?_
    rintro e' w' ⟨rfl, rfl⟩
    clear S1
    go_wp2_with fail
    refine (RP.out _ c _ (((Hb.out.up Bs.out).up Bt.out).up Bp.out)).mono ?_
    rintro e' w5 ⟨vq, rfl, hoq, hbq⟩
    obtain ⟨Aq, cq, rfl, _⟩ := own_shape hoq
    have Bq := Lib.hid hbq
    have S2 := Lib.hid (same_any _ _ _ _ cp cq _ _ _ _ _ ((Rd.of_own Op.out).up hbq) (Rd.of_own hoq))
    clear hoq hbq
    go_wp2_with fail
    refine S2.out.mono ?_
    rintro e' w' ⟨rfl, rfl⟩
    clear S2
    have B15 : Hid (Below w1.heap.size w1 w5) := below_then (below_then (below_then Bs.out Bt.out) Bp.out) Bq.out
    have X5 := Lib.hid (own_below Hx0.out B15.out fun k hk' => (Hx0.out.lt k hk').2)
    have Hw := Lib.hid (whole_any g cap w.heap.size n c _ A l w5 (by omega) X5.out (Hb.out.up B15.out))
    go_wp2_with fail
    refine Hw.out.mono ?_
    rintro e' w' ⟨rfl, rfl⟩
    clear Hw
    have Csp := Lib.hid (spoil_any g n cap w.heap.size l w5 (by omega) (lent_own Hl.out X5.out))
    go_wp2_with fail
    refine Csp.out.mono ?_
    rintro e' w6 ⟨rfl, hg6⟩
    have hg1 := Hg.out
    have Hs6 : Hid (Rd w6 w6.heap.size As t.length t) := Rd.of_own (own_grown (own_below Os.out (below_then (below_then Bt.out Bp.out) Bq.out) fun k hk => (Os.out.lt k hk).2) hg6 (by omega))
    have Ht6 : Hid (Rd w6 w6.heap.size At t.length t) := Rd.of_own (own_grown (own_below Ot.out (below_then Bp.out Bq.out) fun k hk => (Ot.out.lt k hk).2) hg6 (by have := Bs.out.size; omega))
    have Hp6 : Hid (Rd w6 w6.heap.size Ap pl.length pl) := Rd.of_own (own_grown (own_below Op.out Bq.out fun k hk => (Op.out.lt k hk).2) hg6 (by have := Bs.out.size; have := Bt.out.size; omega))
    have Hb6 : Hid (Rd w6 w6.heap.size A n l) := by
      have h1 : Rd w5 w.heap.size A n l := (Hr.out.below Hbl.out).below (B15.out.mono Hbl.out.size)
      exact ((h1.more hg1.1).grown_below hg6 (by have := B15.out.size; omega)).more (by have := B15.out.size; have := hg6.size; omega)
    have F6 : Hid (Fam w6 w1.heap.size (([] ++ [_]) ++ [_]) (([] ++ [t]) ++ [pl])) := (Fp.out.up Bq.out).grown hg6 fun i v hv => by
      have ho := (Fp.out.up Bq.out).each i v hv
      cases hvb : v.ownBlock with
      | none => exact .inl rfl
      | some k => have := (ho.lt k hvb).1; exact .inr fun e => by injection e with e; omega
    have B6 : Hid (Below w.heap.size w w6) := (below_then Hbl.out B15.out).grown hg6 (by have := Hbl.out.size; have := B15.out.size; omega) (by intro k hk; injection hk with hk; omega)
    have Z5 := Lib.hid B15.out.size
    have Z6 := Lib.hid hg6.size
    clear hg6 hg1 Csp X5 B15 Fp Op Ot Os Hb Hx Hx0
    go_wp2_with fail
    refine (known_any _).mono ?_
    rintro e' w7 ⟨rfl, hk⟩
    have B7 := Lib.hid (below_then B6.out hk)
    have F7 := Lib.hid (F6.out.up hk)
    have Hp7 := Lib.hid (Hp6.out.up hk)
    have Hb7 := Lib.hid (Hb6.out.up hk)
    have Z7 : Hid (w1.heap.size ≤ w7.heap.size) := Nat.le_trans (Nat.le_trans Z5.out Z6.out) hk.size
    have S3 := Lib.hid (same_any _ _ _ _ cs ct _ _ _ _ _ (Hs6.out.up hk) (Ht6.out.up hk))
    clear hk B6 F6 Hs6 Ht6 Hp6 Hb6
    go_wp2_with fail
    refine S3.out.mono ?_
    rintro e' w' ⟨rfl, rfl⟩
    clear S3
    go_wp2_with fail
    refine (RP.out _ c _ Hb7.out).mono ?_
    rintro e' w8 ⟨vr, rfl, hor, hbr⟩
    obtain ⟨Ar, cr, rfl, _⟩ := own_shape hor
    have S4 := Lib.hid (same_any _ _ _ _ cp cr _ _ _ _ _ (Hp7.out.up hbr) (Rd.of_own hor))
    have F8 := Lib.hid (F7.out.up hbr)
    have B8 := Lib.hid (below_then B7.out hbr)
    have hsz : w1.heap.size ≤ w8.heap.size := Nat.le_trans Z7.out hbr.size
    clear hor hbr F7 B7 Hp7 Hb7
    go_wp2_with fail
    refine S4.out.mono ?_
    rintro e' w' ⟨rfl, rfl⟩
    clear S4
    have Cown := Lib.hid (F8.out.lit (K := 2) (g := w8.heap.size) (cs := #[.slice As t.length cs, .slice Ap pl.length cp]) rfl rfl rfl hsz (by omega)
      (by intro l hl; have h1 := Htl.out; have h2 := Hpl.out; simp at hl; rcases hl with rfl | rfl <;> omega))
    clear F8
    go_wp2_with fail
    refine Cown.out.mono ?_
    rintro e' w9 ⟨rfl, hb9⟩
    have B9 : Hid (Below w.heap.size w w9) := (B8.out.alloc B8.out.size _).trans (hb9.mono Hbl.out.size)
    clear hb9 Cown
    go_wp2
    go_ret
    exact ⟨rfl, B9.out⟩

namespace binTexts
set_option maxRecDepth 100000 in
theorem lifted (os : Os) (started : os.Started) (H : Type) (enc : TypeId × Value → H) :
    ReturnsInHanded {} Try.checked os 5 .any (Rows.binTextsSpec.pre6 enc Try.prog Try.f5 Rows.binTextsRow.domain false) (Rows.binTextsSpec.post enc Try.prog Try.f5 false true false false) := by
  refine law_lift started (by kernel_rfl) Try.func5
    (ChangeSpec.witness6 (enc := enc) (C := Try.checked) false ⟨#[], #[.slice none 0 0, .int .i64 0, .int .i64 0], []⟩ 8 (by kernel_rfl) (by kernel_rfl) (by kernel_rfl) (by kernel_rfl))
    rfl ?_ (by kernel_rfl) (by kernel_rfl) ?_
  · intro ds h
    match ds, h with
    | [_, _, _], _ => rfl
  intro W base args ds p g
  have hA := g.trod
  have hval := g.val
  rw [Try.params5] at hA hval
  obtain ⟨v0, vs0, d0, ds0, p0, q0, hargs, rfl, rfl, h0, r0⟩ := trodAll_cons hA
  obtain ⟨v1, vs1, d1, ds1, p1, q1, rfl, rfl, rfl, h1, r1⟩ := trodAll_cons r0
  obtain ⟨v2, vs2, d2, ds2, p2, q2, rfl, rfl, rfl, h2, r2⟩ := trodAll_cons r1
  obtain ⟨rfl, rfl, rfl⟩ := trodAll_nil r2
  obtain rfl : args = #[v0, v1, v2] := by cases args; simp_all
  obtain ⟨A0, n0, c0, l0, rfl, hc0, hm0, hr0⟩ := given_bytes (hval 0 24 v0 rfl rfl) h0
  obtain ⟨a1, rfl, _, _, w1⟩ := open_int Try.underlying3 (hval 1 3 v1 rfl rfl) h1
  have b1 := bounds_i64 w1
  obtain ⟨a2, rfl, _, _, w2⟩ := open_int Try.underlying3 (hval 2 3 v2 rfl rfl) h2
  have b2 := bounds_i64 w2
  exact binTexts_walk A0 n0 c0 l0 a1 a2 W hc0 hm0 hr0 b1.1 b1.2 b2.1 b2.2

theorem over : Rows.binTextsRow.holds Try.pinned (OpenSpec.ofChange Rows.binTextsSpec) :=
  OpenClaim.holds_of_wide 5 Try.f5 rfl rfl rfl rfl rfl rfl rfl ⟨rfl, rfl, rfl, rfl, rfl⟩ rfl rfl rfl rfl rfl (by kernel_rfl) Try.func5 (by kernel_rfl)
    (of_decide_eq_true (by kernel_rfl)) (by unfold Func.isWrapper; first | (rw [if_pos (by decide +kernel)]; kernel_rfl) | (rw [if_neg (by decide +kernel)]; exact ⟨rfl, rfl⟩))
    (fun os started H enc _ => lifted os started H enc)
end binTexts

theorem BinTexts_proved : Rows.BinTextsSaid := binTexts.over
#print axioms BinTexts_proved
end Go.Proofs.Ytlnbebeghfhfdaa
