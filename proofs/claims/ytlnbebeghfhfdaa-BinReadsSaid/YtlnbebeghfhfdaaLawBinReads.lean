/- BinReads is true at every bytes and every place. Conditions: none. -/
import Derived.Test.YtlnbebeghfhfdaaLaw
import Derived.Test.YtlnbebeghfhfdaaKnown
import Derived.Test.YtlnbebeghfhfdaaLent2
namespace Go.Proofs.Ytlnbebeghfhfdaa
open Go.ChangeShapes Go.WideShapes Go.ChangeAt Go.RowKit

set_option maxHeartbeats 2000000 in
set_option maxRecDepth 100000 in
theorem binReads_walk (A : Option Addr) (n c : Nat) (l : List UInt8) (at_ : Int) (w : World) (hc : n ≤ c) (hm : c ≤ 9223372036854775807) (h : Rd w w.heap.size A n l) (_h1 : -9223372036854775808 ≤ at_) (_h2 : at_ ≤ 9223372036854775807) :
    Calls Try.prog 4 #[.slice A n c, .int .i64 at_] w fun e w' => e = .returned (.bool true) ∧ Below w.heap.size w w' := by
  by_cases hbig : 4096 < n
  · go_enter Try.func4, Try.ntmps4
    go_wp2_with fail
    refine (known_any _).mono ?_
    rintro e w' ⟨rfl, hb⟩
    go_wp2
    go_ret
    exact ⟨rfl, hb⟩
  · have hl := h.1
    have cl := lent_any A n c w.heap.size l w (by omega) h
    obtain ⟨v, to, e, hu, hv, hto, he⟩ := uintAt_form l at_ (by omega)
    obtain ⟨fv, fto, fe, hfu, hfv, hfto, hfe⟩ := fixAt_form l at_ (by omega)
    have hi : intAt l at_ = (unzig v, (to : Int), (e : Int)) := by unfold intAt; rw [hu, Int.toNat_natCast]
    have hz := unzig_bd v hv
    have cU : ∀ (A : Option Addr) (c : Nat) (w : World), n ≤ c → c ≤ 9223372036854775807 → Rd w w.heap.size A n l → Calls Try.prog 20 #[.slice A n c, .int .i64 at_] w fun e' w' => e' = .returned (.tuple #[.int .u64 v, .int .i64 to, .int .i64 e]) ∧ w = w' := by
      intro A c w h1 h2 h3
      have := binUint_any A n c _ at_ l w h1 h2 h3
      rwa [hu] at this
    have cI : ∀ (A : Option Addr) (c : Nat) (w : World), n ≤ c → c ≤ 9223372036854775807 → Rd w w.heap.size A n l → Calls Try.prog 21 #[.slice A n c, .int .i64 at_] w fun e' w' => e' = .returned (.tuple #[.int .i64 (unzig v), .int .i64 to, .int .i64 e]) ∧ w = w' := by
      intro A c w h1 h2 h3
      have := binInt_any A n c _ at_ l w h1 h2 h3
      rwa [hi] at this
    have cF : ∀ (A : Option Addr) (c : Nat) (w : World), n ≤ c → c ≤ 9223372036854775807 → Rd w w.heap.size A n l → Calls Try.prog 22 #[.slice A n c, .int .i64 at_] w fun e' w' => e' = .returned (.tuple #[.int .u32 fv, .int .i64 fto, .int .i64 fe]) ∧ w = w' := by
      intro A c w h1 h2 h3
      have := binFixed_any A n c _ at_ l w h1 h2 h3
      rwa [hfu] at this
    have rU : ∀ (A : Option Addr) (c : Nat) (w : World), n ≤ c → c ≤ 9223372036854775807 → Rd w w.heap.size A n l → Calls Try.prog 23 #[.slice A n c, .int .i64 at_] w fun e' w' => e' = .returned (.tuple #[.int .u64 v, .int .i64 to, .int .i64 e]) ∧ w = w' := by
      intro A c w h1 h2 h3
      have := refUint_any A n c _ at_ l w h1 h2 h3
      rwa [hu] at this
    have rI : ∀ (A : Option Addr) (c : Nat) (w : World), n ≤ c → c ≤ 9223372036854775807 → Rd w w.heap.size A n l → Calls Try.prog 24 #[.slice A n c, .int .i64 at_] w fun e' w' => e' = .returned (.tuple #[.int .i64 (unzig v), .int .i64 to, .int .i64 e]) ∧ w = w' := by
      intro A c w h1 h2 h3
      have := refInt_any A n c _ at_ l w h1 h2 h3
      rwa [hi] at this
    have rF : ∀ (A : Option Addr) (c : Nat) (w : World), n ≤ c → c ≤ 9223372036854775807 → Rd w w.heap.size A n l → Calls Try.prog 25 #[.slice A n c, .int .i64 at_] w fun e' w' => e' = .returned (.tuple #[.int .u32 fv, .int .i64 fto, .int .i64 fe]) ∧ ∃ q, w.drewN q = w' := by
      intro A c w h1 h2 h3
      have := refFixed_any A n c _ at_ l w h1 h2 h3
      rwa [hfu] at this
    have CU := Lib.hid cU
    have CI := Lib.hid cI
    have CF := Lib.hid cF
    have RU := Lib.hid rU
    have RI := Lib.hid rI
    have RF := Lib.hid rF
    have Cl := Lib.hid cl
    have Hr := Lib.hid h
    have hes : e ≤ 11 := by omega
    clear cU cI cF rU rI rF cl h hu hfu hi he
    generalize unzig v = z at *
    have Hl := Lib.hid hl
    have Hbig := Lib.hid hbig
    clear hl
    go_enter Try.func4, Try.ntmps4
    go_wp2_with fail
    refine Cl.out.mono ?_
    rintro e' w1 ⟨g, cap, rfl, hx, hb⟩
    have hcap := lent_cap hx
    have Hx := Lib.hid (lent_rd Hl.out hx)
    have Hb := Lib.hid (Hr.out.up hb)
    have Hx0 := Lib.hid hx
    have Hbl := Lib.hid hb
    clear hx hb
    go_wp2_with fail
    refine (CU.out _ cap _ (by omega) (by omega) Hx.out).mono ?_
    rintro e' w' ⟨rfl, rfl⟩
    go_wp2_with fail
    refine (CI.out _ cap _ (by omega) (by omega) Hx.out).mono ?_
    rintro e' w' ⟨rfl, rfl⟩
    go_wp2_with fail
    refine (CF.out _ cap _ (by omega) (by omega) Hx.out).mono ?_
    rintro e' w' ⟨rfl, rfl⟩
    go_wp2_with fail
    refine (RU.out _ c _ (by omega) (by omega) Hb.out).mono ?_
    rintro e' w' ⟨rfl, rfl⟩
    go_wp2_with fail
    refine (RI.out _ c _ (by omega) (by omega) Hb.out).mono ?_
    rintro e' w' ⟨rfl, rfl⟩
    go_wp2_with fail
    refine (RF.out _ c _ (by omega) (by omega) Hb.out).mono ?_
    rintro e' w' ⟨rfl, q, rfl⟩
    go_wp2_with fail
    refine (known_any _).mono ?_
    rintro e' w3 ⟨rfl, hk⟩
    have Hw := Lib.hid (whole_any g cap w.heap.size n c _ A l w3 (by omega) (own_below (show (w1.drewN q).ownsRow _ _ _ _ _ _ from Hx0.out) hk fun k hk' => (Hx0.out.lt k hk').2) ((Hb.out.drewN q).up hk))
    have HB : Hid (Below w.heap.size w w3) := below_then (w1 := w1.drewN q) ⟨Hbl.out.os, Hbl.out.tape, Hbl.out.output, Hbl.out.size, Hbl.out.block⟩ hk
    clear hk
    go_wp2_with fail
    refine Hw.out.mono ?_
    rintro e' w' ⟨rfl, rfl⟩
    go_wp2
    go_ret
    exact ⟨rfl, HB.out⟩

namespace binReads
set_option maxRecDepth 100000 in
theorem lifted (os : Os) (started : os.Started) (H : Type) (enc : TypeId × Value → H) :
    ReturnsInHanded {} Try.checked os 4 .any (Rows.binReadsSpec.pre6 enc Try.prog Try.f4 Rows.binReadsRow.domain false) (Rows.binReadsSpec.post enc Try.prog Try.f4 false true false false) := by
  refine law_lift started (by kernel_rfl) Try.func4
    (ChangeSpec.witness6 (enc := enc) (C := Try.checked) false ⟨#[], #[.slice none 0 0, .int .i64 0], []⟩ 8 (by kernel_rfl) (by kernel_rfl) (by kernel_rfl) (by kernel_rfl))
    rfl ?_ (by kernel_rfl) (by kernel_rfl) ?_
  · intro ds h
    match ds, h with
    | [_, _], _ => rfl
  intro W base args ds p g
  have hA := g.trod
  have hval := g.val
  rw [Try.params4] at hA hval
  obtain ⟨v0, vs0, d0, ds0, p0, q0, hargs, rfl, rfl, h0, r0⟩ := trodAll_cons hA
  obtain ⟨v1, vs1, d1, ds1, p1, q1, rfl, rfl, rfl, h1, r1⟩ := trodAll_cons r0
  obtain ⟨rfl, rfl, rfl⟩ := trodAll_nil r1
  obtain rfl : args = #[v0, v1] := by cases args; simp_all
  obtain ⟨A0, n0, c0, l0, rfl, hc0, hm0, hr0⟩ := given_bytes (hval 0 24 v0 rfl rfl) h0
  obtain ⟨a1, rfl, _, _, w1⟩ := open_int Try.underlying3 (hval 1 3 v1 rfl rfl) h1
  have b1 := bounds_i64 w1
  exact binReads_walk A0 n0 c0 l0 a1 W hc0 hm0 hr0 b1.1 b1.2

theorem over : Rows.binReadsRow.holds Try.pinned (OpenSpec.ofChange Rows.binReadsSpec) :=
  OpenClaim.holds_of_wide 4 Try.f4 rfl rfl rfl rfl rfl rfl rfl ⟨rfl, rfl, rfl, rfl, rfl⟩ rfl rfl rfl rfl rfl (by kernel_rfl) Try.func4 (by kernel_rfl)
    (of_decide_eq_true (by kernel_rfl)) (by unfold Func.isWrapper; first | (rw [if_pos (by decide +kernel)]; kernel_rfl) | (rw [if_neg (by decide +kernel)]; exact ⟨rfl, rfl⟩))
    (fun os started H enc _ => lifted os started H enc)
end binReads

theorem BinReads_proved : Rows.BinReadsSaid := binReads.over
#print axioms BinReads_proved
end Go.Proofs.Ytlnbebeghfhfdaa
