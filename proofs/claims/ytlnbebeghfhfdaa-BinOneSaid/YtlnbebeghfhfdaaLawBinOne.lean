/- BinOne is true at every bytes and every place. Conditions: none. -/
import Derived.Test.YtlnbebeghfhfdaaLaw
import Derived.Test.YtlnbebeghfhfdaaKnown
import Derived.Test.YtlnbebeghfhfdaaBackP
import Derived.Deep.RegionWith
import Derived.Deep.RegionHeld3
import Derived.Deep.DeepCutAuto
import Derived.BigQuiet
import Derived.Deep.QuietTactic
namespace Go.Proofs.Ytlnbebeghfhfdaa
open Go.ChangeShapes Go.WideShapes Go.ChangeAt Go.RowKit

theorem uintAt_one (l : List UInt8) (k v tt : Nat) (h : uintAt l (k : Int) = ((v : Int), (tt : Int), 0)) : k < tt ∧ tt ≤ l.length ∧ v < 18446744073709551616 ∧ Lib.uvarint v = (l.drop k).take (tt - k) := by
  by_cases hk : k ≤ l.length
  · rw [uintAt_in l k hk] at h
    cases hu : uu 0 (l.drop k) with
    | error e =>
      rw [hu] at h
      simp [ans] at h
      have hz : e = 0 := h.2.2
      subst hz
      have : ∀ (s : List UInt8) (i : Nat), uu i s ≠ .error 0 := by
        intro s
        induction s with
        | nil => intro i h; simp [uu] at h
        | cons c r ih =>
          intro i h
          rw [uu] at h
          split at h
          · simp at h
          · split at h
            · simp at h
            · cases h3 : uu (i + 1) r with
              | ok x => rw [h3] at h; simp at h
              | error e' => rw [h3] at h; simp at h; subst h; exact ih _ h3
      exact absurd hu (this _ _)
    | ok x =>
      obtain ⟨v', m⟩ := x
      rw [hu] at h
      simp only [ans, Prod.mk.injEq] at h
      have hp := uu_pos hu
      rw [List.length_drop] at hp
      have hv : v' = v := by omega
      subst hv
      refine ⟨by omega, by omega, uu0_lt hu, ?_⟩
      rw [(uu_put hu).1]
      congr 1
      omega
  · rw [uintAt_out l k (by omega)] at h
    simp only [Prod.mk.injEq] at h
    omega

theorem txtAt_one (l : List UInt8) (k : Nat) (most : Int) (t : List UInt8) (up : Nat) (hl : l.length ≤ 9223372036854775807) (h : txtAt l (k : Int) most = (t, (up : Int), 0)) : k < up ∧ up ≤ l.length ∧ putB t = (l.drop k).take (up - k) := by
  obtain ⟨v, tt, e, hu, hv, hto, he⟩ := uintAt_form l k hl
  unfold txtAt at h
  rw [hu] at h
  by_cases h1 : (e : Int) ≠ 0
  · rw [if_pos h1] at h
    simp only [Prod.mk.injEq] at h
    omega
  · rw [if_neg h1] at h
    have he0 : e = 0 := by omega
    subst he0
    by_cases h2 : max most 0 < (v : Int)
    · rw [if_pos h2] at h
      simp at h
    · rw [if_neg h2] at h
      by_cases h3 : (l.length : Int) - (tt : Int) < (v : Int)
      · rw [if_pos h3] at h
        simp at h
      · rw [if_neg h3] at h
        simp only [Prod.mk.injEq, Int.toNat_natCast] at h
        obtain ⟨ht, hup, _⟩ := h
        obtain ⟨hk, _, _, hone⟩ := uintAt_one l k v tt hu
        have hup' : up = tt + v := by omega
        subst hup'
        have htl : t.length = v := by rw [← ht, List.length_take, List.length_drop]; omega
        refine ⟨by omega, by omega, ?_⟩
        unfold putB
        rw [htl, hone, ← ht]
        have e1 : l.drop tt = (l.drop k).drop (tt - k) := by rw [List.drop_drop]; congr 1; omega
        have e2 : tt + v - k = (tt - k) + v := by omega
        rw [e1, e2, List.take_add]
theorem txtAt_err (l : List UInt8) (a most : Int) (v tt e : Int) (h : uintAt l a = (v, tt, e)) (he : e ≠ 0) : txtAt l a most = ([], 0, e) := by
  unfold txtAt
  rw [h, if_pos he]

theorem undrew {B : Nat} {w w' : World} (h : Below B w.drew w') : Below B w w' := ⟨h.os, h.tape, h.output, h.size, h.block⟩

set_option maxHeartbeats 1000000 in
set_option maxRecDepth 100000 in
theorem binOne_walk (A : Option Addr) (n c : Nat) (l : List UInt8) (at_ : Int) (w : World) (hc : n ≤ c) (hm : c ≤ 9223372036854775807) (h : Rd w w.heap.size A n l) (_h1 : -9223372036854775808 ≤ at_) (_h2 : at_ ≤ 9223372036854775807) :
    Calls Try.prog 7 #[.slice A n c, .int .i64 at_] w fun e w' => e = .returned (.bool true) ∧ Below w.heap.size w w' := by
  by_cases hbig : 4096 < n
  · go_enter Try.func7, Try.ntmps7
    go_wp2_with fail
    refine (known_any _).mono ?_
    rintro e w' ⟨rfl, hb⟩
    go_wp2
    go_ret
    exact ⟨rfl, hb⟩
  · have hl := h.1
    obtain ⟨v, tt, e, hu, hv, hto, he⟩ := uintAt_form l at_ (by omega)
    have cU := binUint_any A n c _ at_ l w hc hm h
    rw [hu] at cU
    have CU := Lib.hid cU
    have cT := fun W h3 => binBytes_any A n c at_ 4096 l W hc (by omega) hm (by omega) (by omega) h3
    by_cases he0 : e = 0
    · subst he0
      obtain ⟨k, rfl⟩ := Int.eq_ofNat_of_zero_le (show 0 ≤ at_ by omega)
      obtain ⟨hkt, htl, _, hone⟩ := uintAt_one l k v tt hu
      obtain ⟨t, up, f, htx, htl2, hup, hf⟩ := txtAt_form l k 4096 (by omega)
      rw [htx] at cT
      have CT : Hid (∀ W, Rd W W.heap.size A n l → Calls Try.prog 27 #[.slice A n c, .int .i64 k, .int .i64 4096] W fun e w' => ∃ As cs, e = .returned (.tuple #[.slice As t.length cs, .int .i64 up, .int .i64 f]) ∧ Rd w' w'.heap.size As t.length t ∧ Below W.heap.size W w') :=
        fun W h3 => (cT W h3).mono fun e w' ⟨x, h1, h2, h3⟩ => by
          obtain ⟨As, cs, rfl, _⟩ := own_shape h2
          exact ⟨As, cs, h1, Rd.of_own h2, h3⟩
      obtain ⟨b, o, rfl, _, _⟩ := h.2 (by omega)
      have hck : ¬ c = k := by omega
      have Hp := Lib.hid (h.part (i := k) (k := tt - k) (by omega))
      rw [← hone] at Hp
      have Hr := Lib.hid h
      have d1 : decide (n < tt) = false := by simp; omega
      have d2 : decide (tt ≤ k) = false := by simp; omega
      have d3 : decide ((k : Int) < 0) = false := by simp
      have i1 : (k : Int) ≤ (tt : Int) := by omega
      have i2 : (tt : Int) ≤ (n : Int) := by omega
      have i3 : (tt : Int) ≤ (c : Int) := by omega
      have Cp : Hid (∀ w, Calls Try.prog 10 #[.int .u64 v] w fun e w' => ∃ A c, e = .returned (.slice A (Lib.uvarint v).length c) ∧ Rd w' w'.heap.size A (Lib.uvarint v).length (Lib.uvarint v) ∧ Below w.heap.size w w') := fun w => (binPut_any v w hv).mono fun e w' ⟨x, h1, h2, h3⟩ => by
        obtain ⟨A, c, rfl, _⟩ := own_shape h2
        exact ⟨A, c, h1, Rd.of_own h2, h3⟩
      have Hone : Hid (f = 0 → k < up ∧ up ≤ n ∧ Rd w w.heap.size (some ⟨b, o + k, none⟩) (up - k) (putB t)) := by
        rintro rfl
        obtain ⟨h1, h2, h3⟩ := txtAt_one l k 4096 t up (by omega) htx
        refine ⟨h1, by omega, ?_⟩
        rw [h3]
        exact h.part (by omega)
      have Cpb : Hid (∀ W As cs, Rd W W.heap.size As t.length t → Calls Try.prog 29 #[.slice As t.length cs] W fun e w' => ∃ A c, e = .returned (.slice A (putB t).length c) ∧ Rd w' w'.heap.size A (putB t).length (putB t) ∧ Below W.heap.size W w') :=
        fun W As cs h3 => (binPutBytes_any As t.length cs t W (by omega) h3).mono fun e w' ⟨x, h1, h2, h3⟩ => by
          obtain ⟨A, c, rfl, _⟩ := own_shape h2
          exact ⟨A, c, h1, Rd.of_own h2, h3⟩
      clear he hu cU cT hone hv h htx
      generalize Lib.uvarint v = U at *
      generalize putB t = P at *
      go_enter Try.func7, Try.ntmps7
      go_wp2_with fail
      refine CU.out.mono ?_
      rintro e' w' ⟨rfl, rfl⟩
      clear CU
      go_upto_region 4 with (fail)
      go_cut [48] (fun s w' => s = .bool false ∧ Below w.heap.size w w')
      case first =>
        go_region_held3 (fun w' => Below w.heap.size w w') (first | exact (Below.refl _ _).drew | exact undrew hb1 | assumption)
          (first
          | (go_at_call 10; refine (Cp.out _).mono ?_; rintro e' w1 ⟨A1, c1, rfl, hr1, hb1⟩)
          | (go_at_call 13; refine (same_any _ _ _ _ _ _ _ _ _ _ _ hr1 (Hp.out.up (by assumption))).mono ?_; rintro e' w' ⟨rfl, rfl⟩))
        all_goals (go_wp2_with fail; go_meet)
        all_goals exact ⟨rfl, by assumption⟩
      case rest =>
        obtain ⟨rfl, hbc⟩ := hcut
        clear d1 d2 i1 i2 i3 Cp Hp
        have Hbc := Lib.hid hbc
        clear hbc
        go_wp2_with fail
        refine (CT.out _ (Hr.out.up Hbc.out)).mono ?_
        rintro e' w2 ⟨As, cs, rfl, hrs, hb2⟩
        have Hrs := Lib.hid hrs
        have Hb2 := Lib.hid (below_then Hbc.out hb2)
        clear hrs hb2 CT
        by_cases hf0 : f = 0
        · obtain ⟨hku, hun, hpp⟩ := Hone.out hf0
          subst hf0
          have Hpp := Lib.hid hpp
          have d1 : decide (n < up) = false := by simp; omega
          have d2 : decide (up ≤ k) = false := by simp; omega
          have i1 : (k : Int) ≤ (up : Int) := by omega
          have i2 : (up : Int) ≤ (n : Int) := by omega
          have i3 : (up : Int) ≤ (c : Int) := by omega
          clear hpp Hone
          go_upto_region 7 with (fail)
          go_cut [82] (fun s w' => s = .bool false ∧ Below w2.heap.size w2 w')
          case first =>
            go_region_held3 (fun w' => Below w2.heap.size w2 w') (first | exact (Below.refl _ _).drew | exact undrew hb3 | assumption)
              (first
              | (go_at_call 29; refine (Cpb.out _ _ _ (Hrs.out.up (by assumption))).mono ?_; rintro e' w3 ⟨A3, c3, rfl, hr3, hb3⟩)
              | (go_at_call 13; refine (same_any _ _ _ _ _ _ _ _ _ _ _ hr3 ((Hpp.out.up Hb2.out).up (by assumption))).mono ?_; rintro e' w' ⟨rfl, rfl⟩))
            all_goals (go_wp2_with fail; go_meet)
            all_goals exact ⟨rfl, by assumption⟩
          case rest =>
            obtain ⟨rfl, hbd⟩ := hcut
            have Hbd := Lib.hid (below_then Hb2.out hbd)
            clear hbd
            go_wp2_with fail
            refine (known_any _).mono ?_
            rintro e' w4 ⟨rfl, hk4⟩
            have HB := Lib.hid (below_then Hbd.out hk4)
            clear hk4
            go_wp2
            go_ret
            exact ⟨rfl, HB.out⟩
        · have hff : ((f : Int) == 0) = false := by simp; omega
          go_wp2_with fail
          go_quiet (fail)
          go_wp2_with fail
          refine (known_any _).mono ?_
          rintro e' w4 ⟨rfl, hk4⟩
          have HB : Hid (Below w.heap.size w w4) := below_then Hb2.out ⟨hk4.os, hk4.tape, hk4.output, hk4.size, hk4.block⟩
          clear hk4
          go_wp2
          go_ret
          exact ⟨rfl, HB.out⟩
    · have htx := txtAt_err l at_ 4096 v tt e hu (by omega)
      rw [htx] at cT
      have CT : Hid (∀ W, Rd W W.heap.size A n l → Calls Try.prog 27 #[.slice A n c, .int .i64 at_, .int .i64 4096] W fun e' w' => ∃ As cs, e' = .returned (.tuple #[.slice As 0 cs, .int .i64 0, .int .i64 e]) ∧ Below W.heap.size W w') :=
        fun W h3 => (cT W h3).mono fun e' w' ⟨x, h1, h2, h3⟩ => by
          obtain ⟨As, cs, rfl, _⟩ := own_shape h2
          exact ⟨As, cs, h1, h3⟩
      have hee : ((e : Int) == 0) = false := by simp; omega
      have Hr := Lib.hid h
      clear cT htx hu he cU h
      go_enter Try.func7, Try.ntmps7
      go_wp2_with fail
      refine CU.out.mono ?_
      rintro e' w' ⟨rfl, rfl⟩
      go_wp2_with fail
      go_quiet (fail)
      go_wp2_with fail
      refine (CT.out _ (Hr.out.drewN _)).mono ?_
      rintro e' w2 ⟨As, cs, rfl, hb2⟩
      have Hb2 : Hid (Below w.heap.size w w2) := ⟨hb2.os, hb2.tape, hb2.output, hb2.size, hb2.block⟩
      clear hb2
      go_wp2_with fail
      go_quiet (fail)
      go_wp2_with fail
      refine (known_any _).mono ?_
      rintro e' w4 ⟨rfl, hk4⟩
      have HB : Hid (Below w.heap.size w w4) := below_then Hb2.out ⟨hk4.os, hk4.tape, hk4.output, hk4.size, hk4.block⟩
      clear hk4
      go_wp2
      go_ret
      exact ⟨rfl, HB.out⟩

namespace binOne
set_option maxRecDepth 100000 in
theorem lifted (os : Os) (started : os.Started) (H : Type) (enc : TypeId × Value → H) :
    ReturnsInHanded {} Try.checked os 7 .any (Rows.binOneSpec.pre6 enc Try.prog Try.f7 Rows.binOneRow.domain false) (Rows.binOneSpec.post enc Try.prog Try.f7 false true false false) := by
  refine law_lift started (by kernel_rfl) Try.func7
    (ChangeSpec.witness6 (enc := enc) (C := Try.checked) false ⟨#[], #[.slice none 0 0, .int .i64 0], []⟩ 8 (by kernel_rfl) (by kernel_rfl) (by kernel_rfl) (by kernel_rfl))
    rfl ?_ (by kernel_rfl) (by kernel_rfl) ?_
  · intro ds h
    match ds, h with
    | [_, _], _ => rfl
  intro W base args ds p g
  have hA := g.trod
  have hval := g.val
  rw [Try.params7] at hA hval
  obtain ⟨v0, vs0, d0, ds0, p0, q0, hargs, rfl, rfl, h0, r0⟩ := trodAll_cons hA
  obtain ⟨v1, vs1, d1, ds1, p1, q1, rfl, rfl, rfl, h1, r1⟩ := trodAll_cons r0
  obtain ⟨rfl, rfl, rfl⟩ := trodAll_nil r1
  obtain rfl : args = #[v0, v1] := by cases args; simp_all
  obtain ⟨A0, n0, c0, l0, rfl, hc0, hm0, hr0⟩ := given_bytes (hval 0 24 v0 rfl rfl) h0
  obtain ⟨a1, rfl, _, _, w1⟩ := open_int Try.underlying3 (hval 1 3 v1 rfl rfl) h1
  have b1 := bounds_i64 w1
  exact binOne_walk A0 n0 c0 l0 a1 W hc0 hm0 hr0 b1.1 b1.2

theorem over : Rows.binOneRow.holds Try.pinned (OpenSpec.ofChange Rows.binOneSpec) :=
  OpenClaim.holds_of_wide 7 Try.f7 rfl rfl rfl rfl rfl rfl rfl ⟨rfl, rfl, rfl, rfl, rfl⟩ rfl rfl rfl rfl rfl (by kernel_rfl) Try.func7 (by kernel_rfl)
    (of_decide_eq_true (by kernel_rfl)) (by unfold Func.isWrapper; first | (rw [if_pos (by decide +kernel)]; kernel_rfl) | (rw [if_neg (by decide +kernel)]; exact ⟨rfl, rfl⟩))
    (fun os started H enc _ => lifted os started H enc)
end binOne

theorem BinOne_proved : Rows.BinOneSaid := binOne.over
#print axioms BinOne_proved
end Go.Proofs.Ytlnbebeghfhfdaa
