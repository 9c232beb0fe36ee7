/- A store that is not there answers so; on no disk, and on one that is too small, there is none: the law answers true at every input. No condition. -/
import Derived.Test.YtcmjobpgdfapoaaGreatM1StoN
import Derived.ChangeMaps5
namespace Go.Proofs.YtcmjobpgdfapoaaGreat
open Go.ChangeShapes Go.WideShapes Go.ChangeAt Go.RowKit

theorem small_open : openS (Dk.new 5) = (40, none, Dk.new 5) := by
  have h : (Dk.new 5).openL = (40, none, Dk.new 5) := by rw [openL_after, if_pos (by simp [Dk.new])]
  unfold openS
  rw [h]
set_option maxRecDepth 100000 in
set_option maxHeartbeats 4000000 in
theorem storeNil_walk (A0 : Option Addr) (n0 c0 : Nat) (l : List Chg) (k : List UInt8) (W : World) (_hc0 : n0 ≤ c0) (_hm0 : c0 ≤ 9223372036854775807) (_hl : ChRd W W.heap.size A0 n0 l) (_hk : k.length ≤ maxLen) :
    Calls Tryz.prog 9 #[.slice A0 n0 c0, sV k] W fun e W' => e = .returned (.bool true) ∧ Below W.heap.size W W' := by
  have HGet := Lib.hid (sget_nil k)
  have HNew : Hid (∀ w, Calls Tryz.prog 44 #[.int .i64 5] w fun e w' => ∃ g F, e = .returned (.tuple #[.pointer (some ⟨g, 0, none⟩), .int .i64 0]) ∧ ND w w' F g (Dk.new 5)) := Lib.hid fun w => nd_new 5 w (by decide) (by decide)
  have HOn := Lib.hid sopen_nil
  have HOs : Hid (∀ W0 w F gd, ND W0 w F gd (Dk.new 5) → Calls Tryz.prog 42 #[.pointer (some ⟨gd, 0, none⟩)] w fun e w' => e = .returned (.tuple #[.pointer none, .int .i64 40]) ∧ Below W0.heap.size W0 w') := by
    refine Lib.hid fun W0 w F gd h => (sopen_any gd (Dk.new 5) F w (Nat.zero_le _) h.1).mono ?_
    unfold OpenedS
    rw [small_open]
    rintro e w' (⟨F', hp, hm, _, rfl⟩ | ⟨s2, m2, g, H, hx, _⟩)
    · exact ⟨rfl, (h.step hp hm).2.2⟩
    · cases hx
  have HDo := Lib.hid (sdo_nil A0 n0 c0)
  have HSy := Lib.hid ssync_nil
  have HCk := Lib.hid scheck_nil
  have HLn := Lib.hid slen_nil
  have HWt := Lib.hid swaiting_nil
  have HPr := Lib.hid pairs_nil
  have HKn := Lib.hid sknown_any
  go_enter Tryz.func9, Tryz.ntmps9
  go_wp2_with fail
  refine (HGet.out _).mono ?_
  rintro x w1 ⟨rfl, rfl⟩
  go_wp2_with fail
  refine (HNew.out _).mono ?_
  rintro x w2 ⟨gd, F, rfl, hd⟩
  have Hd := Lib.hid hd
  clear hd
  go_wp2_with fail
  refine (HOn.out _).mono ?_
  rintro x w3 ⟨rfl, rfl⟩
  go_wp2_with fail
  refine (HOs.out _ _ _ _ Hd.out).mono ?_
  rintro x w4 ⟨rfl, hb4⟩
  have Hb4 := Lib.hid hb4
  clear hb4 Hd
  go_wp2_with fail
  refine (HDo.out _).mono ?_
  rintro x w5 ⟨rfl, rfl⟩
  go_wp2_with fail
  refine (HSy.out _).mono ?_
  rintro x w6 ⟨rfl, rfl⟩
  go_wp2_with fail
  refine (HCk.out _).mono ?_
  rintro x w7 ⟨rfl, hb7⟩
  have Hb7 := Lib.hid (below_then Hb4.out hb7)
  clear hb7
  go_wp2_with fail
  refine (HLn.out _).mono ?_
  rintro x w8 ⟨rfl, rfl⟩
  go_wp2_with fail
  refine (HWt.out _).mono ?_
  rintro x w9 ⟨rfl, rfl⟩
  go_wp2_with fail
  refine (HPr.out _).mono ?_
  rintro x w10 ⟨⟨c, h⟩, hb10⟩
  obtain ⟨A, rfl⟩ : ∃ A, x = .returned (.slice A 0 c) := by
    rcases h with rfl | ⟨A, rfl⟩
    · exact ⟨none, rfl⟩
    · exact ⟨A, rfl⟩
  have Hb10 := Lib.hid (below_then Hb7.out hb10)
  clear hb10 h
  go_wp2_with fail
  refine (HKn.out _).mono ?_
  rintro x w11 ⟨rfl, hb11⟩
  have Hb11 := Lib.hid (below_then Hb10.out hb11)
  clear hb11
  go_wp2
  go_ret
  exact ⟨rfl, Hb11.out⟩

namespace storeNil
set_option maxRecDepth 100000 in
theorem lifted (os : Os) (started : os.Started) (H : Type) (enc : TypeId × Value → H) :
    ReturnsInHanded {} Tryz.checked os 9 .any (Rows.storeNilSpec.pre6 enc Tryz.prog Tryz.f9 Rows.storeNilRow.domain false) (Rows.storeNilSpec.post enc Tryz.prog Tryz.f9 false true false false) := by
  refine law_lift started (by kernel_rfl) Tryz.func9
    (ChangeSpec.witness6 (enc := enc) (C := Tryz.checked) false ⟨#[], #[.slice none 0 0, .string ⟨#[]⟩], []⟩ 8 (by kernel_rfl) (by kernel_rfl) (by kernel_rfl) (by kernel_rfl))
    rfl ?_ (by kernel_rfl) (by kernel_rfl) ?_
  · intro ds h
    match ds, h with
    | [_, _], _ => rfl
  intro W base args ds p g
  have hA := g.trod
  have hval := g.val
  rw [Tryz.params9] at hA hval
  obtain ⟨v0, vs0, d0, ds0, p0, q0, hargs, rfl, rfl, h0, r0⟩ := trodAll_cons hA
  obtain ⟨v1, vs1, d1, ds1, p1, q1, rfl, rfl, rfl, h1, r1⟩ := trodAll_cons r0
  obtain ⟨rfl, rfl, rfl⟩ := trodAll_nil r1
  obtain rfl : args = #[v0, v1] := by cases args; simp_all
  obtain ⟨A0, n0, c0, l0, rfl, hc0, hm0, hr0⟩ := given_chgs (hval 0 22 v0 rfl rfl) h0
  obtain ⟨s1, rfl, _, _, hk1⟩ := Go.ChangeMaps.open_string Tryz.underlying9 (hval 1 9 v1 rfl rfl) h1
  exact storeNil_walk A0 n0 c0 l0 s1.data.toList W hc0 hm0 hr0 (by rw [Array.length_toList]; exact hk1)

theorem over : Rows.storeNilRow.holds Tryz.pinned (OpenSpec.ofChange Rows.storeNilSpec) :=
  OpenClaim.holds_of_wide 9 Tryz.f9 rfl rfl rfl rfl rfl rfl rfl ⟨rfl, rfl, rfl, rfl, rfl⟩ rfl rfl rfl rfl rfl (by kernel_rfl) Tryz.func9 (by kernel_rfl)
    (of_decide_eq_true (by kernel_rfl)) (by unfold Func.isWrapper; first | (rw [if_pos (by decide +kernel)]; kernel_rfl) | (rw [if_neg (by decide +kernel)]; exact ⟨rfl, rfl⟩))
    (fun os started H enc _ => lifted os started H enc)
end storeNil

theorem StoreNil_proved : Rows.StoreNilSaid := storeNil.over
#print axioms StoreNil_proved
end Go.Proofs.YtcmjobpgdfapoaaGreat
