/- FrameScans is true at every bytes. Conditions: none. -/
import Derived.Test.YtbkbmmpcjpkkaaaLaw
import Derived.Test.YtbkbmmpcjpkkaaaPutAny
import Derived.Test.YtbkbmmpcjpkkaaaLent2
import Derived.Test.YtbkbmmpcjpkkaaaBodies
namespace Go.Proofs.Ytbkbmmpcjpkkaaa
open Go.ChangeShapes Go.WideShapes Go.ChangeAt Go.RowKit

theorem scanF_bd : ∀ (N : Nat) (l : List UInt8), l.length ≤ N → 10 * (scanF l).1.length ≤ (scanF l).2 ∧ (scanF l).2 ≤ l.length ∧ ∀ f ∈ (scanF l).1, f.2.length ≤ 1024 := by
  intro N
  induction N with
  | zero =>
    intro l h
    have hl : l = [] := List.eq_nil_of_length_eq_zero (by omega)
    subst hl
    rw [scanF_err (e := 10) rfl]
    exact ⟨by simp, by simp, fun f hf => by simp at hf⟩
  | succ N ih =>
    intro l h
    cases hg : getF l with
    | error e =>
      rw [scanF_err hg]
      exact ⟨by simp, by simp, fun f hf => by simp at hf⟩
    | ok x =>
      obtain ⟨f, k⟩ := x
      have hle := getF_le hg
      rw [scanF_ok hg]
      have := ih (l.drop k) (by rw [List.length_drop]; omega)
      rw [List.length_drop] at this
      refine ⟨by simp only [List.length_cons]; omega, by simp only; omega, fun g hg => ?_⟩
      simp only [List.mem_cons] at hg
      rcases hg with rfl | hg
      · omega
      · exact this.2.2 g hg

set_option maxHeartbeats 1000000 in
set_option maxRecDepth 100000 in
theorem frameScans_walk (A : Option Addr) (n c : Nat) (l : List UInt8) (w : World) (hc : n ≤ c) (hm : c ≤ 9223372036854775807) (h : Rd w w.heap.size A n l) :
    Calls Try.prog 5 #[.slice A n c] w fun e w' => e = .returned (.bool true) ∧ Below w.heap.size w w' := by
  by_cases hbig : 5000 < n
  · go_enter Try.func5, Try.ntmps5
    go_wp2_with fail
    refine (known_any _).mono ?_
    rintro e w' ⟨rfl, hb⟩
    go_wp2
    go_ret
    exact ⟨rfl, hb⟩
  · have HL := Lib.hid h.1
    have H := Lib.hid h
    have Cl := Lib.hid (lent_any A n c w.heap.size l w (by omega) h)
    obtain ⟨hb1, hb2, hb3⟩ := scanF_bd _ l (Nat.le_refl _)
    have RS : Hid (∀ W, Below w.heap.size w W → Calls Try.prog 25 #[.slice A n c] W fun e w' => ∃ v vals, e = .returned (.tuple #[v, .int .i64 ((scanF l).2 : Nat)]) ∧ Frames w' W.heap.size v vals (scanF l).1 ∧ Below W.heap.size W w') := Lib.hid fun W hW => refScan_any A n c l W hc (by omega) hm (h.up hW)
    have CS : Hid (∀ W A' c', n ≤ c' → c' ≤ 9223372036854775807 → Rd W W.heap.size A' n l → Calls Try.prog 24 #[.slice A' n c'] W fun e w' => ∃ v vals, e = .returned (.tuple #[v, .int .i64 ((scanF l).2 : Nat)]) ∧ Frames w' W.heap.size v vals (scanF l).1 ∧ Below W.heap.size W w') := Lib.hid fun W A' c' k1 k2 k3 => frameScan_any A' n c' l W k1 (by omega) k2 k3
    have HB3 := Lib.hid hb3
    rw [HL.out] at hb2
    generalize (scanF l).1 = fs at *
    generalize (scanF l).2 = K at *
    clear h hb3
    go_enter Try.func5, Try.ntmps5
    go_wp2_with fail
    refine Cl.out.mono ?_
    rintro e w1 ⟨g, cap, rfl, hx, hbl⟩
    have hcap := lent_cap hx
    have HX := Lib.hid hx
    have HR := Lib.hid (lent_rd HL.out hx)
    have Hb := Lib.hid hbl
    have hgb := (hx.lt g rfl).2
    have hga := (hx.lt g rfl).1
    clear hx hbl Cl
    go_wp2_with fail
    refine (CS.out w1 _ cap (by omega) hcap.2 HR.out).mono ?_
    rintro e w2 ⟨v, vals, rfl, hf, hbl⟩
    obtain ⟨Af, cf, rfl, hcf1, hcf2⟩ := own_shape hf.row
    have HF := Lib.hid hf
    have HX2 := Lib.hid (own_below HX.out hbl fun k hk => (HX.out.lt k hk).2)
    have Hb2 := Lib.hid (below_then Hb.out hbl)
    have hz12 := hbl.size
    clear hf hbl CS HX HR Hb
    go_wp2_with fail
    refine (RS.out w2 Hb2.out).mono ?_
    rintro e w3 ⟨v', vals', rfl, hf', hbl⟩
    obtain ⟨Ag, cg, rfl, hcg1, hcg2⟩ := own_shape hf'.row
    have HF3 := Lib.hid (HF.out.up hbl)
    have HF' := Lib.hid hf'
    have hz23 := hbl.size
    have HX3 := Lib.hid (own_below HX2.out hbl fun k hk => (HX2.out.lt k hk).2)
    have Hb3 := Lib.hid (below_then Hb2.out hbl)
    clear hf' hbl RS HF HX2 Hb2
    have hff : (fs == fs) = true := by simp
    have SM := frSame_any Af Ag fs.length cf fs.length cg _ _ fs fs w3 hcf1 (by unfold maxLen at hcf2; omega) hcg1 (by unfold maxLen at hcg2; omega) HF3.out.rd HF'.out.rd
    rw [hff] at SM
    have HSM := Lib.hid SM
    clear SM
    go_wp2_with fail
    refine HSM.out.mono ?_
    rintro e w4 ⟨rfl, q, rfl⟩
    have W1 := Lib.hid (whole_any g cap _ n c (w3.drewN q).heap.size A l (w3.drewN q) (by omega) (show (w3.drewN q).ownsRow _ _ _ _ _ _ from HX3.out) ((H.out.up Hb3.out).drewN q))
    go_wp2_with fail
    refine W1.out.mono ?_
    rintro e w' ⟨rfl, rfl⟩
    have Sp := Lib.hid (spoil_any g n cap _ l (w3.drewN q) (by omega) (lent_own HL.out (show (w3.drewN q).ownsRow _ _ _ _ _ _ from HX3.out)))
    clear W1 HX3 HSM
    go_wp2_with fail
    refine Sp.out.mono ?_
    rintro e w5 ⟨rfl, hg5⟩
    have hd : (w3.drewN q).heap.size = w3.heap.size := rfl
    have HF5 := Lib.hid (Frames.turned (show Frames (w3.drewN q) _ _ _ _ from ⟨HF3.out.row, HF3.out.fam.len, HF3.out.fam.each, HF3.out.fam.apart⟩) hg5 hgb)
    have HF5' := Lib.hid (Frames.turned (show Frames (w3.drewN q) _ _ _ _ from ⟨HF'.out.row, HF'.out.fam.len, HF'.out.fam.each, HF'.out.fam.apart⟩) hg5 (by omega))
    have Hb5 := Lib.hid ((bel_drewN Hb3.out q).trans (below_of_grown hg5 (by rw [hd]; exact Hb3.out.size) (by omega)))
    have hz35 : w3.heap.size ≤ w5.heap.size := hg5.size
    clear hg5 HF3 HF' Hb3 Sp hd
    have KN := Lib.hid (known_any w5)
    go_wp2_with fail
    refine KN.out.mono ?_
    rintro e w6 ⟨rfl, hk6⟩
    have HF6 := Lib.hid (HF5.out.up hk6)
    have HF6' := Lib.hid (HF5'.out.up hk6)
    have Hb6 := Lib.hid (below_then Hb5.out hk6)
    have hz56 := hk6.size
    clear hk6 KN HF5 HF5' Hb5
    have SM := frSame_any Af Ag fs.length cf fs.length cg _ _ fs fs w6 hcf1 (by unfold maxLen at hcf2; omega) hcg1 (by unfold maxLen at hcg2; omega) HF6.out.rd HF6'.out.rd
    rw [hff] at SM
    have HSM := Lib.hid SM
    clear SM
    go_wp2_with fail
    refine HSM.out.mono ?_
    rintro e w7 ⟨rfl, q2, rfl⟩
    have HF7 : Hid (Frames (w6.drewN q2) w1.heap.size (.slice Af fs.length cf) vals fs) := Lib.hid ⟨HF6.out.row, HF6.out.fam.len, HF6.out.fam.each, HF6.out.fam.apart⟩
    have Hb7 : Hid (Below w.heap.size w (w6.drewN q2)) := Lib.hid (bel_drewN Hb6.out q2)
    have hz7 : w1.heap.size ≤ (w6.drewN q2).heap.size := by show w1.heap.size ≤ w6.heap.size; omega
    clear HF6 HF6' Hb6 HSM
    generalize w6.drewN q2 = w7 at *
    have BO := Lib.hid (bodies_any Af fs.length cf _ vals fs w7 (by omega) HF7.out)
    go_wp2_with fail
    refine BO.out.mono ?_
    rintro e w8 ⟨vb, rfl, hob, hb8⟩
    obtain ⟨Ab, cb, rfl, _⟩ := own_shape hob
    have HFm := HF7.out.fam.up hb8
    have OW := Lib.hid (HFm.own (own_mono hob hz7) rfl (Nat.le_trans hz7 hb8.size) (by rw [HF7.out.len]; omega) (fun x hx => by
      obtain ⟨f, hf, rfl⟩ := List.mem_map.1 hx
      have := HB3.out f hf
      omega))
    have Hb8 := Lib.hid (below_then Hb7.out hb8)
    have hz18 := Nat.le_trans hz7 hb8.size
    clear hob hb8 HFm BO HF7 Hb7
    go_wp2_with fail
    refine OW.out.mono ?_
    rintro e w9 ⟨rfl, hb9⟩
    have Hb9 := Lib.hid (Hb8.out.trans (hb9.mono (by omega)))
    clear hb9 OW
    go_wp2
    go_ret
    exact ⟨rfl, Hb9.out⟩

namespace frameScans
set_option maxRecDepth 100000 in
theorem lifted (os : Os) (started : os.Started) (H : Type) (enc : TypeId × Value → H) :
    ReturnsInHanded {} Try.checked os 5 .any (Rows.frameScansSpec.pre6 enc Try.prog Try.f5 Rows.frameScansRow.domain false) (Rows.frameScansSpec.post enc Try.prog Try.f5 false true false false) := by
  refine law_lift started (by kernel_rfl) Try.func5
    (ChangeSpec.witness6 (enc := enc) (C := Try.checked) false ⟨#[], #[.slice none 0 0], []⟩ 8 (by kernel_rfl) (by kernel_rfl) (by kernel_rfl) (by kernel_rfl))
    rfl ?_ (by kernel_rfl) (by kernel_rfl) ?_
  · intro ds h
    match ds, h with
    | [_], _ => rfl
  intro W base args ds p g
  have hA := g.trod
  have hval := g.val
  rw [Try.params5] at hA hval
  obtain ⟨v0, vs0, d0, ds0, p0, q0, hargs, rfl, rfl, h0, r0⟩ := trodAll_cons hA
  obtain ⟨rfl, rfl, rfl⟩ := trodAll_nil r0
  obtain rfl : args = #[v0] := by cases args; simp_all
  obtain ⟨A0, n0, c0, l0, rfl, hc0, hm0, hr0⟩ := given_bytes (hval 0 22 v0 rfl rfl) h0
  exact frameScans_walk A0 n0 c0 l0 W hc0 hm0 hr0

theorem over : Rows.frameScansRow.holds Try.pinned (OpenSpec.ofChange Rows.frameScansSpec) :=
  OpenClaim.holds_of_wide 5 Try.f5 rfl rfl rfl rfl rfl rfl rfl ⟨rfl, rfl, rfl, rfl, rfl⟩ rfl rfl rfl rfl rfl (by kernel_rfl) Try.func5 (by kernel_rfl)
    (of_decide_eq_true (by kernel_rfl)) (by unfold Func.isWrapper; first | (rw [if_pos (by decide +kernel)]; kernel_rfl) | (rw [if_neg (by decide +kernel)]; exact ⟨rfl, rfl⟩))
    (fun os started H enc _ => lifted os started H enc)
end frameScans

theorem FrameScans_proved : Rows.FrameScansSaid := frameScans.over
#print axioms FrameScans_proved
end Go.Proofs.Ytbkbmmpcjpkkaaa
