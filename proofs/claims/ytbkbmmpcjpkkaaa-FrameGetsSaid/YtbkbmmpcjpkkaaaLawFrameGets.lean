/- FrameGets is true at every bytes and every place. Conditions: none. -/
import Derived.Test.YtbkbmmpcjpkkaaaLaw
import Derived.Test.YtbkbmmpcjpkkaaaPutAny
import Derived.Test.YtbkbmmpcjpkkaaaLent2
namespace Go.Proofs.Ytbkbmmpcjpkkaaa
open Go.ChangeShapes Go.WideShapes Go.ChangeAt Go.RowKit

/-- What Get tells, its parts in bounds. -/
theorem getA_form (l : List UInt8) (a : Int) : ∃ (k : UInt8) (body : List UInt8) (to e : Nat), getA l a = (k, body, (to : Int), (e : Int)) ∧ body.length ≤ 1024 ∧ to ≤ l.length ∧ e ≤ 100 := by
  unfold getA
  by_cases h1 : a < 0 ∨ (l.length : Int) < a
  · rw [if_pos h1]; exact ⟨0, [], 0, 2, rfl, by simp, by omega, by omega⟩
  · rw [if_neg h1]
    obtain ⟨k, rfl⟩ := Int.eq_ofNat_of_zero_le (show 0 ≤ a by omega)
    rw [Int.toNat_natCast]
    cases h : getF (l.drop k) with
    | error e => have := getF_err h; exact ⟨0, [], 0, e, rfl, by simp, by omega, by omega⟩
    | ok x =>
      obtain ⟨f, m⟩ := x
      have := getF_le h
      rw [List.length_drop] at this
      exact ⟨f.1, f.2, k + m, 0, by simp, by omega, by omega, by omega⟩

set_option maxHeartbeats 1000000 in
set_option maxRecDepth 100000 in
theorem frameGets_walk (A : Option Addr) (n c : Nat) (l : List UInt8) (at_ : Int) (w : World) (hc : n ≤ c) (hm : c ≤ 9223372036854775807) (h : Rd w w.heap.size A n l) (h1 : -9223372036854775808 ≤ at_) (h2 : at_ ≤ 9223372036854775807) :
    Calls Try.prog 4 #[.slice A n c, .int .i64 at_] w fun e w' => e = .returned (.bool true) ∧ Below w.heap.size w w' := by
  by_cases hbig : 5000 < n
  · go_enter Try.func4, Try.ntmps4
    go_wp2_with fail
    refine (known_any _).mono ?_
    rintro e w' ⟨rfl, hb⟩
    go_wp2
    go_ret
    exact ⟨rfl, hb⟩
  · have hl := h.1
    have cl := lent_any A n c w.heap.size l w (by omega) h
    obtain ⟨kd, body, to, er, hg, hbl, hto, her⟩ := getA_form l at_
    have cG : ∀ (A : Option Addr) (c : Nat) (w : World), n ≤ c → c ≤ 9223372036854775807 → Rd w w.heap.size A n l → Calls Try.prog 20 #[.slice A n c, .int .i64 at_] w fun e w' =>
        ∃ A' c', e = .returned (.tuple #[.agg #[.int .u8 (kd.toNat : Int), .slice A' body.length c'], .int .i64 to, .int .i64 er]) ∧ Rd w' w'.heap.size A' body.length body ∧ Below w.heap.size w w' := by
      intro A c w h1 h2 h3
      have := frameGet_any A n c at_ l w h1 (by omega) h2 h3
      rw [hg] at this
      refine this.mono ?_
      rintro e w' ⟨v, rfl, ho, hb⟩
      obtain ⟨A', c', rfl, _⟩ := own_shape ho
      exact ⟨A', c', rfl, Rd.of_own ho, hb⟩
    have rG : ∀ (A : Option Addr) (c : Nat) (w : World), n ≤ c → c ≤ 9223372036854775807 → Rd w w.heap.size A n l → Calls Try.prog 21 #[.slice A n c, .int .i64 at_] w fun e w' =>
        ∃ A' c', e = .returned (.tuple #[.agg #[.int .u8 (kd.toNat : Int), .slice A' body.length c'], .int .i64 to, .int .i64 er]) ∧ Rd w' w'.heap.size A' body.length body ∧ Below w.heap.size w w' := by
      intro A c w h1 h2 h3
      have := refGetF_any A n c at_ l w h1 (by omega) h2 h3
      rw [hg] at this
      refine this.mono ?_
      rintro e w' ⟨v, rfl, ho, hb⟩
      obtain ⟨A', c', rfl, _⟩ := own_shape ho
      exact ⟨A', c', rfl, Rd.of_own ho, hb⟩
    have CG := Lib.hid cG
    have RG := Lib.hid rG
    have CS : Hid (∀ (A : Option Addr) (c : Nat) (w : World), n ≤ c → c ≤ 9223372036854775807 → Rd w w.heap.size A n l → Calls Try.prog 22 #[.slice A n c, .int .i64 at_] w fun e w' => e = .returned (.int .i64 (seekF l at_.toNat : Nat)) ∧ Below w.heap.size w w') := Lib.hid fun A c w k1 k2 k3 => frameSeek_any A n c at_ l w k1 (by omega) k2 k3 h1 h2
    have RS : Hid (∀ (A : Option Addr) (c : Nat) (w : World), n ≤ c → c ≤ 9223372036854775807 → Rd w w.heap.size A n l → Calls Try.prog 23 #[.slice A n c, .int .i64 at_] w fun e w' => e = .returned (.int .i64 (seekF l at_.toNat : Nat)) ∧ Below w.heap.size w w') := Lib.hid fun A c w k1 k2 k3 => refSeek_any A n c at_ l w k1 (by omega) k2 k3 h1 h2
    have Cl := Lib.hid cl
    have Hr := Lib.hid h
    have Hl := Lib.hid hl
    generalize seekF l at_.toNat = sk at *
    clear cG rG cl h hl hg h1 h2
    go_enter Try.func4, Try.ntmps4
    go_wp2_with fail
    refine Cl.out.mono ?_
    rintro e' w1 ⟨g, cap, rfl, hx, hb⟩
    have hcap := lent_cap hx
    have Hx := Lib.hid (lent_rd Hl.out hx)
    have Hb := Lib.hid (Hr.out.up hb)
    have Hx0 := Lib.hid hx
    have Hbl := Lib.hid hb
    clear hx hb Cl
    go_wp2_with fail
    refine (CG.out _ cap _ (by omega) (by omega) Hx.out).mono ?_
    rintro e' w2 ⟨A1, c1, rfl, hr1, hb1⟩
    have hbk1 : Bk (w2.alloc (.cells #[.int .u8 (kd.toNat : Int), .slice A1 body.length c1] 37)) w2.heap.size 37 #[.int .u8 (kd.toNat : Int), .slice A1 body.length c1] := Bk.new _ _ _
    have Hr1 := Lib.hid (((hr1.alloc (Nat.le_refl _) (.cells #[.int .u8 (kd.toNat : Int), .slice A1 body.length c1] 37))).more (B' := w2.heap.size + 1) (by omega))
    have Hb2 := Lib.hid (((Hb.out.up hb1).alloc (Nat.le_refl _) (.cells #[.int .u8 (kd.toNat : Int), .slice A1 body.length c1] 37)).more (B' := w2.heap.size + 1) (by omega))
    have Hbb1 := Lib.hid (hb1.alloc hb1.size (.cells #[.int .u8 (kd.toNat : Int), .slice A1 body.length c1] 37))
    clear hr1 hb1 CG
    have hz2 : (w2.alloc (.cells #[.int .u8 (kd.toNat : Int), .slice A1 body.length c1] 37)).heap.size = w2.heap.size + 1 := by simp
    go_wp2_with fail
    refine (RG.out _ c (w2.alloc (.cells #[.int .u8 (kd.toNat : Int), .slice A1 body.length c1] 37)) (by omega) (by omega) (Hb2.out.more (by simp))).mono ?_
    rintro e' w3 ⟨A2, c2, rfl, hr2, hb2⟩
    rw [hz2] at hb2
    -- where both frames lie
    have hb3 : Below (w2.heap.size + 1) (w2.alloc (.cells #[.int .u8 (kd.toNat : Int), .slice A1 body.length c1] 37)) (w3.alloc (.cells #[.int .u8 (kd.toNat : Int), .slice A2 body.length c2] 37)) := hb2.alloc (by have := hb2.size; rw [hz2] at this; exact this) _
    have hbk3 := hbk1.below hb3 (by omega)
    have hbk4 : Bk (w3.alloc (.cells #[.int .u8 (kd.toNat : Int), .slice A2 body.length c2] 37)) w3.heap.size 37 #[.int .u8 (kd.toNat : Int), .slice A2 body.length c2] := Bk.new _ _ _
    have d0 := hbk3.cell 0
    have d1 := hbk3.cell 1
    have d2 := hbk4.cell 0
    have d3 := hbk4.cell 1
    simp only [List.getElem?_toArray, List.getElem?_cons_zero, List.getElem?_cons_succ] at d0 d1 d2 d3
    have hle3 : w2.heap.size + 1 ≤ (w3.alloc (.cells #[.int .u8 (kd.toNat : Int), .slice A2 body.length c2] 37)).heap.size := by have := hb3.size; rw [hz2] at this; exact this
    have Q1 := Lib.hid ((Hr1.out.below hb3).more hle3)
    have Q2 := Lib.hid ((hr2.alloc (Nat.le_refl _) (.cells #[.int .u8 (kd.toNat : Int), .slice A2 body.length c2] 37)).more (show w3.heap.size ≤ (w3.alloc (.cells #[.int .u8 (kd.toNat : Int), .slice A2 body.length c2] 37)).heap.size by simp))
    have B13 := Lib.hid (Hbb1.out.trans (hb3.mono (by have := Hbb1.out.size; rw [hz2] at this; exact this)))
    have QA := Lib.hid (Hb.out.up B13.out)
    have QX := Lib.hid (Hx.out.up B13.out)
    have QL := Lib.hid (own_below Hx0.out B13.out fun k hk => (Hx0.out.lt k hk).2)
    have B4 := Lib.hid (below_then Hbl.out B13.out)
    clear hbk1 Hr1 Hb2 Hbb1 RG hr2 hb2 hb3 hbk3 hbk4 hle3 B13 Hb Hx Hx0 Hbl hz2
    go_wp2_with fail
    refine (same_any _ _ _ _ c1 c2 _ _ _ _ _ Q1.out Q2.out).mono ?_
    rintro e' w' ⟨rfl, rfl⟩
    have hbb : (body == body) = true := by simp
    rw [hbb]
    clear Q1 Q2 hbb
    generalize (w3.alloc (.cells #[.int .u8 (kd.toNat : Int), .slice A2 body.length c2] 37)) = w4 at *
    by_cases h400 : n ≤ 400
    · go_wp2_with fail
      refine (CS.out _ cap w4 (by omega) (by omega) QX.out).mono ?_
      rintro e' w5 ⟨rfl, hs5⟩
      have QA5 := Lib.hid (QA.out.up hs5)
      have QL5 := Lib.hid (own_below QL.out hs5 fun k hk => (QL.out.lt k hk).2)
      have B5 := Lib.hid (below_then B4.out hs5)
      clear hs5 d0 d1 d2 d3 QX QA QL B4 CS
      go_wp2_with fail
      refine (RS.out _ c w5 (by omega) (by omega) QA5.out).mono ?_
      rintro e' w6 ⟨rfl, hs6⟩
      have QA6 := Lib.hid (QA5.out.up hs6)
      have QL6 := Lib.hid (own_below QL5.out hs6 fun k hk => (QL5.out.lt k hk).2)
      have B6 := Lib.hid (below_then B5.out hs6)
      clear hs6 QA5 QL5 B5 RS
      have KN := Lib.hid (known_any w6)
      go_wp2_with fail
      refine KN.out.mono ?_
      rintro e' w7 ⟨rfl, hk⟩
      have Hw := Lib.hid (whole_any g cap w.heap.size n c _ A l w7 (by omega) (own_below QL6.out hk fun k hk' => (QL6.out.lt k hk').2) (QA6.out.up hk))
      have HB := Lib.hid (below_then B6.out hk)
      clear hk KN
      go_wp2_with fail
      refine Hw.out.mono ?_
      rintro e' w' ⟨rfl, rfl⟩
      go_wp2
      go_ret
      exact ⟨rfl, HB.out⟩
    · clear d0 d1 d2 d3
      have KN := Lib.hid (known_any w4)
      go_wp2_with fail
      refine KN.out.mono ?_
      rintro e' w5 ⟨rfl, hk⟩
      have Hw := Lib.hid (whole_any g cap w.heap.size n c _ A l w5 (by omega) (own_below QL.out hk fun k hk' => (QL.out.lt k hk').2) (QA.out.up hk))
      have HB := Lib.hid (below_then B4.out hk)
      clear hk KN
      go_wp2_with fail
      refine Hw.out.mono ?_
      rintro e' w' ⟨rfl, rfl⟩
      go_wp2
      go_ret
      exact ⟨rfl, HB.out⟩

namespace frameGets
set_option maxRecDepth 100000 in
theorem lifted (os : Os) (started : os.Started) (H : Type) (enc : TypeId × Value → H) :
    ReturnsInHanded {} Try.checked os 4 .any (Rows.frameGetsSpec.pre6 enc Try.prog Try.f4 Rows.frameGetsRow.domain false) (Rows.frameGetsSpec.post enc Try.prog Try.f4 false true false false) := by
  refine law_lift started (by kernel_rfl) Try.func4
    (ChangeSpec.witness6 (enc := enc) (C := Try.checked) false ⟨#[], #[.slice none 0 0, .int .i64 0], []⟩ 8 (by kernel_rfl) (by kernel_rfl) (by kernel_rfl) (by kernel_rfl))
    rfl ?_ (by kernel_rfl) (by kernel_rfl) ?_
  · intro ds h
    match ds, h with
    | [_, _], _ => rfl
  intro W base args ds p g
  have hA := g.trod
  have hval := g.val
  rw [Try.params4] at hA hval
  obtain ⟨v0, vs0, d0, ds0, p0, q0, hargs, rfl, rfl, h0, r0⟩ := trodAll_cons hA
  obtain ⟨v1, vs1, d1, ds1, p1, q1, rfl, rfl, rfl, h1, r1⟩ := trodAll_cons r0
  obtain ⟨rfl, rfl, rfl⟩ := trodAll_nil r1
  obtain rfl : args = #[v0, v1] := by cases args; simp_all
  obtain ⟨A0, n0, c0, l0, rfl, hc0, hm0, hr0⟩ := given_bytes (hval 0 22 v0 rfl rfl) h0
  obtain ⟨a1, rfl, _, _, w1⟩ := open_int Try.underlying3 (hval 1 3 v1 rfl rfl) h1
  have b1 := bounds_i64 w1
  exact frameGets_walk A0 n0 c0 l0 a1 W hc0 hm0 hr0 b1.1 b1.2

theorem over : Rows.frameGetsRow.holds Try.pinned (OpenSpec.ofChange Rows.frameGetsSpec) :=
  OpenClaim.holds_of_wide 4 Try.f4 rfl rfl rfl rfl rfl rfl rfl ⟨rfl, rfl, rfl, rfl, rfl⟩ rfl rfl rfl rfl rfl (by kernel_rfl) Try.func4 (by kernel_rfl)
    (of_decide_eq_true (by kernel_rfl)) (by unfold Func.isWrapper; first | (rw [if_pos (by decide +kernel)]; kernel_rfl) | (rw [if_neg (by decide +kernel)]; exact ⟨rfl, rfl⟩))
    (fun os started H enc _ => lifted os started H enc)
end frameGets

theorem FrameGets_proved : Rows.FrameGetsSaid := frameGets.over
#print axioms FrameGets_proved
end Go.Proofs.Ytbkbmmpcjpkkaaa
