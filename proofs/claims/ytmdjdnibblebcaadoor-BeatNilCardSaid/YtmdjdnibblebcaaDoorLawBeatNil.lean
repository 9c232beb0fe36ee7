/- BeatNil: for every input law14.BeatNil answers true: a view that is not there answers so; two views know nothing of one another. Conditions: the library's table lies where the program's text lays it (the card ties it); fmt is not reached. -/
import Derived.Test.YtmdjdnibblebcaaDoorBtJ
import Derived.Test.YtmdjdnibblebcaaDoorLawT
import Derived.Test.YtmdjdnibblebcaaDoorDActs
namespace Go.Proofs.YtmdjdnibblebcaaDoor
open Go.RowKit Go.ChangeShapes Go.WideShapes Go.ChangeAt

/-- Two views of the call's own, apart. -/
structure TwoV (W w : World) (g b c : Nat) (v : Vw) (g2 b2 c2 : Nat) (u : Vw) : Prop where
  one : OB W w g b c v
  two : OB W w g2 b2 c2 u
  a1 : g2 ≠ g
  a2 : g2 ≠ b
  a3 : b2 ≠ g
  a4 : b2 ≠ b
theorem TwoV.step {W w w' : World} {g b c g2 b2 c2 : Nat} {v u v' : Vw} (h : TwoV W w g b c v g2 b2 c2 u) (h1 : OB W w' g b c v') (hk : Kp (fun k => k = g ∨ k = b) w w') : TwoV W w' g b c v' g2 b2 c2 u :=
  ⟨h1, ⟨h.two.ov.kp hk (fun e => by rcases e with e | e; exact h.a1 e; exact h.a2 e) (fun e => by rcases e with e | e; exact h.a3 e; exact h.a4 e), h1.bel⟩, h.a1, h.a2, h.a3, h.a4⟩
theorem TwoV.below {W w w' : World} {g b c g2 b2 c2 : Nat} {v u : Vw} (h : TwoV W w g b c v g2 b2 c2 u) (hb : Below w.heap.size w w') : TwoV W w' g b c v g2 b2 c2 u := ⟨h.one.below hb, h.two.below hb, h.a1, h.a2, h.a3, h.a4⟩
set_option maxRecDepth 100000 in
set_option maxHeartbeats 8000000 in
theorem beatNil_walk (A : Option Addr) (n c : Nat) (l : List Int) (A2 : Option Addr) (n2 c2 : Nat) (l2 : List Int) (home : Int) (w : World) (hc : n ≤ c) (hm : c ≤ 9223372036854775807) (hr : RdI w w.heap.size A n l)
    (hc2 : n2 ≤ c2) (hm2 : c2 ≤ 9223372036854775807) (hr2 : RdI w w.heap.size A2 n2 l2) (_ : -9223372036854775808 ≤ home) (_ : home ≤ 9223372036854775807) (hT : Tz w) :
    Calls Tryd.prog 9 #[.slice A n c, .slice A2 n2 c2, .int .i64 home] w fun e w' => e = .returned (.bool true) ∧ Below w.heap.size w w' := by
  have HT := Lib.hid hT
  have HR := Lib.hid hr
  have HR2 := Lib.hid hr2
  have HL2 := Lib.hid hr2.1
  have HON := Lib.hid (order_nil home)
  have n1 := tick_nil
  have N2 := Lib.hid (hear_nil 0)
  have N3 := Lib.hid up_nil
  have N4 := Lib.hid (since_nil 0)
  have N5 := Lib.hid calm_nil
  have N6 := Lib.hid (leader_nil home)
  have hn : n ≤ 9223372036854775807 := by omega
  have HV := Lib.hid fun W (h : RdI W W.heap.size A n l) => view_any A n c l 0 4 W hn h
  have N1 := Lib.hid n1
  clear hT hr hr2 n1
  go_enter Tryd.func9, Tryd.ntmps9
  go_wp2_with fail
  refine (N1.out _).mono ?_
  rintro e w' ⟨rfl, hw⟩
  rw [hw]
  clear hw
  go_wp2_with fail
  refine (N2.out _).mono ?_
  rintro e w' ⟨rfl, hw⟩
  rw [hw]
  clear hw
  go_wp2_with fail
  refine (N3.out _).mono ?_
  rintro e w' ⟨rfl, hw⟩
  rw [hw]
  clear hw
  go_wp2_with fail
  refine (N4.out _).mono ?_
  rintro e w' ⟨rfl, hw⟩
  rw [hw]
  clear hw
  go_wp2_with fail
  refine (N5.out _).mono ?_
  rintro e w' ⟨rfl, hw⟩
  rw [hw]
  clear hw
  go_wp2_with fail
  refine (HON.out _).mono ?_
  rintro e w1 ⟨⟨A9, c9, rfl⟩, hb1⟩
  have HB1 := Lib.hid hb1
  clear hb1
  go_wp2_with fail
  refine (N6.out _).mono ?_
  rintro e w' ⟨rfl, hw⟩
  rw [hw]
  clear hw
  have HV1 := Lib.hid (HV.out w1 (HR.out.up HB1.out))
  go_wp2_with fail
  refine HV1.out.mono ?_
  rintro e w2 ⟨g, b, cv, rfl, H2⟩
  have HB2 : Hid (Below w.heap.size w w2) := Lib.hid (HB1.out.trans (H2.out.2.mono HB1.out.size))
  have HV2 := Lib.hid (HV.out w2 (HR.out.up HB2.out))
  go_wp2_with fail
  refine HV2.out.mono ?_
  rintro e w3 ⟨g2, b2, cv2, rfl, H3⟩
  have HS : Hid (TwoV w w3 g b cv (viewV l 0 4) g2 b2 cv2 (viewV l 0 4)) := Lib.hid (by
    have h2 := H2.out
    have h3 := H3.out
    have hs1 := HB1.out.size
    have hs2 := HB2.out.size
    have hs3 := h3.2.size
    have hlt := h2.1.pv.lt
    have e1 := h3.1.gg
    have e2 := h3.1.gb
    have f1 := h2.1.gg
    have f2 := h2.1.gb
    have hbel : Below w.heap.size w w3 := HB2.out.trans (h3.2.mono hs2)
    exact ⟨⟨⟨h2.1.pv.below h3.2, by omega, by omega⟩, hbel⟩, ⟨⟨h3.1.pv, by omega, by omega⟩, hbel⟩, by omega, by omega, by omega, by omega⟩)
  obtain ⟨u, hu⟩ : ∃ u, u = viewV l 0 4 := ⟨_, rfl⟩
  rw [← hu] at HS
  have HU := Lib.hid hu
  have HC := Lib.hid HS.out.two.upC
  clear HV HV1 HV2 H2 H3 HB1 HB2 hu
  go_wp2_with fail
  refine HC.out.mono ?_
  rintro e w4 ⟨rfl, H4⟩
  have HS4 : Hid (TwoV w w4 g b cv u g2 b2 cv2 u) := Lib.hid (HS.out.below H4.out.2)
  clear HC H4 HS
  go_wp2
  go_loopg [12] (min n2 40) (fun gk a wr => ∃ i : Nat, a = .int .i64 (i : Int) ∧ i + gk = min n2 40 ∧ ∃ v, Hid (TwoV w wr g b cv v g2 b2 cv2 u))
  case atStart => exact ⟨0, rfl, by omega, u, HS4⟩
  case round =>
    obtain ⟨i, rfl, hig, v, HI⟩ := hrel
    by_cases hin : i < min n2 40
    · have m1 : (i : Int) < (n2 : Int) := by omega
      have m2 : (i : Int) < 40 := by omega
      have m0 : ¬ (i : Int) < 0 := by omega
      have e1 : IntKind.i64.wrap ((i : Int) + 1) = ((i + 1 : Nat) : Int) := by rw [IntKind.wrap_i64]; omega
      have hil : i < l2.length := by rw [HL2.out]; omega
      obtain ⟨b9, o9, rfl, hbl, hcl⟩ := (HR2.out.below HI.out.one.bel).2.2 (by omega)
      have q0 := hcl i hil
      obtain ⟨x, hx⟩ : ∃ x, x = l2[i] := ⟨_, rfl⟩
      rw [← hx] at q0
      clear hcl hx
      have HC1 := Lib.hid HI.out.one.tick
      have HC2 := Lib.hid (HI.out.one.hear x)
      by_cases hx0 : x < 0
      · go_wp2_with fail
        refine HC1.out.mono ?_
        rintro e w5 ⟨rfl, H5⟩
        have HI5 : Hid (TwoV w w5 g b cv v.tick g2 b2 cv2 u) := Lib.hid (HI.out.step H5.out.1 H5.out.2)
        clear HC1 HC2 H5
        go_wp2
        go_roundg (gk - 1)
        case measure => omega
        case rel => exact ⟨i + 1, by go_num, by omega, _, HI5⟩
      · go_wp2_with fail
        refine HC2.out.mono ?_
        rintro e w5 ⟨rfl, H5⟩
        have HI5 : Hid (TwoV w w5 g b cv (v.hearI x) g2 b2 cv2 u) := Lib.hid (HI.out.step H5.out.1 H5.out.2)
        generalize (if 0 ≤ x ∧ x < (v.n : Int) then (0 : Int) else 2) = y
        clear HC1 HC2 H5
        go_wp2
        go_roundg (gk - 1)
        case measure => omega
        case rel => exact ⟨i + 1, by go_num, by omega, _, HI5⟩
    · have HC1 := Lib.hid HI.out.two.upC
      have hcase : (¬ (i : Int) < (n2 : Int)) ∨ ((i : Int) < (n2 : Int) ∧ ¬ (i : Int) < 40) := by omega
      clear hin hig
      rcases hcase with m1 | ⟨m1, m4⟩
      all_goals
        go_wp2_with fail
        refine HC1.out.mono ?_
        rintro e w5 ⟨rfl, H5⟩
        have HI5 := Lib.hid (HI.out.below H5.out.2)
        have HC2 := Lib.hid HI5.out.two.calm
        have hcalm : u.calm = 0 := by rw [HU.out]; rfl
        rw [hcalm] at HC2
        clear hcalm
        go_wp2_with fail
        refine HC2.out.mono ?_
        rintro e w6 ⟨rfl, rfl⟩
        have HK := Lib.hid (known14_any w5 (HT.out.below HI5.out.one.bel HT.out.lt))
        go_wp2_with fail
        refine HK.out.mono ?_
        rintro e w7 ⟨rfl, hb7⟩
        have HB7 : Hid (Below w.heap.size w w7) := Lib.hid (HI5.out.one.bel.trans (hb7.mono HI5.out.one.bel.size))
        clear hb7
        go_wp2
        go_ret
        exact ⟨rfl, HB7.out⟩

namespace beatNil
set_option maxRecDepth 100000 in
theorem lifted (os : Os) (started : os.Started) (H : Type) (enc : TypeId × Value → H) (F : Stop.Interp) :
    ReturnsInHanded {} Tryd.checked os 9 .any ((OpenSpec.ofChange Rows.beatNilSpec).preRow enc Tryd.prog Tryd.f9 Rows.beatNilRow.domain false Rows.beatNilRow.laid) (((OpenSpec.ofChange Rows.beatNilSpec).at F).post enc Tryd.prog Tryd.f9 false true false false) := by
  have hs : (DataW.whole enc Tryd.prog ((laidWorld os).forCall (fun _ _ => 0) ⟨#[], #[.slice none 0 0, .slice none 0 0, .int .i64 0], []⟩).memory Tryd.f9.params.toList Rows.beatNilSpec.vars false (#[.slice none 0 0, .slice none 0 0, .int .i64 0] : Array Value).toList 8).isSome = true := by kernel_rfl
  obtain ⟨x, hx⟩ := Option.isSome_iff_exists.1 hs
  have hmet : laidMet Tryd.prog tabL ((laidWorld os).forCall (fun _ _ => 0) ⟨#[], #[.slice none 0 0, .slice none 0 0, .int .i64 0], []⟩).memory := laidMet_of_run' 8 (by kernel_rfl) (by kernel_rfl)
  refine law_lift_tab started (by kernel_rfl) Tryd.func9
    (witness_row_at (enc := enc) (C := Tryd.checked) false (laidWorld os) #[.slice none 0 0, .slice none 0 0, .int .i64 0] rfl (by kernel_rfl) (by kernel_rfl) (by kernel_rfl)
      (OpenSpec.preRow_of_cond 8 hx (by kernel_rfl) (fun k hk => by cases hk) (by kernel_rfl) hmet))
    rfl ?_ (by kernel_rfl) (by kernel_rfl) ?_
  · intro ds h
    match ds, h with
    | [_, _, _], _ => rfl
  intro W base args ds p g hTz
  have hA := g.trod
  have hval := g.val
  rw [Tryd.params9] at hA hval
  obtain ⟨v0, vs0, d0, ds0, p0, q0, hargs, rfl, rfl, h0, r0⟩ := trodAll_cons hA
  obtain ⟨v1, vs1, d1, ds1, p1, q1, rfl, rfl, rfl, h1, r1⟩ := trodAll_cons r0
  obtain ⟨v2, vs2, d2, ds2, p2, q2, rfl, rfl, rfl, h2, r2⟩ := trodAll_cons r1
  obtain ⟨rfl, rfl, rfl⟩ := trodAll_nil r2
  obtain rfl : args = #[v0, v1, v2] := by cases args; simp_all
  obtain ⟨A0, n0, c0, l0, rfl, hc0, hm0, hr0⟩ := given_ints (hval 0 22 v0 rfl rfl) h0
  obtain ⟨A1, n1, c1, l1, rfl, hc1, hm1, hr1⟩ := given_ints (hval 1 22 v1 rfl rfl) h1
  obtain ⟨a2, rfl, _, _, w2⟩ := open_int Tryd.underlying3 (hval 2 3 v2 rfl rfl) h2
  have b2 := bounds_i64 w2
  exact beatNil_walk A0 n0 c0 l0 A1 n1 c1 l1 a2 W hc0 hm0 hr0 hc1 hm1 hr1 b2.1 b2.2 hTz

theorem said : Rows.BeatNilSaid :=
  OpenClaim.holds_of_cond 9 Tryd.f9 rfl rfl rfl rfl rfl rfl rfl ⟨rfl, rfl, rfl, rfl, rfl⟩ rfl rfl rfl rfl rfl (by kernel_rfl) Tryd.func9 (by kernel_rfl)
    (of_decide_eq_true (by kernel_rfl)) (by unfold Func.isWrapper; first | (rw [if_pos (by decide +kernel)]; kernel_rfl) | (rw [if_neg (by decide +kernel)]; exact ⟨rfl, rfl⟩))
    (fun os started H enc _ F => by rw [OpenClaim.pre_eq_preRow]; exact lifted os started H enc F)
/-- No parameter wants a stand-in; the program's own looks are off. -/
theorem plain (f : FuncId) (fn : Func) (hf : Tryd.pinned.checked.prog.funcNamed "seawall/seawalllaw14.BeatNil" = some f) (hfn : Tryd.pinned.checked.prog.funcs[f]? = some fn) :
    false = Tryd.pinned.checked.prog.looks [] ∧ ∀ (j : Nat) t, fn.params[j]? = some t → Tryd.pinned.checked.prog.wantsStandIn t = false := by
  obtain rfl : f = 9 := Option.some.inj ((show Tryd.prog.funcNamed "seawall/seawalllaw14.BeatNil" = some 9 by kernel_rfl).symm.trans hf) |>.symm
  obtain rfl : fn = Tryd.f9 := (Option.some.inj (Tryd.func9.symm.trans hfn)).symm
  refine ⟨by kernel_rfl, fun j t ht => ?_⟩
  rw [Tryd.params9] at ht
  have hm : t ∈ [22, 22, 3] := by simpa using Array.mem_of_getElem? ht
  have hall : ([22, 22, 3].all fun u => !Tryd.prog.wantsStandIn u) = true := by kernel_rfl
  exact (show Tryd.prog.wantsStandIn t = false by simpa using List.all_eq_true.1 hall t hm)
end beatNil

theorem BeatNil_proved : Rows.BeatNilCardSaid :=
  Claim7.holds_tied_plain_at .later [] _ _ _ _ beatNil.said (fun _ h => by cases h) (by kernel_rfl) (fun _ h => by cases h) beatNil_row_tie rfl ⟨rfl, rfl⟩ (by kernel_rfl) rfl beatNil.plain (by kernel_rfl)
#print axioms BeatNil_proved
end Go.Proofs.YtmdjdnibblebcaaDoor
