/- OnceRoom: one that is new sends away the oldest that is not busy, and nobody else; the table stays in its room. -/
import Derived.Test.YtonkohbmknopmaaOnZ
import Derived.Test.YtonkohbmknopmaaLaw
import Derived.Test.YtonkohbmknopmaaOnGv
import Derived.BigQuiet
import Derived.Deep.QuietTactic
import Derived.Deep.CutRange
namespace Go.Proofs.Ytonkohbmknopmaa
open Go.ChangeShapes Go.WideShapes Go.ChangeAt Go.RowKit Go.Maps

theorem rem_room (x : Int) : ∃ C M : Nat, M = 1 + C ∧ C < 64 ∧ (IntKind.u64.wrap x).tmod 64 = (C : Int) ∧ IntKind.u64.wrap x % 64 = (C : Int) ∧ IntKind.u64.wrap (C : Int) = (C : Int) ∧ IntKind.i64.wrap (C : Int) = (C : Int) ∧ IntKind.i64.wrap (1 + (C : Int)) = (M : Int) := by
  have h0 : 0 ≤ IntKind.u64.wrap x := by rw [IntKind.wrap_u64]; omega
  obtain ⟨U, hU⟩ := Int.eq_ofNat_of_zero_le h0
  rw [hU]
  have hC := Nat.mod_lt U (show 64 > 0 by decide)
  refine ⟨U % 64, 1 + U % 64, rfl, hC, by rw [Int.tmod_eq_emod_of_nonneg (by omega)]; rfl, rfl, by rw [IntKind.wrap_u64]; omega, by rw [IntKind.wrap_i64]; omega, by rw [IntKind.wrap_i64]; omega⟩
theorem CsR.all {w : World} {A : Option Addr} {l : List Cl} {k : Nat} (h : CsR w A l) (hk : k < l.length) : ∃ R, A = some ⟨R, 0, none⟩ ∧ ∀ j (hj : j < l.length), w.cell? ⟨R, j * 4, none⟩ = some (.int .u64 (l[j].id : Int)) ∧ w.cell? ⟨R, j * 4 + 2, none⟩ = some (.bool l[j].busy) := by
  obtain ⟨R, s, e, _⟩ := h k hk
  refine ⟨R, e, fun j hj => ?_⟩
  obtain ⟨R', s', e', q0, _, q2, _⟩ := h j hj
  rw [e] at e'
  injection e' with e'
  injection e' with e' _ _
  subst e'
  exact ⟨q0, q2⟩
set_option maxHeartbeats 8000000 in
set_option maxRecDepth 100000 in
theorem onceRoom_walk (a0 : Int) (A1 : Option Addr) (n1 c1 : Nat) (f1 : Nat → Gl) (W : World) (_h0 : -9223372036854775808 ≤ a0) (_h1 : a0 ≤ 9223372036854775807) (hc1 : n1 ≤ c1) (hm1 : c1 ≤ 9223372036854775807) (hr1 : As13 W W.heap.size A1 n1 f1) :
    Calls Try.prog 6 #[.int .i64 a0, .slice A1 n1 c1] W fun e w' => e = .returned (.bool true) ∧ Below W.heap.size W w' := by
  have HLg := Lib.hid (fun w (hb : Below W.heap.size W w) => long13_any (hr1.below hb) ⟨hc1, hm1⟩)
  have HKn := Lib.hid (fun w => known13_any w)
  have HA1 : Hid (∀ w, Below W.heap.size W w → ∀ i, i < n1 → ∃ b o, A1 = some ⟨b, o, none⟩ ∧ (f1 i).Ok W W.heap.size ∧ w.cell? ⟨b, o + i * 4, none⟩ = some (.int .i64 (f1 i).kind) ∧ w.cell? ⟨b, o + i * 4 + 1, none⟩ = some (.int .u64 ((f1 i).id : Int)) ∧ w.cell? ⟨b, o + i * 4 + 2, none⟩ = some (.int .u64 ((f1 i).num : Int)) ∧ w.cell? ⟨b, o + i * 4 + 3, none⟩ = some (.slice (f1 i).A (f1 i).n (f1 i).c)) := Lib.hid fun w hb i hi => by
    obtain ⟨b, o, e, _, h⟩ := (hr1.below hb) (by omega)
    obtain ⟨_, h1, h2, h3, h4⟩ := h i hi
    obtain ⟨_, _, _, _, h'⟩ := hr1 (by omega)
    exact ⟨b, o, e, (h' i hi).1, h1, h2, h3, h4⟩
  obtain ⟨C, M, hM, hC64, r1, r2, r3, r4, r5⟩ := rem_room a0
  have HNew : Hid (Calls Try.prog 11 #[.int .i64 (M : Int)] W (NewO W M)) := Lib.hid (by subst hM; exact ow_new (1 + C) W (by omega))
  have hM64 : M ≤ 64 := by omega
  clear hr1 hc1 hm1 hM hC64
  go_enter Try.func6, Try.ntmps6
  go_wp2_with fail
  refine HNew.out.mono ?_
  clear HNew
  rintro e w2 ⟨g, F, rfl, HO⟩
  have HS0 : Hid (SvR W g M w2) := Lib.hid ⟨F, _, HO.out, rfl⟩
  have HLg2 := Lib.hid (HLg.out w2 HO.out.bel)
  clear HO HLg
  go_wp2_with fail
  refine HLg2.out.mono ?_
  clear HLg2
  rintro e w1 ⟨bl, rfl, rfl, hsmall1⟩
  cases bl with
  | true =>
    have HB0 := Lib.hid HS0.out.bel
    go_wp2_with fail
    refine (HKn.out _).mono ?_
    rintro e w3 ⟨rfl, hb2⟩
    have HB2 := Lib.hid (below_then HB0.out hb2)
    clear hb2
    go_wp2
    go_ret
    exact ⟨rfl, HB2.out⟩
  | false =>
  have HSm1 := Lib.hid (hsmall1 rfl)
  clear hsmall1
  go_wp2_with fail
  go_loopg [8] n1 (fun gk a wr => ∃ i : Nat, a = .int .i64 (i : Int) ∧ i + gk = n1 ∧ Hid (SvR W g M wr))
  case atStart => exact ⟨0, rfl, by omega, HS0⟩
  case round =>
    obtain ⟨i, rfl, hig, HS⟩ := hrel
    by_cases hlt : i < n1 ∧ i < 150
    · obtain ⟨hin, hi2⟩ := hlt
      have m1 : (i : Int) < (n1 : Int) := by omega
      have m2 : (i : Int) < 150 := by omega
      have m0 : ¬ (i : Int) < 0 := by omega
      have e5 : IntKind.i64.wrap ((i : Int) + 1) = ((i + 1 : Nat) : Int) := by rw [IntKind.wrap_i64]; omega
      have HR := Lib.hid HS.out.round
      clear HS HS0 r1 r2 r3 r4 r5
      go_wp2_with fail
      refine HR.out.mono ?_
      clear HR
      rintro e w1 ⟨A, c, m, l, rfl, hm, HB1, HBg0, HEn0⟩
      have Hm := Lib.hid hm
      clear hm
      obtain ⟨b, o, rfl, hOk, q0, q1, q2, q3⟩ := HA1.out w1 HB1.out i hin
      have hsm := HSm1.out i hin (by omega)
      obtain ⟨⟨kind, id, num, val, vA, vn, vc⟩, hx⟩ : ∃ x, x = f1 i := ⟨_, rfl⟩
      rw [← hx] at hOk q0 q1 q2 q3 hsm
      obtain ⟨hk64, hid64, hnum64, hcap, hval⟩ := hOk
      dsimp only at q0 q1 q2 q3 hsm hk64 hid64 hnum64 hcap hval
      clear hx
      obtain ⟨wx, hwx⟩ : ∃ wx, wx = w1.alloc (.cells #[.int .i64 kind, .int .u64 (id : Int), .int .u64 (num : Int), .slice vA vn vc] 35) := ⟨_, rfl⟩
      obtain ⟨bx, hbx⟩ : ∃ bx, bx = w1.heap.size := ⟨_, rfl⟩
      have hkx : Bk wx bx 35 #[.int .i64 kind, .int .u64 (id : Int), .int .u64 (num : Int), .slice vA vn vc] := by rw [hwx, hbx]; exact Bk.new w1 _ _
      have HBg := Lib.hid (HBg0.out id num 35 #[.int .i64 kind, .int .u64 (id : Int), .int .u64 (num : Int), .slice vA vn vc] hid64 hnum64)
      have HEn := Lib.hid (HEn0.out id num vA vn vc val 35 #[.int .i64 kind, .int .u64 (id : Int), .int .u64 (num : Int), .slice vA vn vc] hid64 hval ⟨hcap.1, by unfold maxLen; omega⟩ (by omega))
      clear HBg0 HEn0 HB1
      rw [← hwx] at HBg HEn
      try rw [← hbx] at HBg
      try rw [← hbx] at HEn
      have x0 : wx.cell? ⟨bx, 0, none⟩ = some (.int .i64 kind) := hkx.cell 0
      have x1 : wx.cell? ⟨bx, 1, none⟩ = some (.int .u64 (id : Int)) := hkx.cell 1
      have x2 : wx.cell? ⟨bx, 2, none⟩ = some (.int .u64 (num : Int)) := hkx.cell 2
      have x3 : wx.cell? ⟨bx, 3, none⟩ = some (.slice vA vn vc) := hkx.cell 3
      have HWx := Lib.hid hwx
      have HBx := Lib.hid hbx
      clear hwx hbx hkx hval hcap hk64
      go_upto_region 10 with (fail)
      rw [← HWx.out]
      try rw [← HBx.out]
      clear q0 q1 q2 q3
      by_cases hkind : 2 < kind
      · clear HBg
        go_wp2_with fail
        refine HEn.out.mono ?_
        clear HEn
        rintro e w5 ⟨v5, rfl, HS5⟩
        clear x0 x1 x2 x3
        go_wp2
        go_roundg (gk - 1)
        case measure => omega
        case rel => exact ⟨i + 1, by go_num, by omega, HS5⟩
      · clear HEn
        go_wp2_with fail
        refine HBg.out.mono ?_
        clear HBg
        rintro e w5 ⟨v1, v2, er, rfl, H3⟩
        clear x0 x1 x2 x3
        go_wp2_with fail
        refine H3.out.mono ?_
        clear H3
        rintro e w6 ⟨A', c', m', l', kg, rfl, hm', HRS⟩
        have Hm' := Lib.hid hm'
        clear hm'
        go_upto_region 14 with (fail)
        go_cut [124] from 51 to 164 (fun cv wx => cv = .bool false ∧ Hid (RoomS W g M bx 35 #[.int .i64 kind, .int .u64 (id : Int), .int .u64 (num : Int), .slice vA vn vc] id er A A' l l' kg wx))
        case first =>
          have mM : m' ≤ M := by rw [Hm'.out]; exact HRS.out.f.len
          have k1 : ¬ (M : Int) < (m' : Int) := by omega
          have k2 : decide ((M : Int) < (m' : Int)) = false := by simp; omega
          have k3 : decide (M < m') = false := by simp; omega
          by_cases her : er = 0
          · obtain ⟨l0, cc, hl', hidc⟩ := HRS.out.f.last her
            subst her
            obtain ⟨J, hJ⟩ : ∃ J, J = l0.length := ⟨_, rfl⟩
            have hJl : J < l'.length := by rw [hl', List.length_append, List.length_singleton, hJ]; omega
            have hmJ : m' = J + 1 := by rw [Hm'.out, hl', List.length_append, List.length_singleton, hJ]
            obtain ⟨R, s, rfl, y0, -⟩ := HRS.out.now J hJl
            have hat : l'[J].id = id := by
              have : l'[J]? = some cc := by rw [hl', hJ]; simp
              rw [List.getElem?_eq_getElem hJl] at this
              injection this with this
              rw [this, hidc]
            rw [hat] at y0
            have z1 : w6.cell? ⟨bx, 1, none⟩ = some (.int .u64 (id : Int)) := HRS.out.box.cell 1
            have j1 : IntKind.i64.wrap ((m' : Int) - 1) = (J : Int) := by rw [IntKind.wrap_i64]; omega
            have j2 : ¬ (J : Int) < 0 := by omega
            have j3 : (J : Int) < (m' : Int) := by omega
            have j4 : ((m' : Int) == 0) = false := by simp; omega
            have j5 : ¬ (m' : Int) = 0 := by omega
            clear hl' hidc hJ hJl hmJ hat mM
            go_quiet (fail)
            go_wp2_with fail
            go_meet
            exact ⟨rfl, Lib.hid (HRS.out.below (bel_drewN (Below.refl _ _) _))⟩
          · have hll := HRS.out.f.same her
            have n1 : (er != 0) = true := by simpa using her
            have n2 : (er == 0) = false := by simpa using her
            have hmm : m' = m := by rw [Hm'.out, hll, Hm.out]
            have QS : Hid (∀ q, Calls Try.prog 25 #[.slice A m c, .slice A' m' c'] (w6.drewN q) fun e w' => e = .returned (.bool true) ∧ ∃ p, w' = (w6.drewN q).drewN p) := Lib.hid fun q => by
              have hb := bel_drewN (Below.refl w6.heap.size w6) q
              have h2 := HRS.out.now
              rw [hll] at h2
              rw [hmm]
              exact sameC_any (HRS.out.was.up hb) (h2.up hb) Hm.out (by rw [← hmm]; omega)
            clear hll hmm mM
            go_quiet ((first
              | (go_at_call 25; exact Calls.quiet_of (QS.out _))))
            go_wp2_with fail
            go_meet
            exact ⟨rfl, Lib.hid (HRS.out.below (bel_drewN (Below.refl _ _) _))⟩
        case rest =>
        clear HRS
        obtain ⟨rfl, HRS⟩ := hcut
        obtain ⟨gko, hgko⟩ : ∃ z, z = gk := ⟨_, rfl⟩
        go_wp2_with fail
        go_loopg [15, 16] m (fun gj gv kv wr2 => ∃ k G : Nat, gv = .int .i64 (G : Int) ∧ kv = .int .i64 (k : Int) ∧ k + gj = m ∧ wr2 = wc ∧ Hid (G ≤ 1 ∧ (G = 1 → ∃ k0, kg = some k0 ∧ k0 < k)))
        case atStart => exact ⟨0, 0, rfl, rfl, by omega, rfl, Lib.hid ⟨by omega, fun h => by omega⟩⟩
        case round =>
          obtain ⟨k, G, rfl, rfl, hkj, rfl, HG⟩ := hrel
          by_cases hkm : k < m
          · have m3 : (k : Int) < (m : Int) := by omega
            have m4 : ¬ (k : Int) < 0 := by omega
            have e6 : IntKind.i64.wrap ((k : Int) + 1) = ((k + 1 : Nat) : Int) := by rw [IntKind.wrap_i64]; have := HRS.out.len; have := Hm.out; omega
            have hkl : k < l.length := by rw [← Hm.out]; exact hkm
            obtain ⟨R, rfl, hall⟩ := HRS.out.was.all hkl
            obtain ⟨q0, q2⟩ := hall k hkl
            have HAll := Lib.hid hall
            have HPl := Lib.hid (place_any (c := c') HRS.out.now Hm'.out (by have := HRS.out.f.len; have := Hm'.out; omega) l[k].id)
            obtain ⟨LI, hLI⟩ : ∃ x, x = l[k].id := ⟨_, rfl⟩
            rw [← hLI] at q0 HPl
            cases hf : findC LI l' with
            | some p =>
              rw [hf] at HPl
              have HPl2 : Hid (Calls Try.prog 29 #[.slice A' m' c', .int .u64 (LI : Int)] wr fun e w' => e = .returned (.int .i64 (p : Int)) ∧ w' = wr) := HPl
              have p0 : (0 : Int) ≤ (p : Int) := by omega
              have HLI := Lib.hid hLI
              clear HPl hall q2 hf hLI
              go_wp2_with fail
              refine HPl2.out.mono ?_
              clear HPl2
              rintro e w' ⟨rfl, rfl⟩
              go_wp2
              go_roundg (gk - 1)
              case measure => omega
              case rel => exact ⟨k + 1, G, rfl, by go_num, by omega, rfl, Lib.hid ⟨HG.out.1, fun h => by obtain ⟨k0, e, h0⟩ := HG.out.2 h; exact ⟨k0, e, by omega⟩⟩⟩
            | none =>
              rw [hf] at HPl
              have HPl2 : Hid (Calls Try.prog 29 #[.slice A' m' c', .int .u64 (LI : Int)] wr fun e w' => e = .returned (.int .i64 (-1)) ∧ w' = wr) := HPl
              have hk0 : kg = some k := by
                by_cases hne : some k = kg
                · exact hne.symm
                · have := HRS.out.f.here k hkl hne
                  rw [← hLI, hf] at this
                  cases this
              obtain rfl : G = 0 := by
                have h1 := HG.out.1
                by_cases h : G = 1
                · obtain ⟨k0, e, h0⟩ := HG.out.2 h
                  rw [hk0] at e
                  injection e with e
                  omega
                · omega
              obtain ⟨_, _, hbz, hlM, hj⟩ := HRS.out.f.gone k hk0
              rw [hbz] at q2
              have HK0 := Lib.hid hk0
              have HJ : Hid (∀ j, j < k → wr.cell? ⟨R, j * 4 + 2, none⟩ = some (.bool true)) := Lib.hid fun j hjk => by
                have h1 := (HAll.out j (by omega)).2
                rw [hj j hjk] at h1
                exact h1
              have m5 : ¬ (m : Int) < (M : Int) := by rw [Hm.out, hlM]; omega
              have m5b : ¬ m < M := by omega
              have m5c : decide ((m : Int) < (M : Int)) = false := by simpa using m5b
              have m5d : decide (m < M) = false := by simpa using m5b
              have hkM : k ≤ 64 := by omega
              clear HPl hall hf hbz hlM hj hk0 hLI HG
              go_wp2_with fail
              refine HPl2.out.mono ?_
              clear HPl2
              rintro e w' ⟨rfl, rfl⟩
              obtain ⟨gk2, hgk2⟩ : ∃ z, z = gk := ⟨_, rfl⟩
              go_wp2_with fail
              go_loopg [17] k (fun gl jv wr3 => ∃ j : Nat, jv = .int .i64 (j : Int) ∧ j + gl = k ∧ wr3 = w')
              case atStart => exact ⟨0, rfl, by omega, rfl⟩
              case round =>
                obtain ⟨j, rfl, hjl, rfl⟩ := hrel
                by_cases hjk : j < k
                · have m6 : (j : Int) < (k : Int) := by omega
                  have m7 : ¬ (j : Int) < 0 := by omega
                  have m8 : (j : Int) < (m : Int) := by omega
                  have e7 : IntKind.i64.wrap ((j : Int) + 1) = ((j + 1 : Nat) : Int) := by rw [IntKind.wrap_i64]; omega
                  have qj := HJ.out j hjk
                  go_wp2
                  go_roundg (gk - 1)
                  case measure => omega
                  case rel => exact ⟨j + 1, by go_num, by omega, rfl⟩
                · obtain rfl : j = k := by omega
                  have m6 : ¬ (j : Int) < (j : Int) := by omega
                  go_wp2
                  go_roundg (gk2 - 1)
                  case measure => omega
                  case rel => exact ⟨j + 1, 1, rfl, by go_num, by omega, rfl, Lib.hid ⟨by omega, fun _ => ⟨j, HK0.out, by omega⟩⟩⟩
          · have m3 : ¬ (k : Int) < (m : Int) := by omega
            have hG1 := HG.out.1
            have m4 : ¬ 1 < (G : Int) := by omega
            have HS9 := Lib.hid HRS.out.sv
            clear HRS HG
            go_wp2
            go_roundg (gko - 1)
            case measure => omega
            case rel => exact ⟨i + 1, by go_num, by omega, HS9⟩
    · have hlt' : ¬ i < n1 ∨ (i < n1 ∧ ¬ i < 150) := by omega
      clear hlt
      have HB0 := Lib.hid HS.out.bel
      clear HS
      rcases hlt' with h | ⟨h, h'⟩
      · have m1 : ¬ (i : Int) < (n1 : Int) := by omega
        go_wp2_with fail
        refine (HKn.out _).mono ?_
        rintro e wq ⟨rfl, hb4⟩
        have HB4 := Lib.hid (below_then HB0.out hb4)
        clear hb4
        go_wp2
        go_ret
        exact ⟨rfl, HB4.out⟩
      · have m1 : (i : Int) < (n1 : Int) := by omega
        have m2 : ¬ (i : Int) < 150 := by omega
        go_wp2_with fail
        refine (HKn.out _).mono ?_
        rintro e wq ⟨rfl, hb4⟩
        have HB4 := Lib.hid (below_then HB0.out hb4)
        clear hb4
        go_wp2
        go_ret
        exact ⟨rfl, HB4.out⟩
namespace onceRoom
set_option maxRecDepth 100000 in
theorem lifted (os : Os) (started : os.Started) (H : Type) (enc : TypeId × Value → H) :
    ReturnsInHanded {} Try.checked os 6 .any (Rows.onceRoomSpec.pre6 enc Try.prog Try.f6 Rows.onceRoomRow.domain false) (Rows.onceRoomSpec.post enc Try.prog Try.f6 false true false false) := by
  refine law_lift started (by kernel_rfl) Try.func6
    (ChangeSpec.witness6 (enc := enc) (C := Try.checked) false ⟨#[], #[.int .i64 0, .slice none 0 0], []⟩ 8 (by kernel_rfl) (by kernel_rfl) (by kernel_rfl) (by kernel_rfl))
    rfl ?_ (by kernel_rfl) (by kernel_rfl) ?_
  · intro ds h
    match ds, h with
    | [_, _], _ => rfl
  intro W base args ds p g
  have hA := g.trod
  have hval := g.val
  rw [Try.params6] at hA hval
  obtain ⟨v0, vs0, d0, ds0, p0, q0, hargs, rfl, rfl, h0, r0⟩ := trodAll_cons hA
  obtain ⟨v1, vs1, d1, ds1, p1, q1, rfl, rfl, rfl, h1, r1⟩ := trodAll_cons r0
  obtain ⟨rfl, rfl, rfl⟩ := trodAll_nil r1
  obtain rfl : args = #[v0, v1] := by cases args; simp_all
  obtain ⟨a0, rfl, _, _, w0⟩ := open_int Try.underlying3 (hval 0 3 v0 rfl rfl) h0
  have b0 := bounds_i64 w0
  obtain ⟨A1, n1, c1, f1, rfl, hc1, hm1, hr1⟩ := given_as13 (hval 1 22 v1 rfl rfl) h1
  exact onceRoom_walk a0 A1 n1 c1 f1 W b0.1 b0.2 hc1 hm1 hr1

theorem over : Rows.onceRoomRow.holds Try.pinned (OpenSpec.ofChange Rows.onceRoomSpec) :=
  OpenClaim.holds_of_wide 6 Try.f6 rfl rfl rfl rfl rfl rfl rfl ⟨rfl, rfl, rfl, rfl, rfl⟩ rfl rfl rfl rfl rfl (by kernel_rfl) Try.func6 (by kernel_rfl)
    (of_decide_eq_true (by kernel_rfl)) (by unfold Func.isWrapper; first | (rw [if_pos (by decide +kernel)]; kernel_rfl) | (rw [if_neg (by decide +kernel)]; exact ⟨rfl, rfl⟩))
    (fun os started H enc _ => lifted os started H enc)
end onceRoom

theorem OnceRoom_proved : Rows.OnceRoomSaid := onceRoom.over
#print axioms OnceRoom_proved
end Go.Proofs.Ytonkohbmknopmaa
