/- ProposeNeeds. -/
import Derived.Test.YthkkkldkpdkabaaProN
import Derived.Test.YthkkkldkpdkabaaQuRI
import Derived.Test.YthkkkldkpdkabaaRows
namespace Go.Proofs.Ythkkkldkpdkabaa
open Go.ChangeShapes Go.WideShapes Go.ChangeAt Go.RowKit Go.Maps

theorem shl_num (nd : Nat) (hn : nd ≤ 12) : IntKind.u32.wrap ((2 : Int) ^ min nd 32) = ((2 ^ nd : Nat) : Int) := by rw [IntKind.wrap_u32]; exact bit_num nd hn
set_option maxRecDepth 100000 in
set_option maxHeartbeats 8000000 in
theorem proposeNeeds_walk (q : Qm) (qA : Option Addr) (qn qc : Nat) (A : Option Addr) (n c : Nat) (l : List Int) (B : Option Addr) (m d : Nat) (r : List Int) (W : World) (hq : Qi W q qA qn qc) (hc : n ≤ c) (hcm : c ≤ 9223372036854775807) (hl : RdI W W.heap.size A n l) (hd : m ≤ d) (hdm : d ≤ 9223372036854775807) (hr : RdI W W.heap.size B m r) :
    Calls Try.prog 7 #[qV q (.slice qA qn qc), .slice A n c, .slice B m d] W fun e W' => e = .returned (.bool true) ∧ Below W.heap.size W W' := by
  obtain ⟨w1, HW1, HB1, HK1⟩ := boxed q.kind q.nodes q.one q.two qA qn qc W
  have HCells : Hid (∀ w, Below w1.heap.size w1 w → _) := Lib.hid fun w hb => QB.cells q.kind q.nodes q.one q.two qA qn qc (HK1.out.below hb HK1.out.lt)
  have HQ := Lib.hid (fun w (hb : Below w1.heap.size w1 w) => hq.up (below_then HB1.out hb))
  have HK := Lib.hid (fun w => known10_any w)
  have HRT := Lib.hid (refRight_any8 q qA qn qc w1 (HQ.out w1 (Below.refl _ _)))
  obtain ⟨k0, k1, k2, k3, k4⟩ := HK1.out.cells
  rw [HW1.out] at k0 k1 k2 k3 k4
  have HE : Hid (qV q (.slice qA qn qc) = .agg #[.int .i64 q.kind, .int .i64 q.nodes, .int .i64 q.one, .int .i64 q.two, .slice qA qn qc]) := Lib.hid rfl
  rw [HE.out] at HRT ⊢
  by_cases h40 : 40 < qn
  · have n1 : (qn : Int) > 40 := by omega
    clear hq hl hr hc hcm hd hdm
    go_enter Try.func7, Try.ntmps7
    go_wp2_with fail
    rw [← HW1.out]
    refine (HK.out w1).mono ?_
    rintro e w2 ⟨rfl, hb2⟩
    have HB2 := Lib.hid (below_then HB1.out hb2)
    clear hb2
    go_wp2
    go_ret
    exact ⟨rfl, HB2.out⟩
  have n1 : ¬ (qn : Int) > 40 := by omega
  by_cases hrt' : q.right ≠ 0
  · generalize q.right = rt at *
    clear hq hl hr hc hcm hd hdm h40
    go_enter Try.func7, Try.ntmps7
    go_wp2_with fail
    rw [← HW1.out]
    refine HRT.out.mono ?_
    rintro e w2 ⟨rfl, hb2⟩
    have HB2 := Lib.hid (below_then HB1.out hb2)
    clear hb2 k0 k1 k2 k3 k4
    go_wp2_with fail
    refine (HK.out w2).mono ?_
    rintro e w3 ⟨rfl, hb3⟩
    have HB3 := Lib.hid (below_then HB2.out hb3)
    clear hb3
    go_wp2
    go_ret
    exact ⟨rfl, HB3.out⟩
  have hrt : q.right = 0 := by omega
  clear hrt'
  have hnd := q.right_cases hrt
  have hn12 := q.n_le hrt
  have HN := Lib.hid (fun w (hb : Below w1.heap.size w1 w) => OwP.new q qA qn qc ⟨1, 0⟩ 7 w1 w hb (HQ.out w hb) hrt (by decide) (by decide) (by decide) (by decide) (by omega))
  rw [HE.out] at HN
  have hbl : blV ⟨1, 0⟩ = .agg #[.int .u64 1, .int .i64 0] := rfl
  rw [hbl] at HN
  rw [hrt] at HRT
  have HIs : Hid (∀ w (b : Bool) (s : Nat), Below w1.heap.size w1 w → Calls Try.prog 28 #[.agg #[.int .i64 q.kind, .int .i64 q.nodes, .int .i64 q.one, .int .i64 q.two, .slice qA qn qc], .bool b, .int .u32 (s : Int)] w fun e w' => e = .returned (.bool (q.isQ b s)) ∧ Below w.heap.size w w') := Lib.hid fun w b s hb => refIs_any q b s qA qn qc w (HQ.out w hb)
  have HL : Hid (∀ w, Below w1.heap.size w1 w → ∀ k, k < n → ∃ b o x, A = some ⟨b, o, none⟩ ∧ w.cell? ⟨b, o + k, none⟩ = some (.int .i64 x) ∧ -9223372036854775808 ≤ x ∧ x ≤ 9223372036854775807 ∧ (∀ w', Below w1.heap.size w1 w' → w'.cell? ⟨b, o + k, none⟩ = some (.int .i64 x))) := Lib.hid fun w hb k hk => by
    obtain ⟨b, o, e, _, hcl⟩ := hl.2.2 (by omega)
    have hkl : k < l.length := by rw [hl.1]; exact hk
    have hx := hl.2.1 _ (List.getElem_mem hkl)
    have hall : ∀ w', Below w1.heap.size w1 w' → w'.cell? ⟨b, o + k, none⟩ = some (.int .i64 l[k]) := fun w' hb' => by
      obtain ⟨b2, o2, e2, _, hcl2⟩ := (hl.below (below_then HB1.out hb')).2.2 (by omega)
      rw [e] at e2
      injection e2 with e2
      injection e2 with e3 e4
      subst e3 e4
      exact hcl2 k hkl
    exact ⟨b, o, l[k], e, hall w hb, hx.1, hx.2, hall⟩
  have HR : Hid (∀ w, Below w1.heap.size w1 w → ∀ k, k < m → ∃ b o x, B = some ⟨b, o, none⟩ ∧ w.cell? ⟨b, o + k, none⟩ = some (.int .i64 x) ∧ -9223372036854775808 ≤ x ∧ x ≤ 9223372036854775807 ∧ (∀ w', Below w1.heap.size w1 w' → w'.cell? ⟨b, o + k, none⟩ = some (.int .i64 x))) := Lib.hid fun w hb k hk => by
    obtain ⟨b, o, e, _, hcl⟩ := hr.2.2 (by omega)
    have hkl : k < r.length := by rw [hr.1]; exact hk
    have hx := hr.2.1 _ (List.getElem_mem hkl)
    have hall : ∀ w', Below w1.heap.size w1 w' → w'.cell? ⟨b, o + k, none⟩ = some (.int .i64 r[k]) := fun w' hb' => by
      obtain ⟨b2, o2, e2, _, hcl2⟩ := (hr.below (below_then HB1.out hb')).2.2 (by omega)
      rw [e] at e2
      injection e2 with e2
      injection e2 with e3 e4
      subst e3 e4
      exact hcl2 k hkl
    exact ⟨b, o, r[k], e, hall w hb, hx.1, hx.2, hall⟩
  have HNd := Lib.hid hnd
  have HN12 := Lib.hid hn12
  have hqn : q.nodes ≤ 12 := hnd.2.1
  have hq1 : 1 ≤ q.nodes := hnd.1
  clear hq hl hr hbl h40 hnd hn12
  have HRt := Lib.hid hrt
  clear hrt
  go_enter Try.func7, Try.ntmps7
  go_wp2_with fail
  rw [← HW1.out]
  refine HRT.out.mono ?_
  rintro e w2 ⟨rfl, hb2⟩
  have HB2 := Lib.hid hb2
  clear k0 k1 k2 k3 k4
  obtain ⟨k0, k1, k2, k3, k4⟩ := HCells.out w2 hb2
  clear hb2
  go_wp2_with fail
  refine (HN.out w2 HB2.out).mono ?_
  rintro e w3 ⟨g, F0, rfl, ho⟩
  have HI : Hid (N1 w1 w3 g q 0 F0 (Pp.new q ⟨1, 0⟩ 7)) := Lib.hid ⟨ho, Pp.Pre.new (by decide), rfl, rfl, rfl, rfl, rfl⟩
  clear ho HN k0 k1 k2 k3 k4
  generalize Pp.new q ⟨1, 0⟩ 7 = p0 at *
  obtain ⟨M, hM⟩ : ∃ M, M = min n 30 := ⟨_, rfl⟩
  go_wp2_with fail
  go_loopg [9, 10] M (fun gk s i wr => ∃ (k set : Nat) (F : Nat → Prop) (p : Pp), s = .int .u32 (set : Int) ∧ i = .int .i64 (k : Int) ∧ k + gk = M ∧ set < 4096 ∧ Hid (N1 w1 wr g q set F p))
  case atStart => exact ⟨0, 0, F0, p0, rfl, rfl, by omega, by omega, HI⟩
  case round =>
    obtain ⟨k, set, F, p, rfl, rfl, hkg, hset, HI⟩ := hrel
    by_cases hk : k < M
    · have hkn : k < n := by omega
      have hk30 : k < 30 := by omega
      obtain ⟨b, o, x, rfl, x0, hx1, hx2, hxa⟩ := HL.out wr HI.out.own.bel k hkn
      have HX := Lib.hid hxa
      clear hxa
      by_cases hin : 0 ≤ x ∧ x < q.nodes
      · obtain ⟨hi1, hi2⟩ := hin
        obtain ⟨nd, rfl⟩ := Int.eq_ofNat_of_zero_le hi1
        have hnd12 : nd ≤ 12 := by omega
        have HY := Lib.hid (HI.out.yes nd hi2)
        have hlt2 : set ||| 2 ^ nd < 4096 := or_lt (n := 12) hset (by omega)
        have hor := or_num set nd (by omega) hnd12
        have hor2 : bits .or .u32 (set : Int) ((2 : Int) ^ nd % 4294967296) = ((set ||| 2 ^ nd : Nat) : Int) := by rw [← hor, show min nd 32 = nd by omega]
        clear hor
        generalize (set ||| 2 ^ nd : Nat) = set2 at *
        have hnw : IntKind.u64.wrap (nd : Int) = (nd : Int) := by rw [IntKind.wrap_u64]; omega
        go_wp2_with fail
        refine HY.out.mono ?_
        rintro e w5 ⟨F5, p5, rfl, hI5⟩
        have HI5 := Lib.hid hI5
        clear hI5 HY HI x0
        have x5 := HX.out w5 HI5.out.own.bel
        obtain ⟨k0, k1, k2, k3, k4⟩ := HCells.out w5 HI5.out.own.bel
        go_upto_region 11 with (fail)
        go_quiet (fail)
        clear k0 k1 k2 k3 k4 x5
        have HI6 := Lib.hid (HI5.out.below (bel_drewN (Below.refl _ _) nq))
        clear HI5
        generalize w5.drewN nq = w6 at *
        have x6 := HX.out _ HI6.out.own.bel
        have HS6 := Lib.hid HI6.out.six
        go_upto_region 16 with (fail)
        clear x6
        cases hrd : q.isQ false set2 with
        | false =>
          rw [hrd] at HS6
          go_wp2_with fail
          ((with_reducible refine HS6.out.mono ?_))
          rintro e w7 ⟨F7, p7, A7, c7, rfl, hI7⟩
          have HI8 := Lib.hid (hI7.below (bel1P (.cells #[.int .u64 0, .int .u64 0, .int .i64 0, .slice A7 0 c7] 48)))
          clear hI7 HS6 HI6
          obtain ⟨k0, k1, k2, k3, k4⟩ := HCells.out _ HI8.out.own.bel
          have HIs8 := Lib.hid (HIs.out _ false set2 HI8.out.own.bel)
          rw [hrd] at HIs8
          go_upto_region 17 with (fail)
          generalize w7.alloc (.cells #[.int .u64 0, .int .u64 0, .int .i64 0, .slice A7 0 c7] 48) = w8 at *
          go_wp2_with fail
          ((with_reducible refine HIs8.out.mono ?_))
          rintro e w9 ⟨rfl, hb9⟩
          have HI9 := Lib.hid (HI8.out.below hb9)
          have HR9 := Lib.hid HI9.out.ready
          rw [hrd] at HR9
          clear hb9 HI8 HIs8 k0 k1 k2 k3 k4 hrd
          go_wp2_with fail
          ((with_reducible refine HR9.out.mono ?_))
          rintro e w10 ⟨rfl, hb10⟩
          have HI10 := Lib.hid (HI9.out.below hb10)
          clear hb10 HI9 HR9
          go_wp2
          go_roundg (gk - 1)
          case measure => omega
          case rel => exact ⟨k + 1, set2, F7, p7, rfl, by go_num, by omega, hlt2, HI10⟩
        | true =>
          rw [hrd] at HS6
          go_wp2_with fail
          ((with_reducible refine HS6.out.mono ?_))
          rintro e w7 ⟨F7, p7, A7, c7, rfl, hI7⟩
          have HI8 := Lib.hid (hI7.below (bel1P (.cells #[.int .u64 0, .int .u64 0, .int .i64 0, .slice A7 0 c7] 48)))
          clear hI7 HS6 HI6
          obtain ⟨k0, k1, k2, k3, k4⟩ := HCells.out _ HI8.out.own.bel
          have HIs8 := Lib.hid (HIs.out _ false set2 HI8.out.own.bel)
          rw [hrd] at HIs8
          go_upto_region 17 with (fail)
          generalize w7.alloc (.cells #[.int .u64 0, .int .u64 0, .int .i64 0, .slice A7 0 c7] 48) = w8 at *
          go_wp2_with fail
          ((with_reducible refine HIs8.out.mono ?_))
          rintro e w9 ⟨rfl, hb9⟩
          have HI9 := Lib.hid (HI8.out.below hb9)
          have HR9 := Lib.hid HI9.out.ready
          rw [hrd] at HR9
          clear hb9 HI8 HIs8 k0 k1 k2 k3 k4 hrd
          go_wp2_with fail
          ((with_reducible refine HR9.out.mono ?_))
          rintro e w10 ⟨rfl, hb10⟩
          have HI10 := Lib.hid (HI9.out.below hb10)
          clear hb10 HI9 HR9
          go_wp2
          go_roundg (gk - 1)
          case measure => omega
          case rel => exact ⟨k + 1, set2, F7, p7, rfl, by go_num, by omega, hlt2, HI10⟩
      · have HY := Lib.hid (HI.out.no x hin)
        by_cases hx0 : 0 ≤ x
        · have hxn : ¬ x < q.nodes := fun e => hin ⟨hx0, e⟩
          clear hin
          go_wp2_with fail
          refine HY.out.mono ?_
          rintro e w5 ⟨F5, p5, rfl, hI5⟩
          have HI5 := Lib.hid hI5
          clear hI5 HY HI x0
          have x5 := HX.out w5 HI5.out.own.bel
          obtain ⟨k0, k1, k2, k3, k4⟩ := HCells.out w5 HI5.out.own.bel
          go_upto_region 11 with (fail)
          go_quiet (fail)
          clear k0 k1 k2 k3 k4 x5
          have HI6 := Lib.hid (HI5.out.below (bel_drewN (Below.refl _ _) nq))
          clear HI5
          generalize w5.drewN nq = w6 at *
          have x6 := HX.out _ HI6.out.own.bel
          have HS6 := Lib.hid HI6.out.six
          go_upto_region 16 with (fail)
          clear x6
          cases hrd : q.isQ false set with
          | false =>
            rw [hrd] at HS6
            go_wp2_with fail
            ((with_reducible refine HS6.out.mono ?_))
            rintro e w7 ⟨F7, p7, A7, c7, rfl, hI7⟩
            have HI8 := Lib.hid (hI7.below (bel1P (.cells #[.int .u64 0, .int .u64 0, .int .i64 0, .slice A7 0 c7] 48)))
            clear hI7 HS6 HI6
            obtain ⟨k0, k1, k2, k3, k4⟩ := HCells.out _ HI8.out.own.bel
            have HIs8 := Lib.hid (HIs.out _ false set HI8.out.own.bel)
            rw [hrd] at HIs8
            go_upto_region 17 with (fail)
            generalize w7.alloc (.cells #[.int .u64 0, .int .u64 0, .int .i64 0, .slice A7 0 c7] 48) = w8 at *
            go_wp2_with fail
            ((with_reducible refine HIs8.out.mono ?_))
            rintro e w9 ⟨rfl, hb9⟩
            have HI9 := Lib.hid (HI8.out.below hb9)
            have HR9 := Lib.hid HI9.out.ready
            rw [hrd] at HR9
            clear hb9 HI8 HIs8 k0 k1 k2 k3 k4 hrd
            go_wp2_with fail
            ((with_reducible refine HR9.out.mono ?_))
            rintro e w10 ⟨rfl, hb10⟩
            have HI10 := Lib.hid (HI9.out.below hb10)
            clear hb10 HI9 HR9
            go_wp2
            go_roundg (gk - 1)
            case measure => omega
            case rel => exact ⟨k + 1, set, F7, p7, rfl, by go_num, by omega, hset, HI10⟩
          | true =>
            rw [hrd] at HS6
            go_wp2_with fail
            ((with_reducible refine HS6.out.mono ?_))
            rintro e w7 ⟨F7, p7, A7, c7, rfl, hI7⟩
            have HI8 := Lib.hid (hI7.below (bel1P (.cells #[.int .u64 0, .int .u64 0, .int .i64 0, .slice A7 0 c7] 48)))
            clear hI7 HS6 HI6
            obtain ⟨k0, k1, k2, k3, k4⟩ := HCells.out _ HI8.out.own.bel
            have HIs8 := Lib.hid (HIs.out _ false set HI8.out.own.bel)
            rw [hrd] at HIs8
            go_upto_region 17 with (fail)
            generalize w7.alloc (.cells #[.int .u64 0, .int .u64 0, .int .i64 0, .slice A7 0 c7] 48) = w8 at *
            go_wp2_with fail
            ((with_reducible refine HIs8.out.mono ?_))
            rintro e w9 ⟨rfl, hb9⟩
            have HI9 := Lib.hid (HI8.out.below hb9)
            have HR9 := Lib.hid HI9.out.ready
            rw [hrd] at HR9
            clear hb9 HI8 HIs8 k0 k1 k2 k3 k4 hrd
            go_wp2_with fail
            ((with_reducible refine HR9.out.mono ?_))
            rintro e w10 ⟨rfl, hb10⟩
            have HI10 := Lib.hid (HI9.out.below hb10)
            clear hb10 HI9 HR9
            go_wp2
            go_roundg (gk - 1)
            case measure => omega
            case rel => exact ⟨k + 1, set, F7, p7, rfl, by go_num, by omega, hset, HI10⟩
        · have hx0d : decide (0 ≤ x) = false := decide_eq_false hx0
          have hx0l : x < 0 := by omega
          clear hin
          go_wp2_with fail
          refine HY.out.mono ?_
          rintro e w5 ⟨F5, p5, rfl, hI5⟩
          have HI5 := Lib.hid hI5
          clear hI5 HY HI x0
          have x5 := HX.out w5 HI5.out.own.bel
          obtain ⟨k0, k1, k2, k3, k4⟩ := HCells.out w5 HI5.out.own.bel
          go_upto_region 11 with (fail)
          go_quiet (fail)
          clear k0 k1 k2 k3 k4 x5
          have HI6 := Lib.hid (HI5.out.below (bel_drewN (Below.refl _ _) nq))
          clear HI5
          generalize w5.drewN nq = w6 at *
          have x6 := HX.out _ HI6.out.own.bel
          have HS6 := Lib.hid HI6.out.six
          go_upto_region 16 with (fail)
          clear x6
          cases hrd : q.isQ false set with
          | false =>
            rw [hrd] at HS6
            go_wp2_with fail
            ((with_reducible refine HS6.out.mono ?_))
            rintro e w7 ⟨F7, p7, A7, c7, rfl, hI7⟩
            have HI8 := Lib.hid (hI7.below (bel1P (.cells #[.int .u64 0, .int .u64 0, .int .i64 0, .slice A7 0 c7] 48)))
            clear hI7 HS6 HI6
            obtain ⟨k0, k1, k2, k3, k4⟩ := HCells.out _ HI8.out.own.bel
            have HIs8 := Lib.hid (HIs.out _ false set HI8.out.own.bel)
            rw [hrd] at HIs8
            go_upto_region 17 with (fail)
            generalize w7.alloc (.cells #[.int .u64 0, .int .u64 0, .int .i64 0, .slice A7 0 c7] 48) = w8 at *
            go_wp2_with fail
            ((with_reducible refine HIs8.out.mono ?_))
            rintro e w9 ⟨rfl, hb9⟩
            have HI9 := Lib.hid (HI8.out.below hb9)
            have HR9 := Lib.hid HI9.out.ready
            rw [hrd] at HR9
            clear hb9 HI8 HIs8 k0 k1 k2 k3 k4 hrd
            go_wp2_with fail
            ((with_reducible refine HR9.out.mono ?_))
            rintro e w10 ⟨rfl, hb10⟩
            have HI10 := Lib.hid (HI9.out.below hb10)
            clear hb10 HI9 HR9
            go_wp2
            go_roundg (gk - 1)
            case measure => omega
            case rel => exact ⟨k + 1, set, F7, p7, rfl, by go_num, by omega, hset, HI10⟩
          | true =>
            rw [hrd] at HS6
            go_wp2_with fail
            ((with_reducible refine HS6.out.mono ?_))
            rintro e w7 ⟨F7, p7, A7, c7, rfl, hI7⟩
            have HI8 := Lib.hid (hI7.below (bel1P (.cells #[.int .u64 0, .int .u64 0, .int .i64 0, .slice A7 0 c7] 48)))
            clear hI7 HS6 HI6
            obtain ⟨k0, k1, k2, k3, k4⟩ := HCells.out _ HI8.out.own.bel
            have HIs8 := Lib.hid (HIs.out _ false set HI8.out.own.bel)
            rw [hrd] at HIs8
            go_upto_region 17 with (fail)
            generalize w7.alloc (.cells #[.int .u64 0, .int .u64 0, .int .i64 0, .slice A7 0 c7] 48) = w8 at *
            go_wp2_with fail
            ((with_reducible refine HIs8.out.mono ?_))
            rintro e w9 ⟨rfl, hb9⟩
            have HI9 := Lib.hid (HI8.out.below hb9)
            have HR9 := Lib.hid HI9.out.ready
            rw [hrd] at HR9
            clear hb9 HI8 HIs8 k0 k1 k2 k3 k4 hrd
            go_wp2_with fail
            ((with_reducible refine HR9.out.mono ?_))
            rintro e w10 ⟨rfl, hb10⟩
            have HI10 := Lib.hid (HI9.out.below hb10)
            clear hb10 HI9 HR9
            go_wp2
            go_roundg (gk - 1)
            case measure => omega
            case rel => exact ⟨k + 1, set, F7, p7, rfl, by go_num, by omega, hset, HI10⟩
    · have hkM : k = M := by omega
      have kc := conv_bytesP
      by_cases hkn : k < n
      · have hk30 : ¬ k < 30 := by omega
        cases hrd : q.isQ false set with
        | false =>
          have HS := Lib.hid (HI.out.below (bel1P (.cells #[.int .u8 118] 5 (1, 2))))
          have HT7 := Lib.hid (HS.out.not hrd (cell_mark _ _ _ _))
          clear HS HI hrd
          go_wp2_with fail
          ((with_reducible refine HT7.out.mono ?_))
          rintro e w21 ⟨F21, p21, A21, c21, rfl, hI21⟩
          have HI21 := Lib.hid (hI21.below (bel1P (.cells #[.int .u64 0, .int .u64 0, .int .i64 0, .slice A21 0 c21] 48)))
          have HA21 := Lib.hid (HI21.out.none (by omega))
          clear hI21 HT7 HI21 kc
          go_wp2_with fail
          ((with_reducible refine HA21.out.mono ?_))
          rintro e w22 ⟨rfl, hb22⟩
          have HB22 := Lib.hid (below_then HB1.out hb22)
          clear hb22 HA21
          go_wp2_with fail
          refine (HK.out _).mono ?_
          rintro e w30 ⟨rfl, hb30⟩
          have HB30 := Lib.hid (below_then HB22.out hb30)
          clear hb30
          go_wp2
          go_ret
          exact ⟨rfl, HB30.out⟩
        | true =>
          have HS := Lib.hid (HI.out.below (bel1P (.cells #[.int .u8 118] 5 (1, 2))))
          have HT7 := Lib.hid (HS.out.put hrd (cell_mark _ _ _ _))
          clear HS HI hrd
          go_wp2_with fail
          ((with_reducible refine HT7.out.mono ?_))
          rintro e w21 ⟨F22, p22, y0, y1, y2, A21, c21, rfl, hI21⟩
          have HI22 := Lib.hid (hI21.below (bel1P (.cells #[.int .u64 y0, .int .u64 y1, .int .i64 y2, .slice A21 1 c21] 48)))
          clear hI21 HT7 kc
          skip
          obtain ⟨M2, hM2⟩ : ∃ M2, M2 = min m 30 := ⟨_, rfl⟩
          go_wp2_with fail
          go_loopg [9, 18] M2 (fun gk s i wr => ∃ (k set : Nat) (F : Nat → Prop) (p : Pp), s = .int .u32 (set : Int) ∧ i = .int .i64 (k : Int) ∧ k + gk = M2 ∧ set < 4096 ∧ Hid (N2 w1 wr g q set F p))
          case atStart => exact ⟨0, 0, F22, p22, rfl, rfl, by omega, by omega, HI22⟩
          case round =>
            obtain ⟨k, set, F, p, rfl, rfl, hkg, hset, HI⟩ := hrel
            by_cases hk : k < M2
            · have hkn : k < m := by omega
              have hk30 : k < 30 := by omega
              obtain ⟨b, o, x, rfl, x0, hx1, hx2, hxa⟩ := HR.out _ HI.out.own.bel k hkn
              have HX := Lib.hid hxa
              clear hxa
              by_cases hin : 0 ≤ x ∧ x < q.nodes
              · obtain ⟨hi1, hi2⟩ := hin
                obtain ⟨nd, rfl⟩ := Int.eq_ofNat_of_zero_le hi1
                have hnd12 : nd ≤ 12 := by omega
                have HY := Lib.hid (HI.out.yes nd hi2)
                have hlt2 : set ||| 2 ^ nd < 4096 := or_lt (n := 12) hset (by omega)
                have hor2 : bits .or .u32 (set : Int) ((2 : Int) ^ nd % 4294967296) = ((set ||| 2 ^ nd : Nat) : Int) := by
                  have hor := or_num set nd (by omega) hnd12
                  rw [← hor, show min nd 32 = nd by omega]
                generalize (set ||| 2 ^ nd : Nat) = set2 at *
                have hnw : IntKind.u64.wrap (nd : Int) = (nd : Int) := by rw [IntKind.wrap_u64]; omega
                go_wp2_with fail
                ((with_reducible refine HY.out.mono ?_))
                rintro e w16 ⟨F16, p16, rfl, hI16⟩
                have HI16 := Lib.hid hI16
                clear hI16 HY HI x0
                have x5 := HX.out w16 HI16.out.own.bel
                go_upto_region 30 with (fail)
                clear x5
                cases hrd : q.isQ true set2 with
                | false =>
                  have HC := Lib.hid (HI16.out.open_ hrd)
                  go_wp2_with fail
                  ((with_reducible refine HC.out.mono ?_))
                  rintro e w17 ⟨A17, c17, rfl, hb17⟩
                  have HI17 := Lib.hid (HI16.out.below hb17)
                  clear hb17 HC HI16
                  obtain ⟨k0, k1, k2, k3, k4⟩ := HCells.out _ HI17.out.own.bel
                  have HIs8 := Lib.hid (HIs.out _ true set2 HI17.out.own.bel)
                  rw [hrd] at HIs8
                  go_wp2_with fail
                  ((with_reducible refine HIs8.out.mono ?_))
                  rintro e w18 ⟨rfl, hb18⟩
                  have HI18 := Lib.hid (HI17.out.below hb18)
                  have HP18 := Lib.hid HI18.out.prefix
                  rw [hrd] at HP18
                  clear hb18 HI17 HIs8 k0 k1 k2 k3 k4 hrd
                  go_wp2_with fail
                  ((with_reducible refine HP18.out.mono ?_))
                  rintro e w19 ⟨rfl, rfl⟩
                  go_wp2
                  go_roundg (gk - 1)
                  case measure => omega
                  case rel => exact ⟨k + 1, set2, F16, p16, rfl, by go_num, by omega, hlt2, HI18⟩
                | true =>
                  have HC := Lib.hid (HI16.out.chosen hrd)
                  go_wp2_with fail
                  ((with_reducible refine HC.out.mono ?_))
                  rintro e w17 ⟨A17, c17, rfl, hrd17, hb17⟩
                  have HI17 := Lib.hid (HI16.out.below hb17)
                  have HRd17 := Lib.hid hrd17
                  clear hb17 hrd17 HC HI16
                  obtain ⟨k0, k1, k2, k3, k4⟩ := HCells.out _ HI17.out.own.bel
                  have HIs8 := Lib.hid (HIs.out _ true set2 HI17.out.own.bel)
                  rw [hrd] at HIs8
                  go_wp2_with fail
                  ((with_reducible refine HIs8.out.mono ?_))
                  rintro e w18 ⟨rfl, hb18⟩
                  have HI18 := Lib.hid (HI17.out.below hb18)
                  have HP18 := Lib.hid HI18.out.prefix
                  rw [hrd] at HP18
                  have t1 : (convert 39 9 (.slice A17 1 c17)).run Try.prog w18 = .ok (.string ⟨#[118]⟩) w18 := (HRd17.out.below hb18).str Try.underlying39 Try.underlying5 Try.underlying9 c17
                  clear hb18 HI17 HIs8 k0 k1 k2 k3 k4 hrd
                  go_wp2_with fail
                  ((with_reducible refine HP18.out.mono ?_))
                  rintro e w19 ⟨rfl, rfl⟩
                  go_wp2
                  go_roundg (gk - 1)
                  case measure => omega
                  case rel => exact ⟨k + 1, set2, F16, p16, rfl, by go_num, by omega, hlt2, HI18⟩
              · have HY := Lib.hid (HI.out.no x hin)
                clear hin
                go_wp2_with fail
                ((with_reducible refine HY.out.mono ?_))
                rintro e w16 ⟨F16, p16, rfl, hI16⟩
                have HI16 := Lib.hid hI16
                clear hI16 HY HI x0
                go_upto_region 30 with (fail)
                cases hrd : q.isQ true set with
                | false =>
                  have HC := Lib.hid (HI16.out.open_ hrd)
                  go_wp2_with fail
                  ((with_reducible refine HC.out.mono ?_))
                  rintro e w17 ⟨A17, c17, rfl, hb17⟩
                  have HI17 := Lib.hid (HI16.out.below hb17)
                  clear hb17 HC HI16
                  obtain ⟨k0, k1, k2, k3, k4⟩ := HCells.out _ HI17.out.own.bel
                  have HIs8 := Lib.hid (HIs.out _ true set HI17.out.own.bel)
                  rw [hrd] at HIs8
                  go_wp2_with fail
                  ((with_reducible refine HIs8.out.mono ?_))
                  rintro e w18 ⟨rfl, hb18⟩
                  have HI18 := Lib.hid (HI17.out.below hb18)
                  have HP18 := Lib.hid HI18.out.prefix
                  rw [hrd] at HP18
                  clear hb18 HI17 HIs8 k0 k1 k2 k3 k4 hrd
                  go_wp2_with fail
                  ((with_reducible refine HP18.out.mono ?_))
                  rintro e w19 ⟨rfl, rfl⟩
                  go_wp2
                  go_roundg (gk - 1)
                  case measure => omega
                  case rel => exact ⟨k + 1, set, F16, p16, rfl, by go_num, by omega, hset, HI18⟩
                | true =>
                  have HC := Lib.hid (HI16.out.chosen hrd)
                  go_wp2_with fail
                  ((with_reducible refine HC.out.mono ?_))
                  rintro e w17 ⟨A17, c17, rfl, hrd17, hb17⟩
                  have HI17 := Lib.hid (HI16.out.below hb17)
                  have HRd17 := Lib.hid hrd17
                  clear hb17 hrd17 HC HI16
                  obtain ⟨k0, k1, k2, k3, k4⟩ := HCells.out _ HI17.out.own.bel
                  have HIs8 := Lib.hid (HIs.out _ true set HI17.out.own.bel)
                  rw [hrd] at HIs8
                  go_wp2_with fail
                  ((with_reducible refine HIs8.out.mono ?_))
                  rintro e w18 ⟨rfl, hb18⟩
                  have HI18 := Lib.hid (HI17.out.below hb18)
                  have HP18 := Lib.hid HI18.out.prefix
                  rw [hrd] at HP18
                  have t1 : (convert 39 9 (.slice A17 1 c17)).run Try.prog w18 = .ok (.string ⟨#[118]⟩) w18 := (HRd17.out.below hb18).str Try.underlying39 Try.underlying5 Try.underlying9 c17
                  clear hb18 HI17 HIs8 k0 k1 k2 k3 k4 hrd
                  go_wp2_with fail
                  ((with_reducible refine HP18.out.mono ?_))
                  rintro e w19 ⟨rfl, rfl⟩
                  go_wp2
                  go_roundg (gk - 1)
                  case measure => omega
                  case rel => exact ⟨k + 1, set, F16, p16, rfl, by go_num, by omega, hset, HI18⟩
            · have HBr := Lib.hid HI.out.own.bel
              have hkM2 : k = M2 := by omega
              clear HI
              by_cases hkn : k < m
              · have hk30 : ¬ k < 30 := by omega
                go_wp2_with fail
                refine (HK.out _).mono ?_
                rintro e w30 ⟨rfl, hb30⟩
                have HB30 := Lib.hid (below_then HB1.out (below_then HBr.out hb30))
                clear hb30
                go_wp2
                go_ret
                exact ⟨rfl, HB30.out⟩
              · skip
                go_wp2_with fail
                refine (HK.out _).mono ?_
                rintro e w30 ⟨rfl, hb30⟩
                have HB30 := Lib.hid (below_then HB1.out (below_then HBr.out hb30))
                clear hb30
                go_wp2
                go_ret
                exact ⟨rfl, HB30.out⟩
      · skip
        cases hrd : q.isQ false set with
        | false =>
          have HS := Lib.hid (HI.out.below (bel1P (.cells #[.int .u8 118] 5 (1, 2))))
          have HT7 := Lib.hid (HS.out.not hrd (cell_mark _ _ _ _))
          clear HS HI hrd
          go_wp2_with fail
          ((with_reducible refine HT7.out.mono ?_))
          rintro e w21 ⟨F21, p21, A21, c21, rfl, hI21⟩
          have HI21 := Lib.hid (hI21.below (bel1P (.cells #[.int .u64 0, .int .u64 0, .int .i64 0, .slice A21 0 c21] 48)))
          have HA21 := Lib.hid (HI21.out.none (by omega))
          clear hI21 HT7 HI21 kc
          go_wp2_with fail
          ((with_reducible refine HA21.out.mono ?_))
          rintro e w22 ⟨rfl, hb22⟩
          have HB22 := Lib.hid (below_then HB1.out hb22)
          clear hb22 HA21
          go_wp2_with fail
          refine (HK.out _).mono ?_
          rintro e w30 ⟨rfl, hb30⟩
          have HB30 := Lib.hid (below_then HB22.out hb30)
          clear hb30
          go_wp2
          go_ret
          exact ⟨rfl, HB30.out⟩
        | true =>
          have HS := Lib.hid (HI.out.below (bel1P (.cells #[.int .u8 118] 5 (1, 2))))
          have HT7 := Lib.hid (HS.out.put hrd (cell_mark _ _ _ _))
          clear HS HI hrd
          go_wp2_with fail
          ((with_reducible refine HT7.out.mono ?_))
          rintro e w21 ⟨F22, p22, y0, y1, y2, A21, c21, rfl, hI21⟩
          have HI22 := Lib.hid (hI21.below (bel1P (.cells #[.int .u64 y0, .int .u64 y1, .int .i64 y2, .slice A21 1 c21] 48)))
          clear hI21 HT7 kc
          skip
          obtain ⟨M2, hM2⟩ : ∃ M2, M2 = min m 30 := ⟨_, rfl⟩
          go_wp2_with fail
          go_loopg [9, 18] M2 (fun gk s i wr => ∃ (k set : Nat) (F : Nat → Prop) (p : Pp), s = .int .u32 (set : Int) ∧ i = .int .i64 (k : Int) ∧ k + gk = M2 ∧ set < 4096 ∧ Hid (N2 w1 wr g q set F p))
          case atStart => exact ⟨0, 0, F22, p22, rfl, rfl, by omega, by omega, HI22⟩
          case round =>
            obtain ⟨k, set, F, p, rfl, rfl, hkg, hset, HI⟩ := hrel
            by_cases hk : k < M2
            · have hkn : k < m := by omega
              have hk30 : k < 30 := by omega
              obtain ⟨b, o, x, rfl, x0, hx1, hx2, hxa⟩ := HR.out _ HI.out.own.bel k hkn
              have HX := Lib.hid hxa
              clear hxa
              by_cases hin : 0 ≤ x ∧ x < q.nodes
              · obtain ⟨hi1, hi2⟩ := hin
                obtain ⟨nd, rfl⟩ := Int.eq_ofNat_of_zero_le hi1
                have hnd12 : nd ≤ 12 := by omega
                have HY := Lib.hid (HI.out.yes nd hi2)
                have hlt2 : set ||| 2 ^ nd < 4096 := or_lt (n := 12) hset (by omega)
                have hor2 : bits .or .u32 (set : Int) ((2 : Int) ^ nd % 4294967296) = ((set ||| 2 ^ nd : Nat) : Int) := by
                  have hor := or_num set nd (by omega) hnd12
                  rw [← hor, show min nd 32 = nd by omega]
                generalize (set ||| 2 ^ nd : Nat) = set2 at *
                have hnw : IntKind.u64.wrap (nd : Int) = (nd : Int) := by rw [IntKind.wrap_u64]; omega
                go_wp2_with fail
                ((with_reducible refine HY.out.mono ?_))
                rintro e w16 ⟨F16, p16, rfl, hI16⟩
                have HI16 := Lib.hid hI16
                clear hI16 HY HI x0
                have x5 := HX.out w16 HI16.out.own.bel
                go_upto_region 30 with (fail)
                clear x5
                cases hrd : q.isQ true set2 with
                | false =>
                  have HC := Lib.hid (HI16.out.open_ hrd)
                  go_wp2_with fail
                  ((with_reducible refine HC.out.mono ?_))
                  rintro e w17 ⟨A17, c17, rfl, hb17⟩
                  have HI17 := Lib.hid (HI16.out.below hb17)
                  clear hb17 HC HI16
                  obtain ⟨k0, k1, k2, k3, k4⟩ := HCells.out _ HI17.out.own.bel
                  have HIs8 := Lib.hid (HIs.out _ true set2 HI17.out.own.bel)
                  rw [hrd] at HIs8
                  go_wp2_with fail
                  ((with_reducible refine HIs8.out.mono ?_))
                  rintro e w18 ⟨rfl, hb18⟩
                  have HI18 := Lib.hid (HI17.out.below hb18)
                  have HP18 := Lib.hid HI18.out.prefix
                  rw [hrd] at HP18
                  clear hb18 HI17 HIs8 k0 k1 k2 k3 k4 hrd
                  go_wp2_with fail
                  ((with_reducible refine HP18.out.mono ?_))
                  rintro e w19 ⟨rfl, rfl⟩
                  go_wp2
                  go_roundg (gk - 1)
                  case measure => omega
                  case rel => exact ⟨k + 1, set2, F16, p16, rfl, by go_num, by omega, hlt2, HI18⟩
                | true =>
                  have HC := Lib.hid (HI16.out.chosen hrd)
                  go_wp2_with fail
                  ((with_reducible refine HC.out.mono ?_))
                  rintro e w17 ⟨A17, c17, rfl, hrd17, hb17⟩
                  have HI17 := Lib.hid (HI16.out.below hb17)
                  have HRd17 := Lib.hid hrd17
                  clear hb17 hrd17 HC HI16
                  obtain ⟨k0, k1, k2, k3, k4⟩ := HCells.out _ HI17.out.own.bel
                  have HIs8 := Lib.hid (HIs.out _ true set2 HI17.out.own.bel)
                  rw [hrd] at HIs8
                  go_wp2_with fail
                  ((with_reducible refine HIs8.out.mono ?_))
                  rintro e w18 ⟨rfl, hb18⟩
                  have HI18 := Lib.hid (HI17.out.below hb18)
                  have HP18 := Lib.hid HI18.out.prefix
                  rw [hrd] at HP18
                  have t1 : (convert 39 9 (.slice A17 1 c17)).run Try.prog w18 = .ok (.string ⟨#[118]⟩) w18 := (HRd17.out.below hb18).str Try.underlying39 Try.underlying5 Try.underlying9 c17
                  clear hb18 HI17 HIs8 k0 k1 k2 k3 k4 hrd
                  go_wp2_with fail
                  ((with_reducible refine HP18.out.mono ?_))
                  rintro e w19 ⟨rfl, rfl⟩
                  go_wp2
                  go_roundg (gk - 1)
                  case measure => omega
                  case rel => exact ⟨k + 1, set2, F16, p16, rfl, by go_num, by omega, hlt2, HI18⟩
              · have HY := Lib.hid (HI.out.no x hin)
                clear hin
                go_wp2_with fail
                ((with_reducible refine HY.out.mono ?_))
                rintro e w16 ⟨F16, p16, rfl, hI16⟩
                have HI16 := Lib.hid hI16
                clear hI16 HY HI x0
                go_upto_region 30 with (fail)
                cases hrd : q.isQ true set with
                | false =>
                  have HC := Lib.hid (HI16.out.open_ hrd)
                  go_wp2_with fail
                  ((with_reducible refine HC.out.mono ?_))
                  rintro e w17 ⟨A17, c17, rfl, hb17⟩
                  have HI17 := Lib.hid (HI16.out.below hb17)
                  clear hb17 HC HI16
                  obtain ⟨k0, k1, k2, k3, k4⟩ := HCells.out _ HI17.out.own.bel
                  have HIs8 := Lib.hid (HIs.out _ true set HI17.out.own.bel)
                  rw [hrd] at HIs8
                  go_wp2_with fail
                  ((with_reducible refine HIs8.out.mono ?_))
                  rintro e w18 ⟨rfl, hb18⟩
                  have HI18 := Lib.hid (HI17.out.below hb18)
                  have HP18 := Lib.hid HI18.out.prefix
                  rw [hrd] at HP18
                  clear hb18 HI17 HIs8 k0 k1 k2 k3 k4 hrd
                  go_wp2_with fail
                  ((with_reducible refine HP18.out.mono ?_))
                  rintro e w19 ⟨rfl, rfl⟩
                  go_wp2
                  go_roundg (gk - 1)
                  case measure => omega
                  case rel => exact ⟨k + 1, set, F16, p16, rfl, by go_num, by omega, hset, HI18⟩
                | true =>
                  have HC := Lib.hid (HI16.out.chosen hrd)
                  go_wp2_with fail
                  ((with_reducible refine HC.out.mono ?_))
                  rintro e w17 ⟨A17, c17, rfl, hrd17, hb17⟩
                  have HI17 := Lib.hid (HI16.out.below hb17)
                  have HRd17 := Lib.hid hrd17
                  clear hb17 hrd17 HC HI16
                  obtain ⟨k0, k1, k2, k3, k4⟩ := HCells.out _ HI17.out.own.bel
                  have HIs8 := Lib.hid (HIs.out _ true set HI17.out.own.bel)
                  rw [hrd] at HIs8
                  go_wp2_with fail
                  ((with_reducible refine HIs8.out.mono ?_))
                  rintro e w18 ⟨rfl, hb18⟩
                  have HI18 := Lib.hid (HI17.out.below hb18)
                  have HP18 := Lib.hid HI18.out.prefix
                  rw [hrd] at HP18
                  have t1 : (convert 39 9 (.slice A17 1 c17)).run Try.prog w18 = .ok (.string ⟨#[118]⟩) w18 := (HRd17.out.below hb18).str Try.underlying39 Try.underlying5 Try.underlying9 c17
                  clear hb18 HI17 HIs8 k0 k1 k2 k3 k4 hrd
                  go_wp2_with fail
                  ((with_reducible refine HP18.out.mono ?_))
                  rintro e w19 ⟨rfl, rfl⟩
                  go_wp2
                  go_roundg (gk - 1)
                  case measure => omega
                  case rel => exact ⟨k + 1, set, F16, p16, rfl, by go_num, by omega, hset, HI18⟩
            · have HBr := Lib.hid HI.out.own.bel
              have hkM2 : k = M2 := by omega
              clear HI
              by_cases hkn : k < m
              · have hk30 : ¬ k < 30 := by omega
                go_wp2_with fail
                refine (HK.out _).mono ?_
                rintro e w30 ⟨rfl, hb30⟩
                have HB30 := Lib.hid (below_then HB1.out (below_then HBr.out hb30))
                clear hb30
                go_wp2
                go_ret
                exact ⟨rfl, HB30.out⟩
              · skip
                go_wp2_with fail
                refine (HK.out _).mono ?_
                rintro e w30 ⟨rfl, hb30⟩
                have HB30 := Lib.hid (below_then HB1.out (below_then HBr.out hb30))
                clear hb30
                go_wp2
                go_ret
                exact ⟨rfl, HB30.out⟩
namespace proposeNeeds
set_option maxRecDepth 100000 in
theorem lifted (os : Os) (started : os.Started) (H : Type) (enc : TypeId × Value → H) :
    ReturnsInHanded {} Try.checked os 7 .any (Rows.proposeNeedsSpec.pre6 enc Try.prog Try.f7 Rows.proposeNeedsRow.domain false) (Rows.proposeNeedsSpec.post enc Try.prog Try.f7 false true false false) := by
  refine law_lift started (by kernel_rfl) Try.func7
    (ChangeSpec.witness6 (enc := enc) (C := Try.checked) false ⟨#[], #[.agg #[.int .i64 0, .int .i64 0, .int .i64 0, .int .i64 0, .slice none 0 0], .slice none 0 0, .slice none 0 0], []⟩ 8 (by kernel_rfl) (by kernel_rfl) (by kernel_rfl) (by kernel_rfl))
    rfl ?_ (by kernel_rfl) (by kernel_rfl) ?_
  · intro ds h
    match ds, h with
    | [_, _, _], _ => rfl
  intro W base args ds p g
  have hA := g.trod
  have hval := g.val
  rw [Try.params7] at hA hval
  obtain ⟨v0, vs0, d0, ds0, p0, q0, hargs, rfl, rfl, h0, r0⟩ := trodAll_cons hA
  obtain ⟨v1, vs1, d1, ds1, p1, q1, rfl, rfl, rfl, h1, r1⟩ := trodAll_cons r0
  obtain ⟨v2, vs2, d2, ds2, p2, q2, rfl, rfl, rfl, h2, r2⟩ := trodAll_cons r1
  obtain ⟨rfl, rfl, rfl⟩ := trodAll_nil r2
  obtain rfl : args = #[v0, v1, v2] := by cases args; simp_all
  obtain ⟨x0, hx0, rfl⟩ := given_q (hval 0 24 v0 rfl rfl) h0
  obtain ⟨A1, n1, c1, l1, rfl, hc1, hm1, hr1⟩ := given_ints (hval 1 22 v1 rfl rfl) h1
  obtain ⟨A2, n2, c2, l2, rfl, hc2, hm2, hr2⟩ := given_ints (hval 2 22 v2 rfl rfl) h2
  exact proposeNeeds_walk x0.q x0.A x0.n x0.c A1 n1 c1 l1 A2 n2 c2 l2 W hx0 hc1 hm1 hr1 hc2 hm2 hr2

theorem over : Rows.proposeNeedsRow.holds Try.pinned (OpenSpec.ofChange Rows.proposeNeedsSpec) :=
  OpenClaim.holds_of_wide 7 Try.f7 rfl rfl rfl rfl rfl rfl rfl ⟨rfl, rfl, rfl, rfl, rfl⟩ rfl rfl rfl rfl rfl (by kernel_rfl) Try.func7 (by kernel_rfl)
    (of_decide_eq_true (by kernel_rfl)) (by unfold Func.isWrapper; first | (rw [if_pos (by decide +kernel)]; kernel_rfl) | (rw [if_neg (by decide +kernel)]; exact ⟨rfl, rfl⟩))
    (fun os started H enc _ => lifted os started H enc)
end proposeNeeds

theorem ProposeNeeds_proved : Rows.ProposeNeedsSaid := proposeNeeds.over
#print axioms ProposeNeeds_proved
end Go.Proofs.Ythkkkldkpdkabaa
