/- BeatOrder: for every input law14.BeatOrder answers true: the order has each node that is up, once; those of the home site stand first, the leader is the first; an order is its owner's. Conditions: the library's table lies where the program's text lays it (the card ties it). -/
import Derived.Test.YtmdjdnibblebcaaDoorBtOr
import Derived.Test.YtmdjdnibblebcaaDoorLawT
import Derived.Test.YtmdjdnibblebcaaDoorDActs
namespace Go.Proofs.YtmdjdnibblebcaaDoor
open Go.RowKit Go.ChangeShapes Go.WideShapes Go.ChangeAt

structure OrS (W w : World) (g b c : Nat) (v : Vw) (kx : Nat) (cur : Array Value) : Prop where
  ob : OB W w g b c v
  bk : Bk w kx 3 cur
  ge : W.heap.size ≤ kx
  ng : kx ≠ g
  nb : kx ≠ b
theorem OrS.below {W w w' : World} {g b c : Nat} {v : Vw} {kx : Nat} {cur : Array Value} (h : OrS W w g b c v kx cur) (hb : Below w.heap.size w w') : OrS W w' g b c v kx cur := ⟨h.ob.below hb, h.bk.below hb h.bk.lt, h.ge, h.ng, h.nb⟩
theorem OrS.put {W w : World} {g b c : Nat} {v : Vw} {kx : Nat} {cur : Array Value} (h : OrS W w g b c v kx cur) (i : Nat) (u : Value) : OrS W (w.setCell ⟨kx, i, none⟩ u) g b c v kx (cur.setIfInBounds i u) := by
  have hk : Kp (fun k => k = kx) w (w.setCell ⟨kx, i, none⟩ u) := Kp.set_ (F := fun k => k = kx) (p := ⟨kx, i, none⟩) rfl _
  exact ⟨⟨h.ob.ov.kp hk (fun e => h.ng e.symm) (fun e => h.nb e.symm), h.ob.bel.trans (hk.below (fun k e => by have := h.ge; omega) h.ob.bel.size)⟩, h.bk.set_ i u, h.ge, h.ng, h.nb⟩
set_option maxRecDepth 100000 in
set_option maxHeartbeats 8000000 in
theorem beatOrder_walk (A : Option Addr) (n c : Nat) (l : List Int) (me : Int) (A3 : Option Addr) (n3 c3 : Nat) (l3 : List Int) (home : Int) (w : World) (hc : n ≤ c) (hm : c ≤ 9223372036854775807) (hr : RdI w w.heap.size A n l)
    (_ : -9223372036854775808 ≤ me) (_ : me ≤ 9223372036854775807) (hc3 : n3 ≤ c3) (hm3 : c3 ≤ 9223372036854775807) (hr3 : RdI w w.heap.size A3 n3 l3) (_ : -9223372036854775808 ≤ home) (_ : home ≤ 9223372036854775807) (hT : Tz w) :
    Calls Tryd.prog 5 #[.slice A n c, .int .i64 me, .slice A3 n3 c3, .int .i64 home] w fun e w' => e = .returned (.bool true) ∧ Below w.heap.size w w' := by
  have HT := Lib.hid hT
  have HR := Lib.hid hr
  have HL0 := Lib.hid hr.1
  have HR3 := Lib.hid hr3
  have HL3 := Lib.hid hr3.1
  have HV := Lib.hid (view_any A n c l me 5 w (by omega) hr)
  obtain ⟨v0, hv0⟩ : ∃ v0, v0 = viewV l me 5 := ⟨_, rfl⟩
  have HSI : Hid (v0.n = (siteL l).length ∧ ∀ k, k < (siteL l).length → ((v0.site k : Nat) : Int) = if l = [] then (if k = 0 then 0 else 1) else l.getD k 0 % 18446744073709551616 % 12) := Lib.hid (by rw [hv0]; exact ⟨rfl, fun k hk => view_site l me 5 k hk⟩)
  rw [← hv0] at HV
  clear hT hr hr3 hv0
  go_enter Tryd.func5, Tryd.ntmps5
  go_wp2_with fail
  refine HV.out.mono ?_
  rintro e w1 ⟨g, b, cv, rfl, H1⟩
  have HO : Hid (OB w w1 g b cv v0) := Lib.hid ⟨H1.out.1, H1.out.2⟩
  clear HV H1
  go_upto_block 0 with (fail)
  go_cut [10] from 24 to 46 (fun _a wx => ∃ v, Hid (OB w wx g b cv v ∧ v0.Like v))
  case first =>
    go_wp2_with fail
    go_loopg [10] (min n3 60) (fun gk a wr => ∃ j : Nat, a = .int .i64 (j : Int) ∧ j + gk = min n3 60 ∧ ∃ v, Hid (OB w wr g b cv v ∧ v0.Like v))
    case atStart => exact ⟨0, rfl, by omega, _, Lib.hid ⟨HO.out, Vw.Like.refl _⟩⟩
    case round =>
      clear HO
      obtain ⟨j, rfl, hjg, v, HJ⟩ := hrel
      by_cases hjn : j < min n3 60
      · have m1 : (j : Int) < (n3 : Int) := by omega
        have m2 : (j : Int) < 60 := by omega
        have m0 : ¬ (j : Int) < 0 := by omega
        have e1 : IntKind.i64.wrap ((j : Int) + 1) = ((j + 1 : Nat) : Int) := by rw [IntKind.wrap_i64]; omega
        have hil : j < l3.length := by rw [HL3.out]; omega
        obtain ⟨b9, o9, rfl, _, hcl⟩ := (HR3.out.below HJ.out.1.bel).2.2 (by omega)
        have q0 := hcl j hil
        obtain ⟨x, hx⟩ : ∃ x, x = l3[j] := ⟨_, rfl⟩
        rw [← hx] at q0
        have HC1 := Lib.hid HJ.out.1.tick
        have HC2 := Lib.hid (HJ.out.1.hear x)
        clear hx hcl
        by_cases hx0 : x < 0
        · go_wp2_with fail
          refine HC1.out.mono ?_
          rintro e wf ⟨rfl, H5⟩
          have HN : Hid (OB w wf g b cv v.tick ∧ v0.Like v.tick) := Lib.hid ⟨H5.out.1, HJ.out.2.trans (Vw.Like.tick v)⟩
          clear HC1 HC2 H5 q0
          go_wp2
          go_roundg (gk - 1)
          case measure => omega
          case rel => exact ⟨j + 1, by go_num, by omega, _, HN⟩
        · go_wp2_with fail
          refine HC2.out.mono ?_
          rintro e wf ⟨rfl, H5⟩
          have HN : Hid (OB w wf g b cv (v.hearI x) ∧ v0.Like (v.hearI x)) := Lib.hid ⟨H5.out.1, HJ.out.2.trans (Vw.Like.hearI v x)⟩
          generalize (if 0 ≤ x ∧ x < (v.n : Int) then (0 : Int) else 2) = y3
          clear HC1 HC2 H5 q0
          go_wp2
          go_roundg (gk - 1)
          case measure => omega
          case rel => exact ⟨j + 1, by go_num, by omega, _, HN⟩
      · have hcase : (¬ (j : Int) < (n3 : Int)) ∨ ((j : Int) < (n3 : Int) ∧ ¬ (j : Int) < 60) := by omega
        clear hjn hjg
        rcases hcase with m1 | ⟨m1, m4⟩
        all_goals
          go_wp2_with fail
          go_meet
          exact ⟨v, HJ⟩
  case rest =>
  obtain ⟨v, HVV⟩ := hcut
  clear HO
  have HC1 := Lib.hid (HVV.out.1.order HT.out home)
  obtain ⟨L, hLL⟩ : ∃ L, L = v.order home := ⟨_, rfl⟩
  rw [← hLL] at HC1
  have HLL := Lib.hid hLL
  have HLn : Hid (0 < L.length ∧ L.length ≤ 12) := Lib.hid (by
    have h1 := Vw.order_ne HVV.out.1.ok home
    have h2 := Vw.order_len HVV.out.1.ok home
    have h3 := HVV.out.1.ok.n12
    rw [hLL]
    exact ⟨List.length_pos_iff.2 h1, by omega⟩)
  have HLm : Hid (∀ k ∈ L, k < v.n) := Lib.hid fun k hk => ((Vw.mem_order HVV.out.1.ok home k).1 (by rw [← hLL]; exact hk)).1
  clear hLL
  go_wp2_with fail
  refine HC1.out.mono ?_
  rintro e wx ⟨Ax, cx, rfl, H5⟩
  have HX0 : Hid (∃ kx cur, Ax = some ⟨kx, 0, none⟩ ∧ OrS w wx g b cv v kx cur ∧ L.length ≤ cur.size ∧ ∀ i (hi : i < L.length), cur[i]? = some (.int .i64 ((L[i] : Nat) : Int))) := Lib.hid (by
    have ho := H5.out.2.2
    have hlt := HVV.out.1.ov.pv.lt
    have hsz := HVV.out.1.bel.size
    rcases ho.2 with ⟨_, e0⟩ | ⟨kx, cap, cur, e, hge, hh, h1, h2, h3, h4⟩
    · have := HLn.out.1; omega
    · injection e with e _ _
      refine ⟨kx, cur, e, ⟨H5.out.1, hh, by omega, by omega, by omega⟩, by omega, fun i hi => ?_⟩
      have h5 : (cur.toList.take (L.length * 1))[i]? = (natsV L)[i]? := by rw [h4]
      rw [List.getElem?_take_of_lt (by omega), Array.getElem?_toList] at h5
      rw [h5]
      simp [natsV, hi])
  obtain ⟨kx, cur, rfl, hS, hcsz, hcur⟩ := HX0.out
  have HS := Lib.hid hS
  have HCur := Lib.hid (And.intro hcsz hcur)
  obtain ⟨N, hN⟩ : ∃ N, N = L.length := ⟨_, rfl⟩
  have HN := Lib.hid hN
  have hN12 : 0 < N ∧ N ≤ 12 := by rw [hN]; exact HLn.out
  have n0 : ((N : Int) == 0) = false := by simp; omega
  have HX : Hid (∀ W', OrS w W' g b cv v kx cur → ∀ i (hi : i < L.length), W'.cell? ⟨kx, i, none⟩ = some (.int .i64 ((L[i] : Nat) : Int))) := Lib.hid fun W' h i hi => (h.bk.cell i).trans (HCur.out.2 i hi)
  have HL12 : Hid (∀ i (hi : i < L.length), L[i] < 12) := Lib.hid fun i hi => by
    have h1 := HLm.out _ (List.getElem_mem hi)
    have h2 := HVV.out.1.ok.n12
    omega
  rw [← hN]
  clear HC1 H5 HX0 hS hcsz hcur hN
  go_wp2
  go_loopg [12, 13] N (fun gk z a wr => ∃ (i s : Nat), z = .int .u32 (s : Int) ∧ a = .int .i64 (i : Int) ∧ i + gk = N ∧ s < 4096 ∧ Hid (OrS w wr g b cv v kx cur ∧ ∀ k, s.testBit k = true ↔ k ∈ L.take i))
  case atStart => exact ⟨0, 0, rfl, rfl, by omega, by omega, Lib.hid ⟨HS.out, fun k => by simp⟩⟩
  case round =>
    clear HS
    obtain ⟨i, s, rfl, rfl, hig, hs, HI⟩ := hrel
    by_cases hin : i < N
    · have i1 : (i : Int) < (N : Int) := by omega
      have i0 : ¬ (i : Int) < 0 := by omega
      have ie1 : IntKind.i64.wrap ((i : Int) + 1) = ((i + 1 : Nat) : Int) := by rw [IntKind.wrap_i64]; omega
      have hiL : i < L.length := by rw [← HN.out]; exact hin
      have q0 := HX.out wr HI.out.1 i hiL
      have hx12 := HL12.out i hiL
      have hnot : s.testBit L[i] = false := by
        cases h : s.testBit L[i] with
        | false => rfl
        | true =>
          exfalso
          have h1 := (HI.out.2 _).1 h
          obtain ⟨t, ht, he⟩ := List.getElem_of_mem h1
          have hnd := Vw.order_nodup v home
          rw [← HLL.out] at hnd
          rw [List.length_take] at ht
          rw [List.getElem_take] at he
          have := (List.pairwise_iff_getElem.1 hnd) t i (by omega) hiL (by omega)
          exact this he
      have HNx : Hid (∀ k, (s ||| 2 ^ L[i]).testBit k = true ↔ k ∈ L.take (i + 1)) := Lib.hid fun k => by
        rw [set_bit, List.take_succ_eq_append_getElem hiL, List.mem_append, Bool.or_eq_true, HI.out.2 k]
        simp [eq_comm]
      obtain ⟨x, hx⟩ : ∃ x, x = L[i] := ⟨_, rfl⟩
      rw [← hx] at q0 hx12 hnot HNx
      have hbit := bit_u32 s x (by omega)
      rw [hnot] at hbit
      have j5 : IntKind.u64.wrap (x : Int) = (x : Int) := by rw [IntKind.wrap_u64]; omega
      have hbb : bits .and .u32 ((s : Int) / 2 ^ x) 1 = 0 := hbit
      have hpw : (2 : Int) ^ x % 4294967296 = ((2 ^ x : Nat) : Int) := pow_u32 ⟨x, by omega⟩
      have hs2 := set_or s x hs hx12
      have h2x : 2 ^ x < 4294967296 := Nat.lt_of_lt_of_le (Nat.pow_lt_pow_right (by omega) (show x < 32 by omega)) (by decide)
      have hor : bits .or .u32 (s : Int) ((2 : Int) ^ x % 4294967296) = ((s ||| 2 ^ x : Nat) : Int) := by rw [hpw]; exact or_u32 _ _ (by omega) h2x
      have x1 : ¬ (x : Int) < 0 := by omega
      have x2 : ¬ (11 : Int) < (x : Int) := by omega
      obtain ⟨s2, hs2e⟩ : ∃ s2, s2 = s ||| 2 ^ x := ⟨_, rfl⟩
      rw [← hs2e] at hor hs2 HNx
      clear hx hnot hbit hpw h2x hs2e
      go_wp2
      go_roundg (gk - 1)
      case measure => omega
      case rel => exact ⟨i + 1, s2, rfl, by go_num, by omega, hs2, Lib.hid ⟨HI.out.1, HNx.out⟩⟩
    · obtain rfl : i = N := by omega
      have i1 : ¬ (i : Int) < (i : Int) := by omega
      have HSU : Hid (s = v.up) := Lib.hid (by
        refine Nat.eq_of_testBit_eq fun k => ?_
        have h1 := HI.out.2 k
        rw [List.take_of_length_le (by have := HN.out; omega), HLL.out, Vw.mem_order HVV.out.1.ok home k] at h1
        rw [Vw.up_bit]
        cases h : s.testBit k with
        | true => have := h1.1 h; simp [this]
        | false =>
          rw [h] at h1
          by_cases h2 : k < v.n
          · have : ¬ v.since k < v.pat := fun h3 => by simpa using h1.2 ⟨h2, h3⟩
            simp [this]
          · simp [h2])
      have q0 : wr.cell? ⟨kx, 0, none⟩ = some (.int .i64 ((v.lead home : Nat) : Int)) := by
        have h1 := HX.out wr HI.out.1 0 HLn.out.1
        rw [h1]
        unfold Vw.lead
        have h2 := HLL.out
        rw [← h2]
        rw [headD_at L HLn.out.1]
      have HC0 : Hid (∀ W', OrS w W' g b cv v kx cur → W'.cell? ⟨kx, 0, none⟩ = some (.int .i64 ((v.lead home : Nat) : Int))) := Lib.hid fun W' h => by
        rw [h.bk.cell 0, ← HI.out.1.bk.cell 0]; exact q0
      have HCU : Hid (∀ W', OrS w W' g b cv v kx cur → Calls Tryd.prog 19 #[.pointer (some ⟨g, 0, none⟩)] W' fun e w' => e = .returned (.int .u32 (s : Int)) ∧ Hid (OrS w w' g b cv v kx cur)) := Lib.hid fun W' h => by
        refine h.ob.upC.mono ?_
        rintro e w' ⟨rfl, H5⟩
        exact ⟨by rw [HSU.out], Lib.hid (h.below H5.out.2)⟩
      have HCL : Hid (∀ W', OrS w W' g b cv v kx cur → Calls Tryd.prog 26 #[.pointer (some ⟨g, 0, none⟩), .int .i64 home] W' fun e w' => e = .returned (.int .i64 ((v.lead home : Nat) : Int)) ∧ Hid (OrS w w' g b cv v kx cur)) := Lib.hid fun W' h => by
        refine (h.ob.lead HT.out home).mono ?_
        rintro e w' ⟨rfl, H5⟩
        exact ⟨rfl, Lib.hid (h.below H5.out.2)⟩
      obtain ⟨y, hy⟩ : ∃ y, y = v.lead home := ⟨_, rfl⟩
      rw [← hy] at q0 HC0 HCL
      have HY := Lib.hid hy
      have S0 : Hid (OrS w wr.drew g b cv v kx cur) := Lib.hid (HI.out.1.below (bel_drew (Below.refl _ _)))
      have hss : ((s : Int) == (s : Int)) = true := by simp
      have hyy : ((y : Int) == (y : Int)) = true := by simp
      clear hy HI hs hig
      go_wp2_with fail
      go_region_held3 (fun w' => w'.cell? ⟨kx, 0, none⟩ = some (.int .i64 (y : Int))) (first | exact q0 | exact c2 | exact c1 | go_keep) (first | (go_at_call 19; refine (HCU.out _ S0.out).mono ?_; rintro e w5 ⟨rfl, S1⟩; have c1 := HC0.out w5 S1.out) | (go_at_call 26; refine (HCL.out _ S1.out).mono ?_; rintro e w6 ⟨rfl, S2⟩; have c2 := HC0.out w6 S2.out))
      have HLA : Hid (∀ j (hj : j < L.length), ((v.site L[j] : Nat) : Int) ≠ home → ∀ t (ht : t < L.length), j < t → ((v.site L[t] : Nat) : Int) ≠ home) := Lib.hid fun j hj h t ht hjt => by
        have hLe := HLL.out
        subst hLe
        exact Vw.order_away home j t hjt ht h
      have S2r := Lib.hid S2.out
      clear HCU HCL S0 S1 S2 c1 c2 HC0 q0 hss hyy
      go_wp2
      go_loopg [14, 15] i (fun gk z a wr => ∃ (j : Nat) (aw : Bool), z = .bool aw ∧ a = .int .i64 (j : Int) ∧ j + gk = i ∧ Hid (OrS w wr g b cv v kx cur ∧ (aw = true → ∀ t (ht : t < L.length), j ≤ t → ((v.site L[t] : Nat) : Int) ≠ home)))
      case atStart => exact ⟨0, false, rfl, rfl, by omega, Lib.hid ⟨S2r.out, fun h => by cases h⟩⟩
      case round =>
        clear S2r
        obtain ⟨j, aw, rfl, rfl, hjg, HJ⟩ := hrel
        by_cases hji : j < i
        · have j1 : (j : Int) < (i : Int) := by omega
          have j0 : ¬ (j : Int) < 0 := by omega
          have je1 : IntKind.i64.wrap ((j : Int) + 1) = ((j + 1 : Nat) : Int) := by rw [IntKind.wrap_i64]; omega
          have hjL : j < L.length := by rw [← HN.out]; exact hji
          have q0 := HX.out wr HJ.out.1 j hjL
          have hxn : L[j] < (siteL l).length := by
            have h1 := HLm.out _ (List.getElem_mem hjL)
            rw [HVV.out.2.n, HSI.out.1] at h1
            exact h1
          have hx12 := HL12.out j hjL
          have hY : ((v.site L[j] : Nat) : Int) = if l = [] then (if L[j] = 0 then 0 else 1) else l.getD L[j] 0 % 18446744073709551616 % 12 := by
            rw [HVV.out.2.site]; exact HSI.out.2 _ hxn
          have HNA : Hid (∀ aw2 : Bool, (aw2 = true → aw = true ∨ ((v.site L[j] : Nat) : Int) ≠ home) → aw2 = true → ∀ t (ht : t < L.length), j + 1 ≤ t → ((v.site L[t] : Nat) : Int) ≠ home) := Lib.hid fun aw2 h1 h2 t ht hjt => by
            rcases h1 h2 with h3 | h3
            · exact HJ.out.2 h3 t ht (by omega)
            · exact HLA.out j hjL h3 t ht (by omega)
          have HAT : Hid (aw = true → ((v.site L[j] : Nat) : Int) ≠ home) := Lib.hid fun h => HJ.out.2 h j hjL (Nat.le_refl _)
          obtain ⟨Y, hYe⟩ : ∃ Y : Int, Y = ((v.site L[j] : Nat) : Int) := ⟨_, rfl⟩
          obtain ⟨x, hx⟩ : ∃ x, x = L[j] := ⟨_, rfl⟩
          rw [← hYe] at hY HNA HAT
          rw [← hx] at q0 hx12 hY hxn
          clear hYe hx
          have x0 : ¬ (x : Int) < 0 := by omega
          have HOS := Lib.hid HJ.out.1
          clear HJ
          have hcases : (Y = home ∧ aw = false) ∨ (Y ≠ home) := by
            by_cases h : Y = home
            · refine .inl ⟨h, ?_⟩
              cases aw with
              | false => rfl
              | true => exact absurd h (HAT.out rfl)
            · exact .inr h
          by_cases hn0 : n = 0
          · have m1 : ¬ (n : Int) > 0 := by omega
            have m2 : ¬ (0 : Int) < (n : Int) := by omega
            have hle : l = [] := List.length_eq_zero_iff.1 (by rw [HL0.out]; exact hn0)
            rw [if_pos hle] at hY
            have hmin : min (x : Int) 1 = Y := by rw [hY]; split <;> omega
            clear hle hY hn0
            rcases hcases with ⟨h1, h2⟩ | h1
            · have h3 : (Y == home) = true := by simpa using h1
              have h4 : (Y != home) = false := by simpa using h1
              have HAW : Hid (OrS w wr g b cv v kx cur ∧ (false = true → ∀ t (ht : t < L.length), j + 1 ≤ t → ((v.site L[t] : Nat) : Int) ≠ home)) := Lib.hid ⟨HOS.out, fun h => by cases h⟩
              subst h2
              clear HNA HAT h1
              · go_wp2
                go_roundg (gk - 1)
                case measure => omega
                case rel => exact ⟨j + 1, false, rfl, by go_num, by omega, HAW⟩
            · have h3 : (Y == home) = false := by simpa using h1
              have h4 : (Y != home) = true := by simpa using h1
              have HAW : Hid (OrS w wr g b cv v kx cur ∧ (true = true → ∀ t (ht : t < L.length), j + 1 ≤ t → ((v.site L[t] : Nat) : Int) ≠ home)) := Lib.hid ⟨HOS.out, HNA.out true fun _ => .inr h1⟩
              clear HNA HAT h1
              cases aw with
              | false =>
                go_wp2
                go_roundg (gk - 1)
                case measure => omega
                case rel => exact ⟨j + 1, true, rfl, by go_num, by omega, Lib.hid ⟨HAW.out.1, fun _ => HAW.out.2 trivial⟩⟩
              | true =>
                go_wp2
                go_roundg (gk - 1)
                case measure => omega
                case rel => exact ⟨j + 1, true, rfl, by go_num, by omega, Lib.hid ⟨HAW.out.1, fun _ => HAW.out.2 trivial⟩⟩
          · have m1 : (0 : Int) < (n : Int) := by omega
            have hle : ¬ l = [] := fun e => by have h9 := HL0.out; rw [e] at h9; simp at h9; omega
            rw [if_neg hle] at hY
            have hxl : x < l.length := by
              unfold siteL at hxn
              rw [if_neg hle, List.length_map, List.length_take] at hxn
              omega
            have hxn2 : (x : Int) < (n : Int) := by have h9 := HL0.out; omega
            obtain ⟨b0, o0, rfl, _, hc0⟩ := (HR.out.below HOS.out.ob.bel).2.2 (by omega)
            have q1 := hc0 x hxl
            have hg : l.getD x 0 = l[x] := by simp [List.getD, hxl]
            rw [hg] at hY
            obtain ⟨X, hX⟩ : ∃ X, X = l[x] := ⟨_, rfl⟩
            rw [← hX] at q1 hY
            have e2 : IntKind.u64.wrap X = X % 18446744073709551616 := IntKind.wrap_u64 X
            have e3 : (X % 18446744073709551616).tmod 12 = Y := by rw [Int.tmod_eq_emod_of_nonneg (Int.emod_nonneg _ (by omega))]; exact hY.symm
            have e4 : IntKind.i64.wrap Y = Y := by rw [IntKind.wrap_i64]; omega
            have e5 : X % 18446744073709551616 % 12 = Y := hY.symm
            clear hle hY hn0 hX hg hc0 hxl hxn
            rcases hcases with ⟨h1, h2⟩ | h1
            · have h3 : (Y == home) = true := by simpa using h1
              have h4 : (Y != home) = false := by simpa using h1
              have HAW : Hid (OrS w wr g b cv v kx cur ∧ (false = true → ∀ t (ht : t < L.length), j + 1 ≤ t → ((v.site L[t] : Nat) : Int) ≠ home)) := Lib.hid ⟨HOS.out, fun h => by cases h⟩
              subst h2
              clear HNA HAT h1
              · go_wp2
                go_roundg (gk - 1)
                case measure => omega
                case rel => exact ⟨j + 1, false, rfl, by go_num, by omega, HAW⟩
            · have h3 : (Y == home) = false := by simpa using h1
              have h4 : (Y != home) = true := by simpa using h1
              have HAW : Hid (OrS w wr g b cv v kx cur ∧ (true = true → ∀ t (ht : t < L.length), j + 1 ≤ t → ((v.site L[t] : Nat) : Int) ≠ home)) := Lib.hid ⟨HOS.out, HNA.out true fun _ => .inr h1⟩
              clear HNA HAT h1
              cases aw with
              | false =>
                go_wp2
                go_roundg (gk - 1)
                case measure => omega
                case rel => exact ⟨j + 1, true, rfl, by go_num, by omega, Lib.hid ⟨HAW.out.1, fun _ => HAW.out.2 trivial⟩⟩
              | true =>
                go_wp2
                go_roundg (gk - 1)
                case measure => omega
                case rel => exact ⟨j + 1, true, rfl, by go_num, by omega, Lib.hid ⟨HAW.out.1, fun _ => HAW.out.2 trivial⟩⟩
        · have j1 : ¬ (j : Int) < (i : Int) := by omega
          have q0 : wr.cell? ⟨kx, 0, none⟩ = some (.int .i64 (y : Int)) := by
            rw [HX.out wr HJ.out.1 0 HLn.out.1, HY.out]
            unfold Vw.lead
            rw [← HLL.out, headD_at L HLn.out.1]
          have HOS : Hid (OrS w wr g b cv v kx cur) := Lib.hid HJ.out.1
          have hp : (0 : Int) < (i : Int) := by omega
          clear HJ
          go_wp2
          go_loopg [18] i (fun gk a wr => ∃ t : Nat, a = .int .i64 (t : Int) ∧ t + gk = i ∧ Hid (∃ cur2, OrS w wr g b cv v kx cur2 ∧ i ≤ cur2.size))
          case atStart => exact ⟨0, rfl, by omega, Lib.hid ⟨cur, HOS.out, by have := HCur.out.1; have := HN.out; omega⟩⟩
          case round =>
            clear HOS q0 hjg
            obtain ⟨t, rfl, htg, HJ⟩ := hrel
            by_cases hti : t < i
            · have t1 : (t : Int) < (i : Int) := by omega
              have t0 : ¬ (t : Int) < 0 := by omega
              have te1 : IntKind.i64.wrap ((t : Int) + 1) = ((t + 1 : Nat) : Int) := by rw [IntKind.wrap_i64]; omega
              obtain ⟨cur2, h1, h2⟩ := HJ.out
              have q0 : wr.cell? ⟨kx, t, none⟩ = some (cur2[t]'(by omega)) := by rw [h1.bk.cell t]; exact Array.getElem?_eq_getElem (by omega)
              have f0 := h1.bk.frozen t
              have HN2 : Hid (∃ cur2, OrS w (wr.setCell ⟨kx, t, none⟩ (.int .i64 99)) g b cv v kx cur2 ∧ i ≤ cur2.size) := Lib.hid ⟨_, h1.put t _, by simpa using h2⟩
              obtain ⟨u0, hu0⟩ : ∃ u0, u0 = cur2[t]'(by omega) := ⟨_, rfl⟩
              rw [← hu0] at q0
              clear hu0 h1 h2 HJ
              go_wp2
              go_roundg (gk - 1)
              case measure => omega
              case rel => exact ⟨t + 1, by go_num, by omega, HN2⟩
            · obtain rfl : t = i := by omega
              have t1 : ¬ (t : Int) < (t : Int) := by omega
              have HC1 : Hid (Calls Tryd.prog 26 #[.pointer (some ⟨g, 0, none⟩), .int .i64 home] wr fun e w' => e = .returned (.int .i64 (y : Int)) ∧ Hid (OB w w' g b cv v)) := Lib.hid (by
                obtain ⟨cur2, h1, _⟩ := HJ.out
                refine (h1.ob.lead HT.out home).mono ?_
                rintro e w' ⟨rfl, H5⟩
                exact ⟨by rw [HY.out], Lib.hid H5.out.1⟩)
              have hyy : ((y : Int) == (y : Int)) = true := by simp
              clear HJ htg
              go_wp2_with fail
              refine HC1.out.mono ?_
              rintro e wa ⟨rfl, HA⟩
              have HC2 := Lib.hid (HA.out.order HT.out home)
              rw [← HLL.out] at HC2
              clear HC1
              go_wp2_with fail
              refine HC2.out.mono ?_
              rintro e wb ⟨Ab, cb, rfl, H5⟩
              have HB := Lib.hid H5.out.1
              have HKK : Hid (∃ kb, Ab = some ⟨kb, 0, none⟩ ∧ wb.cell? ⟨kb, 0, none⟩ = some (.int .i64 (y : Int))) := Lib.hid (by
                have ho := H5.out.2.2
                rcases ho.2 with ⟨_, e0⟩ | ⟨kb, cap, cur3, e, _⟩
                · have := HLn.out.1; omega
                · injection e with e _ _
                  subst e
                  refine ⟨kb, rfl, ?_⟩
                  rw [ho.cellAt 0 (by have := HLn.out.1; omega), HY.out]
                  unfold Vw.lead
                  rw [← HLL.out, headD_at L HLn.out.1]
                  simp [natsV, HLn.out.1])
              obtain ⟨kb, rfl, q0⟩ := HKK.out
              have HN3 : Hid (L.length = t) := Lib.hid HN.out.symm
              rw [HN3.out]
              have HK := Lib.hid (known14_any wb (HT.out.below HB.out.bel HT.out.lt))
              clear HC2 H5 HKK
              go_wp2_with fail
              refine HK.out.mono ?_
              rintro e w7 ⟨rfl, hb7⟩
              have HB7 : Hid (Below w.heap.size w w7) := Lib.hid (HB.out.bel.trans (hb7.mono HB.out.bel.size))
              clear hb7
              go_wp2
              go_ret
              exact ⟨rfl, HB7.out⟩

namespace beatOrder
set_option maxRecDepth 100000 in
theorem lifted (os : Os) (started : os.Started) (H : Type) (enc : TypeId × Value → H) (F : Stop.Interp) :
    ReturnsInHanded {} Tryd.checked os 5 .any ((OpenSpec.ofChange Rows.beatOrderSpec).preRow enc Tryd.prog Tryd.f5 Rows.beatOrderRow.domain false Rows.beatOrderRow.laid) (((OpenSpec.ofChange Rows.beatOrderSpec).at F).post enc Tryd.prog Tryd.f5 false true false false) := by
  have hs : (DataW.whole enc Tryd.prog ((laidWorld os).forCall (fun _ _ => 0) ⟨#[], #[.slice none 0 0, .int .i64 0, .slice none 0 0, .int .i64 0], []⟩).memory Tryd.f5.params.toList Rows.beatOrderSpec.vars false (#[.slice none 0 0, .int .i64 0, .slice none 0 0, .int .i64 0] : Array Value).toList 8).isSome = true := by kernel_rfl
  obtain ⟨x, hx⟩ := Option.isSome_iff_exists.1 hs
  have hmet : laidMet Tryd.prog tabL ((laidWorld os).forCall (fun _ _ => 0) ⟨#[], #[.slice none 0 0, .int .i64 0, .slice none 0 0, .int .i64 0], []⟩).memory := laidMet_of_run' 8 (by kernel_rfl) (by kernel_rfl)
  refine law_lift_tab started (by kernel_rfl) Tryd.func5
    (witness_row_at (enc := enc) (C := Tryd.checked) false (laidWorld os) #[.slice none 0 0, .int .i64 0, .slice none 0 0, .int .i64 0] rfl (by kernel_rfl) (by kernel_rfl) (by kernel_rfl)
      (OpenSpec.preRow_of_cond 8 hx (by kernel_rfl) (fun k hk => by cases hk) (by kernel_rfl) hmet))
    rfl ?_ (by kernel_rfl) (by kernel_rfl) ?_
  · intro ds h
    match ds, h with
    | [_, _, _, _], _ => rfl
  intro W base args ds p g hTz
  have hA := g.trod
  have hval := g.val
  rw [Tryd.params5] at hA hval
  obtain ⟨v0, vs0, d0, ds0, p0, q0, hargs, rfl, rfl, h0, r0⟩ := trodAll_cons hA
  obtain ⟨v1, vs1, d1, ds1, p1, q1, rfl, rfl, rfl, h1, r1⟩ := trodAll_cons r0
  obtain ⟨v2, vs2, d2, ds2, p2, q2, rfl, rfl, rfl, h2, r2⟩ := trodAll_cons r1
  obtain ⟨v3, vs3, d3, ds3, p3, q3, rfl, rfl, rfl, h3, r3⟩ := trodAll_cons r2
  obtain ⟨rfl, rfl, rfl⟩ := trodAll_nil r3
  obtain rfl : args = #[v0, v1, v2, v3] := by cases args; simp_all
  obtain ⟨A0, n0, c0, l0, rfl, hc0, hm0, hr0⟩ := given_ints (hval 0 22 v0 rfl rfl) h0
  obtain ⟨a1, rfl, _, _, w1⟩ := open_int Tryd.underlying3 (hval 1 3 v1 rfl rfl) h1
  have b1 := bounds_i64 w1
  obtain ⟨A2, n2, c2, l2, rfl, hc2, hm2, hr2⟩ := given_ints (hval 2 22 v2 rfl rfl) h2
  obtain ⟨a3, rfl, _, _, w3⟩ := open_int Tryd.underlying3 (hval 3 3 v3 rfl rfl) h3
  have b3 := bounds_i64 w3
  exact beatOrder_walk A0 n0 c0 l0 a1 A2 n2 c2 l2 a3 W hc0 hm0 hr0 b1.1 b1.2 hc2 hm2 hr2 b3.1 b3.2 hTz

theorem said : Rows.BeatOrderSaid :=
  OpenClaim.holds_of_cond 5 Tryd.f5 rfl rfl rfl rfl rfl rfl rfl ⟨rfl, rfl, rfl, rfl, rfl⟩ rfl rfl rfl rfl rfl (by kernel_rfl) Tryd.func5 (by kernel_rfl)
    (of_decide_eq_true (by kernel_rfl)) (by unfold Func.isWrapper; first | (rw [if_pos (by decide +kernel)]; kernel_rfl) | (rw [if_neg (by decide +kernel)]; exact ⟨rfl, rfl⟩))
    (fun os started H enc _ F => by rw [OpenClaim.pre_eq_preRow]; exact lifted os started H enc F)
/-- No parameter wants a stand-in; the program's own looks are off. -/
theorem plain (f : FuncId) (fn : Func) (hf : Tryd.pinned.checked.prog.funcNamed "seawall/seawalllaw14.BeatOrder" = some f) (hfn : Tryd.pinned.checked.prog.funcs[f]? = some fn) :
    false = Tryd.pinned.checked.prog.looks [] ∧ ∀ (j : Nat) t, fn.params[j]? = some t → Tryd.pinned.checked.prog.wantsStandIn t = false := by
  obtain rfl : f = 5 := Option.some.inj ((show Tryd.prog.funcNamed "seawall/seawalllaw14.BeatOrder" = some 5 by kernel_rfl).symm.trans hf) |>.symm
  obtain rfl : fn = Tryd.f5 := (Option.some.inj (Tryd.func5.symm.trans hfn)).symm
  refine ⟨by kernel_rfl, fun j t ht => ?_⟩
  rw [Tryd.params5] at ht
  have hm : t ∈ [22, 3, 22, 3] := by simpa using Array.mem_of_getElem? ht
  have hall : ([22, 3, 22, 3].all fun u => !Tryd.prog.wantsStandIn u) = true := by kernel_rfl
  exact (show Tryd.prog.wantsStandIn t = false by simpa using List.all_eq_true.1 hall t hm)
end beatOrder

theorem BeatOrder_proved : Rows.BeatOrderCardSaid :=
  Claim7.holds_tied_plain_at .later [] _ _ _ _ beatOrder.said (fun _ h => by cases h) (by kernel_rfl) (fun _ h => by cases h) beatOrder_row_tie rfl ⟨rfl, rfl⟩ (by kernel_rfl) rfl beatOrder.plain (by kernel_rfl)
#print axioms BeatOrder_proved
end Go.Proofs.YtmdjdnibblebcaaDoor
