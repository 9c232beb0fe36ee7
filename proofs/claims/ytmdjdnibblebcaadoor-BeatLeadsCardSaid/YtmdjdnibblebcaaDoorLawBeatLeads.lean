/- BeatLeads: for every input law14.BeatLeads answers true: who leads goes on leading as long as it is up, and nobody that stands ahead of it comes; when it is gone, the next one of the order leads. Conditions: the library's table lies where the program's text lays it (the card ties it). -/
import Derived.Test.YtmdjdnibblebcaaDoorBtLe
import Derived.Test.YtmdjdnibblebcaaDoorLawT
import Derived.Test.YtmdjdnibblebcaaDoorDActs
namespace Go.Proofs.YtmdjdnibblebcaaDoor
open Go.RowKit Go.ChangeShapes Go.WideShapes Go.ChangeAt

structure LdS (W wx w : World) (g b c : Nat) (v0 : Vw) (L : List Nat) (v : Vw) : Prop where
  ob : OB W w g b c v
  l : v0.Like v
  q : v.Only L
  kp : Kp (fun k => k = g ∨ k = b) wx w
theorem LdS.below {W wx w w' : World} {g b c : Nat} {v0 : Vw} {L : List Nat} {v : Vw} (h : LdS W wx w g b c v0 L v) (hb : Below w.heap.size w w') : LdS W wx w' g b c v0 L v := ⟨h.ob.below hb, h.l, h.q, h.kp.trans (Kp.of_below hb)⟩
set_option maxRecDepth 100000 in
set_option maxHeartbeats 8000000 in
theorem beatLeads_walk (A : Option Addr) (n c : Nat) (l : List Int) (me : Int) (A3 : Option Addr) (n3 c3 : Nat) (l3 : List Int) (home : Int) (w : World) (hc : n ≤ c) (hm : c ≤ 9223372036854775807) (hr : RdI w w.heap.size A n l)
    (_ : -9223372036854775808 ≤ me) (_ : me ≤ 9223372036854775807) (hc3 : n3 ≤ c3) (hm3 : c3 ≤ 9223372036854775807) (hr3 : RdI w w.heap.size A3 n3 l3) (_ : -9223372036854775808 ≤ home) (_ : home ≤ 9223372036854775807) (hT : Tz w) :
    Calls Tryd.prog 8 #[.slice A n c, .int .i64 me, .slice A3 n3 c3, .int .i64 home] w fun e w' => e = .returned (.bool true) ∧ Below w.heap.size w w' := by
  have HT := Lib.hid hT
  have HR3 := Lib.hid hr3
  have HL3 := Lib.hid hr3.1
  have HV := Lib.hid (view_any A n c l me 2 w (by omega) hr)
  clear hT hr hr3
  go_enter Tryd.func8, Tryd.ntmps8
  go_wp2_with fail
  refine HV.out.mono ?_
  rintro e w1 ⟨g, b, cv, rfl, H1⟩
  have HO : Hid (OB w w1 g b cv (viewV l me 2)) := Lib.hid ⟨H1.out.1, H1.out.2⟩
  clear HV H1
  go_upto_block 0 with (fail)
  go_cut [10] from 22 to 37 (fun _a wx => ∃ v, Hid (OB w wx g b cv v))
  case first =>
    go_wp2_with fail
    go_loopg [10] (min n3 30) (fun gk a wr => ∃ j : Nat, a = .int .i64 (j : Int) ∧ j + gk = min n3 30 ∧ ∃ v, Hid (OB w wr g b cv v))
    case atStart => exact ⟨0, rfl, by omega, _, HO⟩
    case round =>
      clear HO
      obtain ⟨j, rfl, hjg, v, HJ⟩ := hrel
      by_cases hjn : j < min n3 30
      · have m1 : (j : Int) < (n3 : Int) := by omega
        have m2 : (j : Int) < 30 := by omega
        have m0 : ¬ (j : Int) < 0 := by omega
        have e1 : IntKind.i64.wrap ((j : Int) + 1) = ((j + 1 : Nat) : Int) := by rw [IntKind.wrap_i64]; omega
        have hil : j < l3.length := by rw [HL3.out]; omega
        obtain ⟨b9, o9, rfl, _, hcl⟩ := (HR3.out.below HJ.out.bel).2.2 (by omega)
        have q0 := hcl j hil
        obtain ⟨x, hx⟩ : ∃ x, x = l3[j] := ⟨_, rfl⟩
        rw [← hx] at q0
        have HC2 := Lib.hid (HJ.out.hear x)
        clear hx hcl
        go_wp2_with fail
        refine HC2.out.mono ?_
        rintro e wf ⟨rfl, H5⟩
        have HN := Lib.hid H5.out.1
        generalize (if 0 ≤ x ∧ x < (v.n : Int) then (0 : Int) else 2) = y3
        clear HC2 H5 q0
        go_wp2
        go_roundg (gk - 1)
        case measure => omega
        case rel => exact ⟨j + 1, by go_num, by omega, _, HN⟩
      · have hcase : (¬ (j : Int) < (n3 : Int)) ∨ ((j : Int) < (n3 : Int) ∧ ¬ (j : Int) < 30) := by omega
        clear hjn hjg
        rcases hcase with m1 | ⟨m1, m4⟩
        all_goals
          go_wp2_with fail
          go_meet
          exact ⟨v, HJ⟩
  case rest =>
  obtain ⟨v0, HV0⟩ := hcut
  clear HO
  have HC1 := Lib.hid (HV0.out.order HT.out home)
  obtain ⟨L, hLL⟩ : ∃ L, L = v0.order home := ⟨_, rfl⟩
  rw [← hLL] at HC1
  have HLL := Lib.hid hLL
  have HLn : Hid (0 < L.length ∧ L.length ≤ 12) := Lib.hid (by
    have h1 := Vw.order_ne HV0.out.ok home
    have h2 := Vw.order_len HV0.out.ok home
    have h3 := HV0.out.ok.n12
    rw [hLL]
    exact ⟨List.length_pos_iff.2 h1, by omega⟩)
  have HLm : Hid (∀ k ∈ L, k < v0.n) := Lib.hid fun k hk => ((Vw.mem_order HV0.out.ok home k).1 (by rw [← hLL]; exact hk)).1
  clear hLL
  go_wp2_with fail
  refine HC1.out.mono ?_
  rintro e wx ⟨Ax, cx, rfl, H5⟩
  have HX0 : Hid (∃ kx, Ax = some ⟨kx, 0, none⟩ ∧ kx ≠ g ∧ kx ≠ b ∧ ∀ i (hi : i < L.length), wx.cell? ⟨kx, i, none⟩ = some (.int .i64 ((L[i] : Nat) : Int))) := Lib.hid (by
    have ho := H5.out.2.2
    have hlt := HV0.out.ov.pv.lt
    rcases ho.2 with ⟨_, e0⟩ | ⟨kx, cap, cur, e, hge, _⟩
    · have := HLn.out.1; omega
    · injection e with e _ _
      refine ⟨kx, e, by omega, by omega, fun i hi => ?_⟩
      subst e
      rw [ho.cellAt i (by omega)]
      simp [natsV, hi])
  have HS : Hid (LdS w wx wx g b cv v0 L v0) := Lib.hid ⟨H5.out.1, Vw.Like.refl _, fun k hk hs => by rw [HLL.out]; exact (Vw.mem_order HV0.out.ok home k).2 ⟨hk, hs⟩, Kp.refl _ _⟩
  obtain ⟨kx, rfl, hkg, hkb, hcells⟩ := HX0.out
  have HX : Hid (∀ W', Kp (fun k => k = g ∨ k = b) wx W' → ∀ i (hi : i < L.length), W'.cell? ⟨kx, i, none⟩ = some (.int .i64 ((L[i] : Nat) : Int))) := Lib.hid fun W' hk i hi => cell_kp (p := ⟨kx, i, none⟩) (hcells i hi) hk (fun e => by rcases e with e | e; exact hkg e; exact hkb e)
  obtain ⟨N, hN⟩ : ∃ N, N = L.length := ⟨_, rfl⟩
  have HN := Lib.hid hN
  have hN12 : 0 < N ∧ N ≤ 12 := by rw [hN]; exact HLn.out
  have n0 : ((N : Int) == 0) = false := by simp; omega
  rw [← hN]
  clear HC1 H5 HX0 hkg hkb hcells hN
  go_wp2
  go_loopg [12] N (fun gk a wr => ∃ go : Nat, a = .int .i64 (go : Int) ∧ go + gk = N ∧ ∃ v, Hid (LdS w wx wr g b cv v0 L v))
  case atStart => exact ⟨0, rfl, by omega, v0, HS⟩
  case round =>
    clear HS
    obtain ⟨go, rfl, hgo, v, HI⟩ := hrel
    by_cases hgn : go < N
    · have g1 : (go : Int) < (N : Int) := by omega
      have g0 : ¬ (go : Int) < 0 := by omega
      have ge1 : IntKind.i64.wrap ((go : Int) + 1) = ((go + 1 : Nat) : Int) := by rw [IntKind.wrap_i64]; omega
      obtain ⟨gk1, hgk1⟩ : ∃ z, z = gk := ⟨_, rfl⟩
      subst hgk1
      go_wp2
      go_loopg [13] 2 (fun gk a wr => ∃ t : Nat, a = .int .i64 (t : Int) ∧ t + gk = 2 ∧ ∃ v, Hid (LdS w wx wr g b cv v0 L v ∧ (1 ≤ t → v.Hd L go N)))
      case atStart => exact ⟨0, rfl, rfl, v, Lib.hid ⟨HI.out, fun h => by omega⟩⟩
      case round =>
        clear HI
        obtain ⟨t, rfl, htg, v, HI⟩ := hrel
        by_cases ht2 : t < 2
        · have t1 : (t : Int) < 2 := by omega
          have te1 : IntKind.i64.wrap ((t : Int) + 1) = ((t + 1 : Nat) : Int) := by rw [IntKind.wrap_i64]; omega
          have HC1 := Lib.hid HI.out.1.ob.tick
          go_wp2_with fail
          refine HC1.out.mono ?_
          rintro e wa ⟨rfl, H5⟩
          have HA : Hid (LdS w wx wa g b cv v0 L v.tick) := Lib.hid ⟨H5.out.1, HI.out.1.l.trans (Vw.Like.tick v), HI.out.1.q.tick, HI.out.1.kp.trans H5.out.2⟩
          clear HC1 H5 HI
          obtain ⟨gk2, hgk2⟩ : ∃ z, z = gk := ⟨_, rfl⟩
          subst hgk2
          go_wp2
          go_loopg [14] (N - go) (fun gk a wr => ∃ i : Nat, a = .int .i64 (i : Int) ∧ i + gk = N ∧ go ≤ i ∧ ∃ v, Hid (LdS w wx wr g b cv v0 L v ∧ v.Hd L go i))
          case atStart => exact ⟨go, rfl, by omega, Nat.le_refl _, v.tick, Lib.hid ⟨HA.out, fun i hi h1 h2 => by omega⟩⟩
          case round =>
            clear HA
            obtain ⟨i, rfl, hig, hgi, v, HJ⟩ := hrel
            by_cases hin : i < N
            · have i1 : (i : Int) < (N : Int) := by omega
              have i0 : ¬ (i : Int) < 0 := by omega
              have ie1 : IntKind.i64.wrap ((i : Int) + 1) = ((i + 1 : Nat) : Int) := by rw [IntKind.wrap_i64]; omega
              have hiL : i < L.length := by rw [← HN.out]; exact hin
              have q0 := HX.out wr HJ.out.1.kp i hiL
              have HC2 := Lib.hid (HJ.out.1.ob.hear (L[i] : Nat))
              have HNx : Hid (∀ wf, OB w wf g b cv (v.hearI (L[i] : Nat)) → Kp (fun k => k = g ∨ k = b) wr wf → LdS w wx wf g b cv v0 L (v.hearI (L[i] : Nat)) ∧ (v.hearI (L[i] : Nat)).Hd L go (i + 1)) := Lib.hid fun wf h1 h2 =>
                ⟨⟨h1, HJ.out.1.l.trans (Vw.Like.hearI v _), HJ.out.1.q.hear _ (List.getElem_mem hiL), HJ.out.1.kp.trans h2⟩, HJ.out.2.hear hiL (fun k hk => by rw [HJ.out.1.l.n]; exact HLm.out k hk)⟩
              obtain ⟨x, hx⟩ : ∃ x, x = L[i] := ⟨_, rfl⟩
              rw [← hx] at q0 HC2 HNx
              clear hx
              go_wp2_with fail
              refine HC2.out.mono ?_
              rintro e wf ⟨rfl, H5⟩
              have HM := Lib.hid (HNx.out wf H5.out.1 H5.out.2)
              generalize (if 0 ≤ (x : Int) ∧ (x : Int) < (v.n : Int) then (0 : Int) else 2) = y3
              clear HC2 H5 q0 HNx
              go_wp2
              go_roundg (gk - 1)
              case measure => omega
              case rel => exact ⟨i + 1, by go_num, by omega, by omega, _, HM⟩
            · obtain rfl : i = N := by omega
              have i1 : ¬ (i : Int) < (i : Int) := by omega
              go_wp2
              go_roundg (gk2 - 1)
              case measure => omega
              case rel => exact ⟨t + 1, by go_num, by omega, v, Lib.hid ⟨HJ.out.1, fun _ => HJ.out.2⟩⟩
        · have t1 : ¬ (t : Int) < 2 := by omega
          have ht1 : 1 ≤ t := by omega
          have hgL : go < L.length := by rw [← HN.out]; exact hgn
          have q0 := HX.out wr HI.out.1.kp go hgL
          have hgoup : Hid (v.up.testBit (L[go]) = true) := Lib.hid (by
            have h1 := HI.out.2 ht1 go hgL (Nat.le_refl _) hgn
            have h2 := HLm.out _ (List.getElem_mem hgL)
            have h3 := HI.out.1.ob.ok.p1
            rw [Vw.up_bit, h1, HI.out.1.l.n]
            simp
            omega)
          obtain ⟨xg, hxg⟩ : ∃ xg, xg = L[go] := ⟨_, rfl⟩
          rw [← hxg] at q0
          have HXG := Lib.hid hxg
          clear hxg
          go_upto_block 8 with (fail)
          go_cut [15, 16] from 73 to 91 (fun a _b wz => ∃ x j : Nat, a = .int .i64 (x : Int) ∧ Hid (∃ hj : j < L.length, x = L[j] ∧ v.up.testBit L[j] = true ∧ (∀ i (hi : i < j), v.up.testBit (L[i]'(by omega)) = false) ∧ LdS w wx wz g b cv v0 L v))
          case first =>
            have HI2 := Lib.hid HI.out.1
            clear q0 HI
            go_wp2_with fail
            go_loopg [15, 16] go (fun gk z a wr => ∃ i : Nat, z = .int .i64 (xg : Int) ∧ a = .int .i64 (i : Int) ∧ i + gk = go ∧ Hid (LdS w wx wr g b cv v0 L v ∧ ∀ t (ht : t < L.length), t < i → v.up.testBit L[t] = false))
            case atStart => exact ⟨0, rfl, rfl, by omega, Lib.hid ⟨HI2.out, fun t _ h => by omega⟩⟩
            case round =>
              clear HI2
              obtain ⟨i, rfl, rfl, hig, HJ⟩ := hrel
              by_cases hin : i < go
              · have i1 : (i : Int) < (go : Int) := by omega
                have i2 : (i : Int) < (N : Int) := by omega
                have i0 : ¬ (i : Int) < 0 := by omega
                have ie1 : IntKind.i64.wrap ((i : Int) + 1) = ((i + 1 : Nat) : Int) := by rw [IntKind.wrap_i64]; omega
                have hiL : i < L.length := by rw [← HN.out]; omega
                have q0 := HX.out wr HJ.out.1.kp i hiL
                have HC1 := Lib.hid (HJ.out.1.below (bel_drew (Below.refl _ _))).ob.upC
                have hx32 := Vw.up_lt HJ.out.1.ob.ok
                obtain ⟨x, hx⟩ : ∃ x, x = L[i] := ⟨_, rfl⟩
                obtain ⟨y, hy⟩ : ∃ y, y = v.up := ⟨_, rfl⟩
                rw [← hx] at q0
                rw [← hy] at HC1 hx32
                have HXI := Lib.hid (And.intro hx hy)
                have HX5 : Hid (∀ W', Below wr.drew.heap.size wr.drew W' → W'.cell? ⟨kx, i, none⟩ = some (.int .i64 (x : Int))) := Lib.hid fun W' hb => by rw [hx]; exact HX.out W' (HJ.out.1.kp.trans (Kp.of_below ⟨hb.os, hb.tape, hb.output, hb.size, hb.block⟩)) i hiL
                have HJ5 : Hid (∀ W', Below wr.drew.heap.size wr.drew W' → LdS w wx W' g b cv v0 L v) := Lib.hid fun W' hb => HJ.out.1.below ⟨hb.os, hb.tape, hb.output, hb.size, hb.block⟩
                have hbit := bit_u32 y x (by omega)
                have hx12 : min x 32 = x := by
                  have h1 := HLm.out _ (List.getElem_mem hiL)
                  rw [← hx] at h1
                  have := HV0.out.ok.n12
                  omega
                rw [← hx12] at hbit
                have j5 : IntKind.u64.wrap (x : Int) = (x : Int) := by
                  have h1 := HLm.out _ (List.getElem_mem hiL)
                  rw [← hx] at h1
                  have := HV0.out.ok.n12
                  rw [IntKind.wrap_u64]; omega
                clear hx hy
                cases hup : y.testBit x with
                | true =>
                  have hb : bits .and .u32 ((y : Int) / 2 ^ min x 32) 1 = 1 := by rw [hbit, hx12, hup]; rfl
                  have HUX := Lib.hid hup
                  clear hbit hup hx12
                  go_wp2_with fail
                  go_region_held3 (fun w' => w'.cell? ⟨kx, i, none⟩ = some (.int .i64 (x : Int))) (first | exact q0 | exact c1 | go_keep) (first | (go_at_call 19; refine HC1.out.mono ?_; rintro e w5 ⟨rfl, H5⟩; have c1 := HX5.out w5 H5.out.2))
                  go_wp2
                  go_meet
                  exact ⟨x, i, rfl, Lib.hid ⟨hiL, HXI.out.1, by rw [← HXI.out.1, ← HXI.out.2]; exact HUX.out, fun t ht => HJ.out.2 t (by omega) ht, HJ5.out w5 H5.out.2⟩⟩
                | false =>
                  have hb : bits .and .u32 ((y : Int) / 2 ^ min x 32) 1 = 0 := by rw [hbit, hx12, hup]; rfl
                  have HUX := Lib.hid hup
                  clear hbit hup hx12
                  go_wp2_with fail
                  go_region_held3 (fun w' => w'.cell? ⟨kx, i, none⟩ = some (.int .i64 (x : Int))) (first | exact q0 | exact c1 | go_keep) (first | (go_at_call 19; refine HC1.out.mono ?_; rintro e w5 ⟨rfl, H5⟩; have c1 := HX5.out w5 H5.out.2))
                  have HM : Hid (LdS w wx w5 g b cv v0 L v ∧ ∀ t (ht : t < L.length), t < i + 1 → v.up.testBit L[t] = false) := Lib.hid ⟨HJ5.out w5 H5.out.2, fun t ht hti => by
                    by_cases e : t = i
                    · subst e; rw [← HXI.out.1, ← HXI.out.2]; exact HUX.out
                    · exact HJ.out.2 t ht (by omega)⟩
                  go_wp2
                  go_roundg (gk - 1)
                  case measure => omega
                  case rel => exact ⟨i + 1, rfl, by go_num, by omega, HM⟩
              · obtain rfl : i = go := by omega
                have i1 : ¬ (i : Int) < (i : Int) := by omega
                go_wp2_with fail
                go_meet
                exact ⟨xg, i, rfl, Lib.hid ⟨hgL, HXG.out, hgoup.out, fun t ht => HJ.out.2 t (by omega) ht, HJ.out.1⟩⟩
          case rest =>
            obtain ⟨x, j, rfl, HZ⟩ := hcut
            have HC1 : Hid (Calls Tryd.prog 26 #[.pointer (some ⟨g, 0, none⟩), .int .i64 home] wc fun e w' => e = .returned (.int .i64 (x : Int)) ∧ Hid (LdS w wx w' g b cv v0 L v)) := Lib.hid (by
              obtain ⟨hj, hx, h1, h2, hS⟩ := HZ.out
              have hlead : v.lead home = x := by
                have hLe := HLL.out
                subst hLe
                rw [hx]
                exact Vw.lead_at HV0.out.ok hS.ob.ok hS.l home hS.q j hj h1 h2
              refine (hS.ob.lead HT.out home).mono ?_
              rintro e w' ⟨rfl, H5⟩
              exact ⟨by rw [hlead], Lib.hid (hS.below H5.out.2)⟩)
            have hxx : ((x : Int) == (x : Int)) = true := by simp
            clear HZ HI q0
            go_wp2_with fail
            refine HC1.out.mono ?_
            rintro e wf ⟨rfl, H5⟩
            clear HC1
            go_wp2
            go_roundg (gk1 - 1)
            case measure => omega
            case rel => exact ⟨go + 1, by go_num, by omega, v, H5⟩
    · obtain rfl : go = N := by omega
      have g1 : ¬ (go : Int) < (go : Int) := by omega
      have HK := Lib.hid (known14_any wr (HT.out.below HI.out.ob.bel HT.out.lt))
      go_wp2_with fail
      refine HK.out.mono ?_
      rintro e w7 ⟨rfl, hb7⟩
      have HB7 : Hid (Below w.heap.size w w7) := Lib.hid (HI.out.ob.bel.trans (hb7.mono HI.out.ob.bel.size))
      clear hb7
      go_wp2
      go_ret
      exact ⟨rfl, HB7.out⟩

namespace beatLeads
set_option maxRecDepth 100000 in
theorem lifted (os : Os) (started : os.Started) (H : Type) (enc : TypeId × Value → H) (F : Stop.Interp) :
    ReturnsInHanded {} Tryd.checked os 8 .any ((OpenSpec.ofChange Rows.beatLeadsSpec).preRow enc Tryd.prog Tryd.f8 Rows.beatLeadsRow.domain false Rows.beatLeadsRow.laid) (((OpenSpec.ofChange Rows.beatLeadsSpec).at F).post enc Tryd.prog Tryd.f8 false true false false) := by
  have hs : (DataW.whole enc Tryd.prog ((laidWorld os).forCall (fun _ _ => 0) ⟨#[], #[.slice none 0 0, .int .i64 0, .slice none 0 0, .int .i64 0], []⟩).memory Tryd.f8.params.toList Rows.beatLeadsSpec.vars false (#[.slice none 0 0, .int .i64 0, .slice none 0 0, .int .i64 0] : Array Value).toList 8).isSome = true := by kernel_rfl
  obtain ⟨x, hx⟩ := Option.isSome_iff_exists.1 hs
  have hmet : laidMet Tryd.prog tabL ((laidWorld os).forCall (fun _ _ => 0) ⟨#[], #[.slice none 0 0, .int .i64 0, .slice none 0 0, .int .i64 0], []⟩).memory := laidMet_of_run' 8 (by kernel_rfl) (by kernel_rfl)
  refine law_lift_tab started (by kernel_rfl) Tryd.func8
    (witness_row_at (enc := enc) (C := Tryd.checked) false (laidWorld os) #[.slice none 0 0, .int .i64 0, .slice none 0 0, .int .i64 0] rfl (by kernel_rfl) (by kernel_rfl) (by kernel_rfl)
      (OpenSpec.preRow_of_cond 8 hx (by kernel_rfl) (fun k hk => by cases hk) (by kernel_rfl) hmet))
    rfl ?_ (by kernel_rfl) (by kernel_rfl) ?_
  · intro ds h
    match ds, h with
    | [_, _, _, _], _ => rfl
  intro W base args ds p g hTz
  have hA := g.trod
  have hval := g.val
  rw [Tryd.params8] at hA hval
  obtain ⟨v0, vs0, d0, ds0, p0, q0, hargs, rfl, rfl, h0, r0⟩ := trodAll_cons hA
  obtain ⟨v1, vs1, d1, ds1, p1, q1, rfl, rfl, rfl, h1, r1⟩ := trodAll_cons r0
  obtain ⟨v2, vs2, d2, ds2, p2, q2, rfl, rfl, rfl, h2, r2⟩ := trodAll_cons r1
  obtain ⟨v3, vs3, d3, ds3, p3, q3, rfl, rfl, rfl, h3, r3⟩ := trodAll_cons r2
  obtain ⟨rfl, rfl, rfl⟩ := trodAll_nil r3
  obtain rfl : args = #[v0, v1, v2, v3] := by cases args; simp_all
  obtain ⟨A0, n0, c0, l0, rfl, hc0, hm0, hr0⟩ := given_ints (hval 0 22 v0 rfl rfl) h0
  obtain ⟨a1, rfl, _, _, w1⟩ := open_int Tryd.underlying3 (hval 1 3 v1 rfl rfl) h1
  have b1 := bounds_i64 w1
  obtain ⟨A2, n2, c2, l2, rfl, hc2, hm2, hr2⟩ := given_ints (hval 2 22 v2 rfl rfl) h2
  obtain ⟨a3, rfl, _, _, w3⟩ := open_int Tryd.underlying3 (hval 3 3 v3 rfl rfl) h3
  have b3 := bounds_i64 w3
  exact beatLeads_walk A0 n0 c0 l0 a1 A2 n2 c2 l2 a3 W hc0 hm0 hr0 b1.1 b1.2 hc2 hm2 hr2 b3.1 b3.2 hTz

theorem said : Rows.BeatLeadsSaid :=
  OpenClaim.holds_of_cond 8 Tryd.f8 rfl rfl rfl rfl rfl rfl rfl ⟨rfl, rfl, rfl, rfl, rfl⟩ rfl rfl rfl rfl rfl (by kernel_rfl) Tryd.func8 (by kernel_rfl)
    (of_decide_eq_true (by kernel_rfl)) (by unfold Func.isWrapper; first | (rw [if_pos (by decide +kernel)]; kernel_rfl) | (rw [if_neg (by decide +kernel)]; exact ⟨rfl, rfl⟩))
    (fun os started H enc _ F => by rw [OpenClaim.pre_eq_preRow]; exact lifted os started H enc F)
/-- No parameter wants a stand-in; the program's own looks are off. -/
theorem plain (f : FuncId) (fn : Func) (hf : Tryd.pinned.checked.prog.funcNamed "seawall/seawalllaw14.BeatLeads" = some f) (hfn : Tryd.pinned.checked.prog.funcs[f]? = some fn) :
    false = Tryd.pinned.checked.prog.looks [] ∧ ∀ (j : Nat) t, fn.params[j]? = some t → Tryd.pinned.checked.prog.wantsStandIn t = false := by
  obtain rfl : f = 8 := Option.some.inj ((show Tryd.prog.funcNamed "seawall/seawalllaw14.BeatLeads" = some 8 by kernel_rfl).symm.trans hf) |>.symm
  obtain rfl : fn = Tryd.f8 := (Option.some.inj (Tryd.func8.symm.trans hfn)).symm
  refine ⟨by kernel_rfl, fun j t ht => ?_⟩
  rw [Tryd.params8] at ht
  have hm : t ∈ [22, 3, 22, 3] := by simpa using Array.mem_of_getElem? ht
  have hall : ([22, 3, 22, 3].all fun u => !Tryd.prog.wantsStandIn u) = true := by kernel_rfl
  exact (show Tryd.prog.wantsStandIn t = false by simpa using List.all_eq_true.1 hall t hm)
end beatLeads

theorem BeatLeads_proved : Rows.BeatLeadsCardSaid :=
  Claim7.holds_tied_plain_at .later [] _ _ _ _ beatLeads.said (fun _ h => by cases h) (by kernel_rfl) (fun _ h => by cases h) beatLeads_row_tie rfl ⟨rfl, rfl⟩ (by kernel_rfl) rfl beatLeads.plain (by kernel_rfl)
#print axioms BeatLeads_proved
end Go.Proofs.YtmdjdnibblebcaaDoor
