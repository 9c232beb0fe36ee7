/- FrameBack is true at every slice of frames and every number. Conditions: none. -/
import Derived.Test.YtbkbmmpcjpkkaaaGivenFrames
import Derived.Test.YtbkbmmpcjpkkaaaPutAny
import Derived.Test.YtbkbmmpcjpkkaaaBackF
import Derived.Test.YtbkbmmpcjpkkaaaAppend2
import Derived.Test.YtbkbmmpcjpkkaaaLent2
import Derived.Deep.RegionHeld3
namespace Go.Proofs.Ytbkbmmpcjpkkaaa
open Go.ChangeShapes Go.WideShapes Go.ChangeAt Go.RowKit

theorem Try.infoInt : (Try.prog.info? 3).map (fun i => (i.zero, i.size, i.bytes)) = some (some (.int .i64 0), 1, 8) := by kernel_rfl
theorem FrRd.firsts {w : World} {B k N : Nat} {A : Option Addr} {fs : List Fr} (h : FrRd w B A k fs) (hN : N ≤ k) : FrRd w B A N (fs.take N) := by
  refine ⟨by rw [List.length_take, h.1]; omega, fun i hi => ?_⟩
  have hi' : i < fs.length := by rw [List.length_take] at hi; omega
  have := h.2 i hi'
  simpa [List.getElem_take] using this
/-- Where the frames end, as cells. -/
def endsC (fs : List Fr) (k : Nat) : List Value := (List.range k).map fun i => .int .i64 ((preF fs (i + 1) : Nat) : Int)
theorem endsC_succ (fs : List Fr) (k : Nat) : endsC fs (k + 1) = endsC fs k ++ [.int .i64 ((preF fs (k + 1) : Nat) : Int)] := by simp [endsC, List.range_succ]
theorem endsC_at (fs : List Fr) (k i : Nat) (h : i < k) : (endsC fs k)[i]? = some (.int .i64 ((preF fs (i + 1) : Nat) : Int)) := by simp [endsC, h]

/-- The first cells of an owned row read as the first bytes. -/
theorem Rd.firsts {w : World} {B n k : Nat} {A : Option Addr} {l : List UInt8} (h : Rd w B A n l) (hk : k ≤ n) : Rd w B A k (l.take k) := by
  rcases Nat.eq_zero_or_pos k with h0 | h0
  · subst h0
    exact Rd.nil _ _ _
  · obtain ⟨b, o, rfl, _⟩ := h.2 (by omega)
    have := h.part (i := 0) (k := k) (by omega)
    simpa using this

set_option maxHeartbeats 8000000 in
set_option maxRecDepth 100000 in
theorem frameBack_walk (A : Option Addr) (n c : Nat) (fs : List Fr) (cut : Int) (w : World) (hc : n ≤ c) (hm : c ≤ 9223372036854775807) (h : FrRd w w.heap.size A n fs) (hcut1 : -9223372036854775808 ≤ cut) (hcut2 : cut ≤ 9223372036854775807) :
    Calls Try.prog 6 #[.slice A n c, .int .i64 cut] w fun e w' => e = .returned (.bool true) ∧ Below w.heap.size w w' := by
  have KW : Hid (∀ W, Calls Try.prog 10 #[] W fun e w' => e = .returned (.bool true) ∧ Below W.heap.size W w') := Lib.hid known_any
  by_cases hbig : 20 < n
  · go_enter Try.func6, Try.ntmps6
    go_wp2_with fail
    refine (KW.out _).mono ?_
    rintro e w' ⟨rfl, hb⟩
    go_wp2
    go_ret
    exact ⟨rfl, hb⟩
  · obtain ⟨i0, hi0, hz0, hz1, hz2⟩ := info_parts Try.infoU8
    obtain ⟨i1, hi1, hy0, hy1, hy2⟩ := info_parts Try.infoInt
    have HL := Lib.hid h.1
    have H := Lib.hid h
    clear h
    go_enter Try.func6, Try.ntmps6
    go_wp2_with fail
    go_loopg [5, 6, 7] n (fun g bv ev i wr => ∃ (k : Nat) (B E : Value), bv = B ∧ ev = E ∧ i = .int .i64 k ∧ k + g = n ∧ Hid (wr.ownsRow w.heap.size 5 1 B (preF fs k) (u8s ((fs.take k).flatMap putF))) ∧ Hid (wr.ownsRow w.heap.size 3 1 E k (endsC fs k)) ∧ Hid (∀ j (hj : j < fs.length), j < k → fs[j].2.length ≤ 1024) ∧ Hid (Below w.heap.size w wr))
    case atStart => exact ⟨0, _, _, rfl, rfl, rfl, by omega, Lib.hid (by rw [preF_zero]; exact World.ownsRow_nil _ _ _ _), World.ownsRow_nil _ _ _ _, Lib.hid (fun j _ hj => absurd hj (by omega)), Below.refl _ _⟩
    case round =>
      obtain ⟨k, B, E, rfl, rfl, rfl, hk, HB, HE, Hall, Hbel⟩ := hrel
      obtain ⟨Ab, cb, rfl, hcb1, hcb2⟩ := own_shape HB.out
      obtain ⟨Ae, ce, rfl, hce1, hce2⟩ := own_shape HE.out
      have hpre := preF_small fs k (by rw [HL.out]; omega) fun j hj => Hall.out j (by rw [HL.out]; omega) hj
      by_cases hkn : k < n
      · obtain ⟨b0, o0, A1, n1, c1, rfl, hlt, X0, X1, hn1, hm1, r1⟩ := H.out.2 k (by rw [HL.out]; exact hkn)
        have hps := preF_succ fs k (by rw [HL.out]; exact hkn)
        have htk : (fs.take (k + 1)).flatMap putF = (fs.take k).flatMap putF ++ putF (fs[k]'(by rw [HL.out]; exact hkn)) := by
          rw [List.take_succ_eq_append_getElem (by rw [HL.out]; exact hkn), List.flatMap_append]
          simp
        have hallk : ∀ hf : (fs[k]'(by rw [HL.out]; exact hkn)).2.length ≤ 1024, Hid (∀ j (hj : j < fs.length), j < k + 1 → fs[j].2.length ≤ 1024) := fun hf => Lib.hid fun j hj hjk => by
          by_cases e : j = k
          · subst e; exact hf
          · exact Hall.out j hj (by omega)
        generalize fs[k]'(by rw [HL.out]; exact hkn) = f at *
        have hfl := r1.1
        have c0 := (Hbel.out.cell (p := ⟨b0, o0 + k * 2, none⟩) hlt).trans X0
        have c1' := (Hbel.out.cell (p := ⟨b0, o0 + k * 2 + 1, none⟩) hlt).trans X1
        have HC : Hid (∀ W, Below w.heap.size w W → Calls Try.prog 14 #[.int .u8 (f.1.toNat : Int), .slice A1 n1 c1] W fun e w' => ∃ v, e = .returned (.tuple #[v, .int .i64 ((putA f.1 f.2).2 : Nat)]) ∧ w'.ownsRow W.heap.size 5 1 v (putA f.1 f.2).1.length (u8s (putA f.1 f.2).1) ∧ Below W.heap.size W w') := Lib.hid fun W hW => framePut_any f.1 A1 n1 c1 f.2 W hn1 hm1 (r1.up hW)
        have HBd : Hid (∀ q, Below w.heap.size w (wr.drewN q)) := Lib.hid fun q => bel_drewN Hbel.out q
        have Hps := Lib.hid hps
        have Htk := Lib.hid htk
        have hpu : putA f.1 f.2 = if f.2.length ≤ 1024 then (putF f, 0) else ([], 3) := rfl
        have g1 : (k : Int) < (n : Int) := by omega
        clear r1 hps htk
        by_cases hlong : n1 ≤ 1024
        · rw [if_pos (by rw [hfl]; exact hlong)] at hpu
          rw [hpu] at HC
          simp only [putF_len, hfl] at HC
          have gl : (n1 : Int) ≤ 1024 := by omega
          have Hal := hallk (by rw [hfl]; exact hlong)
          clear hpu hallk
          go_wp2_with fail
          go_region_held3 (fun w' => w'.cell? ⟨b0, o0 + k * 2, none⟩ = some (.int .u8 (f.1.toNat : Int)) ∧ w'.cell? ⟨b0, o0 + k * 2 + 1, none⟩ = some (.slice A1 n1 c1)) (first | exact ⟨c0, c1'⟩ | exact ⟨k0, k1⟩ | go_keep)
            (first | (go_at_call 14; refine (HC.out _ (HBd.out 1)).mono ?_; rintro e' w2 ⟨v, rfl, ho, hb⟩; obtain ⟨Ap, cp, rfl, _⟩ := own_shape ho; have Ho := Lib.hid ho; have Hb := Lib.hid hb; have Hb2 := Lib.hid ((HBd.out 1).trans (hb.mono (HBd.out 1).size)); have k0 := (Hb2.out.cell (p := ⟨b0, o0 + k * 2, none⟩) hlt).trans X0; have k1 := (Hb2.out.cell (p := ⟨b0, o0 + k * 2 + 1, none⟩) hlt).trans X1; clear ho hb))
          have HB2 := Lib.hid (own_below (show (wr.drewN 1).ownsRow w.heap.size 5 1 (.slice Ab (preF fs k) cb) (preF fs k) (u8s ((fs.take k).flatMap putF)) from HB.out) Hb.out fun k hk => (HB.out.lt k hk).2)
          have HE2 := Lib.hid (own_below (show (wr.drewN 1).ownsRow w.heap.size 3 1 (.slice Ae k ce) k (endsC fs k) from HE.out) Hb.out fun k hk => (HE.out.lt k hk).2)
          have hs2 := Hb2.out.size
          have HP := Lib.hid (Rd.of_own Ho.out)
          have hPn := HP.out.none_zero
          have hPl := HP.out.1
          clear Ho Hb HB HE c0 c1' HC HBd
          go_wp2_with (at_builtin; go_loud (refine wpList_append_app _ rfl _ _ 22 rfl w.heap.size 5 i0 (.int .u8 0) 1 1 Try.underlying22 hi0 hz0 hz1 hz2 rfl _ _ _ rfl HB2.out Ap (10 + n1) cp (u8s (putF f)) rfl (by rw [u8s_len, hPl, Nat.mul_one]) hPn HP.out.cells (u8s_one _) (by unfold maxLen; omega) (by omega) hs2 ?_))
          intro v3 w3 ha
          have hfn : preF fs k + (10 + n1) = preF fs (k + 1) := by rw [Hps.out, hfl]
          have HB3 : Hid (w3.ownsRow w.heap.size 5 1 v3 (preF fs (k + 1)) (u8s ((fs.take (k + 1)).flatMap putF))) := Lib.hid (by rw [Htk.out, u8s_append, ← hfn]; exact ha.own)
          have HE3 := Lib.hid (ha.other HE2.out (own_types_ne HE2.out HB2.out (by decide)))
          have Hb3 := Lib.hid (ha.below Hb2.out hs2 (own_block_ge HB2.out))
          have hs3 := Hb3.out.size
          obtain ⟨A3, c3, rfl, hc3, hc3m⟩ := own_shape HB3.out
          have hps1 : preF fs (k + 1) ≤ 30000 := by omega
          have hwr : IntKind.i64.wrap ((preF fs (k + 1) : Nat) : Int) = ((preF fs (k + 1) : Nat) : Int) := by rw [IntKind.wrap_i64]; omega
          clear ha HB2 HE2 Hb2 HP hPn hPl k0 k1
          go_wp2_with (at_builtin; go_loud (refine wpList_append_app _ rfl _ _ 52 rfl w.heap.size 3 i1 (.int .i64 0) 1 8 Try.underlying52 hi1 hy0 hy1 hy2 rfl _ _ _ rfl (HE3.out.alloc _) (some ⟨w3.heap.size, 0, none⟩) 1 1 [.int .i64 ((preF fs (k + 1) : Nat) : Int)] rfl rfl (by intro e; cases e) (one_new _ _ _ rfl) (by intro u hu; simp at hu; subst hu; rfl) (by unfold maxLen; omega) (by omega) (by simp; omega) ?_))
          intro v4 w4 ha
          have HE4 : Hid (w4.ownsRow w.heap.size 3 1 v4 (k + 1) (endsC fs (k + 1))) := Lib.hid (by rw [endsC_succ]; exact ha.own)
          have HB4 := Lib.hid (ha.other (HB3.out.alloc _) (own_types_ne HB3.out HE3.out (by decide)))
          have Hb4 := Lib.hid (ha.below (Hb3.out.alloc hs3 _) (by simp; omega) (own_block_ge HE3.out))
          clear ha HB3 HE3 Hb3
          go_wp2
          go_roundg (gk - 1)
          case measure => omega
          case rel => exact ⟨k + 1, _, v4, rfl, rfl, by go_num, by omega, HB4, HE4, Hal, Hb4⟩
        · rw [if_neg (by rw [hfl]; exact hlong)] at hpu
          rw [hpu] at HC
          have gl : ¬ ((n1 : Int) ≤ 1024) := by omega
          clear hpu hallk
          go_wp2_with fail
          go_region_held3 (fun w' => w'.cell? ⟨b0, o0 + k * 2, none⟩ = some (.int .u8 (f.1.toNat : Int)) ∧ w'.cell? ⟨b0, o0 + k * 2 + 1, none⟩ = some (.slice A1 n1 c1)) (first | exact ⟨c0, c1'⟩ | exact ⟨k0, k1⟩ | go_keep)
            (first | (go_at_call 14; refine (HC.out _ (HBd.out 1)).mono ?_; rintro e' w2 ⟨v, rfl, ho, hb⟩; obtain ⟨Ap, cp, rfl, _⟩ := own_shape ho; have Ho := Lib.hid ho; have Hb := Lib.hid hb; have Hb2 := Lib.hid ((HBd.out 1).trans (hb.mono (HBd.out 1).size)); have k0 := (Hb2.out.cell (p := ⟨b0, o0 + k * 2, none⟩) hlt).trans X0; have k1 := (Hb2.out.cell (p := ⟨b0, o0 + k * 2 + 1, none⟩) hlt).trans X1; clear ho hb))
          clear Ho Hb HB HE c0 c1' HC HBd
          go_wp2_with fail
          refine (KW.out _).mono ?_
          rintro e' w' ⟨rfl, hk⟩
          have := Lib.hid (Hb2.out.trans (hk.mono Hb2.out.size))
          clear hk
          go_wp2
          go_ret
          exact ⟨rfl, this.out⟩
      · have hkn2 : k = n := by omega
        subst hkn2
        have hfl : fs.take k = fs := List.take_of_length_le (by rw [HL.out]; omega)
        rw [hfl] at HB
        have hcl : (endsC fs k).length = k := by simp [endsC]
        have hLmono : ∀ i, i < k → preF fs (i + 1) ≤ preF fs k := fun i hi => preF_mono fs _ _ (by omega) (by rw [HL.out]; omega)
        have HLm := Lib.hid hLmono
        have Hall2 : Hid (∀ f ∈ fs, f.2.length ≤ 1024) := Lib.hid fun f hf => by
          obtain ⟨j, hj, rfl⟩ := List.mem_iff_getElem.1 hf
          exact Hall.out j hj (by rw [HL.out] at hj; exact hj)
        generalize hLe : preF fs k = L at *
        obtain ⟨C, hCL, hC⟩ : ∃ C : Nat, C ≤ L ∧ ((cut < 0 ∨ (L : Int) < cut) ∧ C = L ∨ ¬ (cut < 0 ∨ (L : Int) < cut) ∧ cut = (C : Int)) := by
          by_cases hx : cut < 0 ∨ (L : Int) < cut
          · exact ⟨L, Nat.le_refl _, .inl ⟨hx, rfl⟩⟩
          · exact ⟨cut.toNat, by omega, .inr ⟨hx, by omega⟩⟩
        have HRb := Lib.hid ((Rd.of_own HB.out).firsts (k := C) (by omega))
        have hcbm : cb ≤ 9223372036854775807 := by unfold maxLen at hcb2; omega
        -- the ends, as the second loop reads them
        have HEc : Hid (∀ i, i < k → ∃ ge, Ae = some ⟨ge, 0, none⟩ ∧ ge < wr.heap.size ∧ wr.cell? ⟨ge, i, none⟩ = some (.int .i64 ((preF fs (i + 1) : Nat) : Int))) := Lib.hid fun i hi => by
          rcases HE.out.2 with ⟨_, h0⟩ | ⟨ge, cap, cur, hv, _, hh, _⟩
          · omega
          · have hA : Ae = some ⟨ge, 0, none⟩ := by injection hv
            subst hA
            refine ⟨ge, rfl, (Array.getElem?_eq_some_iff.1 hh).1, ?_⟩
            have := HE.out.cells (g := ge) rfl i _ (endsC_at fs k i hi)
            rwa [Addr.add_lit, Nat.zero_add] at this
        have HEd0 : Hid (∀ N w2, Below wr.heap.size wr w2 → 0 < N → N ≤ k → ∃ ge, Ae = some ⟨ge, 0, none⟩ ∧ w2.cell? ⟨ge, N - 1, none⟩ = some (.int .i64 ((preF fs N : Nat) : Int))) := Lib.hid fun N w2 hb h0 hN => by
          obtain ⟨ge, h1, h2, h3⟩ := HEc.out (N - 1) (by omega)
          refine ⟨ge, h1, ?_⟩
          rw [show N - 1 + 1 = N by omega] at h3
          exact (hb.cell (p := ⟨ge, N - 1, none⟩) h2).trans h3
        clear HE hLmono Hall hcl HB
        have hw2 : ∀ N, N ≤ k → (∀ i, i < N → preF fs (i + 1) ≤ C) → (N = k ∨ C < preF fs (N + 1)) → scanF ((fs.flatMap putF).take C) = (fs.take N, preF fs N) := fun N hN h1 h2 => by
          have hw := wholeF_is fs C N (by rw [HL.out]; exact hN) h1 (by rw [HL.out]; exact h2)
          rw [scanF_put fs C Hall2.out, hw]
        have HW2 := Lib.hid hw2
        have CSc : Hid (∀ N, N ≤ k → (∀ i, i < N → preF fs (i + 1) ≤ C) → (N = k ∨ C < preF fs (N + 1)) → Calls Try.prog 24 #[.slice Ab C cb] wr fun e w' => ∃ Am cm, e = .returned (.tuple #[.slice Am N cm, .int .i64 (preF fs N : Nat)]) ∧ N ≤ cm ∧ cm ≤ 9223372036854775807 ∧ FrRd w' w'.heap.size Am N (fs.take N) ∧ Below wr.heap.size wr w') := Lib.hid fun N hN h1 h2 => by
          have := frameScan_any Ab C cb ((fs.flatMap putF).take C) wr (by omega) (by omega) hcbm HRb.out
          rw [HW2.out N hN h1 h2] at this
          refine this.mono ?_
          rintro e w' ⟨v, vals, rfl, hf, hb⟩
          have hlN : (fs.take N).length = N := by rw [List.length_take, HL.out]; omega
          obtain ⟨Am, cm, rfl, hm1, hm2⟩ := own_shape hf.row
          rw [hlN] at hm1
          have hrd := hf.rd
          simp only [hlN] at hrd ⊢
          exact ⟨Am, cm, rfl, hm1, by unfold maxLen at hm2; omega, hrd, hb⟩
        clear hw2 HRb Hall2
        rcases hC with ⟨hx, hCe⟩ | ⟨hx, hCe⟩
        · subst hCe
          by_cases h0 : cut < 0
          · go_wp2_with fail
            go_loopg [10] k (fun g r wx => ∃ (N : Nat), r = .int .i64 N ∧ N + g = k ∧ Hid (∀ i, i < N → preF fs (i + 1) ≤ C) ∧ wr = wx)
            case atStart => exact ⟨0, rfl, by omega, Lib.hid (fun i hi => absurd hi (by omega)), rfl⟩
            case round =>
              obtain ⟨N, rfl, hN, HN, rfl⟩ := hrel
              by_cases hNk : N < k
              · obtain ⟨ge, rfl, hge, hcell⟩ := HEc.out N hNk
                have hps := HLm.out N hNk
                by_cases hgo : preF fs (N + 1) ≤ C
                · have hstep : Hid (∀ i, i < N + 1 → preF fs (i + 1) ≤ C) := Lib.hid fun i hi => by
                    by_cases e : i = N
                    · subst e; exact hgo
                    · exact HN.out i (by omega)
                  generalize preF fs (N + 1) = pn at *
                  go_wp2_with fail
                  go_roundg (gk - 1)
                  case measure => omega
                  case rel => exact ⟨N + 1, by go_num, by omega, hstep, rfl⟩
                · exact absurd hps hgo
              · have CS1 := Lib.hid (CSc.out N (by omega) HN.out (.inl (by omega)))
                go_wp2_with fail
                refine CS1.out.mono ?_
                rintro e w2 ⟨Am, cm, rfl, hm1, hm2, hrd, hb⟩
                have HF1 := H.out.firsts (N := N) (by omega)
                have hbw := Hbel.out.trans (hb.mono Hbel.out.size)
                have HB2 := Lib.hid hbw
                have SM := frSame_any Am A N cm N c _ _ (fs.take N) (fs.take N) w2 hm1 hm2 (by omega) hm hrd (HF1.below hbw)
                have hqq : (fs.take N == fs.take N) = true := by simp
                rw [hqq] at SM
                have HSM := Lib.hid SM
                have HEd := Lib.hid (HEd0.out N w2 hb)
                clear hb hrd HF1 hbw SM hqq CS1 CSc HW2
                have gN1 : (N : Int) ≤ (c : Int) := by omega
                have gN2 : N ≤ c := by omega
                by_cases hN0 : N = 0
                · subst hN0
                  rw [preF_zero] at *
                  go_wp2_with fail
                  refine HSM.out.mono ?_
                  rintro e w3 ⟨rfl, q, rfl⟩
                  go_wp2_with fail
                  refine (KW.out _).mono ?_
                  rintro e w4 ⟨rfl, hk4⟩
                  have Hb4 := Lib.hid ((bel_drewN HB2.out q).trans (hk4.mono HB2.out.size))
                  clear hk4
                  go_wp2
                  go_ret
                  exact ⟨rfl, Hb4.out⟩
                · obtain ⟨ge', hge', hcell'⟩ := HEd.out (by omega) (by omega)
                  first | subst hge' | (injection hge' with hge'; injection hge' with hge'; subst hge')
                  have gw : IntKind.i64.wrap ((N : Int) - 1) = (N : Int) - 1 := by rw [IntKind.wrap_i64]; omega
                  have gn1 : ((N : Int) - 1).toNat = N - 1 := by omega
                  have gn2 : (0 : Int) ≤ (N : Int) - 1 := by omega
                  have gn3 : (N : Int) - 1 < (k : Int) := by omega
                  have gn4 : (0 : Int) < (N : Int) := by omega
                  generalize preF fs N = pN at *
                  go_wp2_with fail
                  refine HSM.out.mono ?_
                  rintro e w3 ⟨rfl, q, rfl⟩
                  go_wp2_with fail
                  refine (KW.out _).mono ?_
                  rintro e w4 ⟨rfl, hk4⟩
                  have Hb4 := Lib.hid ((bel_drewN HB2.out q).trans (hk4.mono HB2.out.size))
                  clear hk4
                  go_wp2
                  go_ret
                  exact ⟨rfl, Hb4.out⟩
          · have gx2 : (C : Int) < cut := by omega
            go_wp2_with fail
            go_loopg [10] k (fun g r wx => ∃ (N : Nat), r = .int .i64 N ∧ N + g = k ∧ Hid (∀ i, i < N → preF fs (i + 1) ≤ C) ∧ wr = wx)
            case atStart => exact ⟨0, rfl, by omega, Lib.hid (fun i hi => absurd hi (by omega)), rfl⟩
            case round =>
              obtain ⟨N, rfl, hN, HN, rfl⟩ := hrel
              by_cases hNk : N < k
              · obtain ⟨ge, rfl, hge, hcell⟩ := HEc.out N hNk
                have hps := HLm.out N hNk
                by_cases hgo : preF fs (N + 1) ≤ C
                · have hstep : Hid (∀ i, i < N + 1 → preF fs (i + 1) ≤ C) := Lib.hid fun i hi => by
                    by_cases e : i = N
                    · subst e; exact hgo
                    · exact HN.out i (by omega)
                  generalize preF fs (N + 1) = pn at *
                  go_wp2_with fail
                  go_roundg (gk - 1)
                  case measure => omega
                  case rel => exact ⟨N + 1, by go_num, by omega, hstep, rfl⟩
                · exact absurd hps hgo
              · have CS1 := Lib.hid (CSc.out N (by omega) HN.out (.inl (by omega)))
                go_wp2_with fail
                refine CS1.out.mono ?_
                rintro e w2 ⟨Am, cm, rfl, hm1, hm2, hrd, hb⟩
                have HF1 := H.out.firsts (N := N) (by omega)
                have hbw := Hbel.out.trans (hb.mono Hbel.out.size)
                have HB2 := Lib.hid hbw
                have SM := frSame_any Am A N cm N c _ _ (fs.take N) (fs.take N) w2 hm1 hm2 (by omega) hm hrd (HF1.below hbw)
                have hqq : (fs.take N == fs.take N) = true := by simp
                rw [hqq] at SM
                have HSM := Lib.hid SM
                have HEd := Lib.hid (HEd0.out N w2 hb)
                clear hb hrd HF1 hbw SM hqq CS1 CSc HW2
                have gN1 : (N : Int) ≤ (c : Int) := by omega
                have gN2 : N ≤ c := by omega
                by_cases hN0 : N = 0
                · subst hN0
                  rw [preF_zero] at *
                  go_wp2_with fail
                  refine HSM.out.mono ?_
                  rintro e w3 ⟨rfl, q, rfl⟩
                  go_wp2_with fail
                  refine (KW.out _).mono ?_
                  rintro e w4 ⟨rfl, hk4⟩
                  have Hb4 := Lib.hid ((bel_drewN HB2.out q).trans (hk4.mono HB2.out.size))
                  clear hk4
                  go_wp2
                  go_ret
                  exact ⟨rfl, Hb4.out⟩
                · obtain ⟨ge', hge', hcell'⟩ := HEd.out (by omega) (by omega)
                  first | subst hge' | (injection hge' with hge'; injection hge' with hge'; subst hge')
                  have gw : IntKind.i64.wrap ((N : Int) - 1) = (N : Int) - 1 := by rw [IntKind.wrap_i64]; omega
                  have gn1 : ((N : Int) - 1).toNat = N - 1 := by omega
                  have gn2 : (0 : Int) ≤ (N : Int) - 1 := by omega
                  have gn3 : (N : Int) - 1 < (k : Int) := by omega
                  have gn4 : (0 : Int) < (N : Int) := by omega
                  generalize preF fs N = pN at *
                  go_wp2_with fail
                  refine HSM.out.mono ?_
                  rintro e w3 ⟨rfl, q, rfl⟩
                  go_wp2_with fail
                  refine (KW.out _).mono ?_
                  rintro e w4 ⟨rfl, hk4⟩
                  have Hb4 := Lib.hid ((bel_drewN HB2.out q).trans (hk4.mono HB2.out.size))
                  clear hk4
                  go_wp2
                  go_ret
                  exact ⟨rfl, Hb4.out⟩
        · have gx1 : ¬ (cut < 0) := by omega
          have gx2 : ¬ ((L : Int) < cut) := by omega
          subst hCe
          go_wp2_with fail
          go_loopg [10] k (fun g r wx => ∃ (N : Nat), r = .int .i64 N ∧ N + g = k ∧ Hid (∀ i, i < N → preF fs (i + 1) ≤ C) ∧ wr = wx)
          case atStart => exact ⟨0, rfl, by omega, Lib.hid (fun i hi => absurd hi (by omega)), rfl⟩
          case round =>
            obtain ⟨N, rfl, hN, HN, rfl⟩ := hrel
            by_cases hNk : N < k
            · obtain ⟨ge, rfl, hge, hcell⟩ := HEc.out N hNk
              have hps := HLm.out N hNk
              by_cases hgo : preF fs (N + 1) ≤ C
              · have hstep : Hid (∀ i, i < N + 1 → preF fs (i + 1) ≤ C) := Lib.hid fun i hi => by
                  by_cases e : i = N
                  · subst e; exact hgo
                  · exact HN.out i (by omega)
                generalize preF fs (N + 1) = pn at *
                go_wp2_with fail
                go_roundg (gk - 1)
                case measure => omega
                case rel => exact ⟨N + 1, by go_num, by omega, hstep, rfl⟩
              · have CS1 := Lib.hid (CSc.out N (by omega) HN.out (.inr (by omega)))
                go_wp2_with fail
                refine CS1.out.mono ?_
                rintro e w2 ⟨Am, cm, rfl, hm1, hm2, hrd, hb⟩
                have HF1 := H.out.firsts (N := N) (by omega)
                have hbw := Hbel.out.trans (hb.mono Hbel.out.size)
                have HB2 := Lib.hid hbw
                have SM := frSame_any Am A N cm N c _ _ (fs.take N) (fs.take N) w2 hm1 hm2 (by omega) hm hrd (HF1.below hbw)
                have hqq : (fs.take N == fs.take N) = true := by simp
                rw [hqq] at SM
                have HSM := Lib.hid SM
                have HEd := Lib.hid (HEd0.out N w2 hb)
                clear hb hrd HF1 hbw SM hqq CS1 CSc HW2
                have gN1 : (N : Int) ≤ (c : Int) := by omega
                have gN2 : N ≤ c := by omega
                by_cases hN0 : N = 0
                · subst hN0
                  rw [preF_zero] at *
                  go_wp2_with fail
                  refine HSM.out.mono ?_
                  rintro e w3 ⟨rfl, q, rfl⟩
                  go_wp2_with fail
                  refine (KW.out _).mono ?_
                  rintro e w4 ⟨rfl, hk4⟩
                  have Hb4 := Lib.hid ((bel_drewN HB2.out q).trans (hk4.mono HB2.out.size))
                  clear hk4
                  go_wp2
                  go_ret
                  exact ⟨rfl, Hb4.out⟩
                · obtain ⟨ge', hge', hcell'⟩ := HEd.out (by omega) (by omega)
                  first | subst hge' | (injection hge' with hge'; injection hge' with hge'; subst hge')
                  have gw : IntKind.i64.wrap ((N : Int) - 1) = (N : Int) - 1 := by rw [IntKind.wrap_i64]; omega
                  have gn1 : ((N : Int) - 1).toNat = N - 1 := by omega
                  have gn2 : (0 : Int) ≤ (N : Int) - 1 := by omega
                  have gn3 : (N : Int) - 1 < (k : Int) := by omega
                  have gn4 : (0 : Int) < (N : Int) := by omega
                  generalize preF fs N = pN at *
                  go_wp2_with fail
                  refine HSM.out.mono ?_
                  rintro e w3 ⟨rfl, q, rfl⟩
                  go_wp2_with fail
                  refine (KW.out _).mono ?_
                  rintro e w4 ⟨rfl, hk4⟩
                  have Hb4 := Lib.hid ((bel_drewN HB2.out q).trans (hk4.mono HB2.out.size))
                  clear hk4
                  go_wp2
                  go_ret
                  exact ⟨rfl, Hb4.out⟩
            · have CS1 := Lib.hid (CSc.out N (by omega) HN.out (.inl (by omega)))
              go_wp2_with fail
              refine CS1.out.mono ?_
              rintro e w2 ⟨Am, cm, rfl, hm1, hm2, hrd, hb⟩
              have HF1 := H.out.firsts (N := N) (by omega)
              have hbw := Hbel.out.trans (hb.mono Hbel.out.size)
              have HB2 := Lib.hid hbw
              have SM := frSame_any Am A N cm N c _ _ (fs.take N) (fs.take N) w2 hm1 hm2 (by omega) hm hrd (HF1.below hbw)
              have hqq : (fs.take N == fs.take N) = true := by simp
              rw [hqq] at SM
              have HSM := Lib.hid SM
              have HEd := Lib.hid (HEd0.out N w2 hb)
              clear hb hrd HF1 hbw SM hqq CS1 CSc HW2
              have gN1 : (N : Int) ≤ (c : Int) := by omega
              have gN2 : N ≤ c := by omega
              by_cases hN0 : N = 0
              · subst hN0
                rw [preF_zero] at *
                go_wp2_with fail
                refine HSM.out.mono ?_
                rintro e w3 ⟨rfl, q, rfl⟩
                go_wp2_with fail
                refine (KW.out _).mono ?_
                rintro e w4 ⟨rfl, hk4⟩
                have Hb4 := Lib.hid ((bel_drewN HB2.out q).trans (hk4.mono HB2.out.size))
                clear hk4
                go_wp2
                go_ret
                exact ⟨rfl, Hb4.out⟩
              · obtain ⟨ge', hge', hcell'⟩ := HEd.out (by omega) (by omega)
                first | subst hge' | (injection hge' with hge'; injection hge' with hge'; subst hge')
                have gw : IntKind.i64.wrap ((N : Int) - 1) = (N : Int) - 1 := by rw [IntKind.wrap_i64]; omega
                have gn1 : ((N : Int) - 1).toNat = N - 1 := by omega
                have gn2 : (0 : Int) ≤ (N : Int) - 1 := by omega
                have gn3 : (N : Int) - 1 < (k : Int) := by omega
                have gn4 : (0 : Int) < (N : Int) := by omega
                generalize preF fs N = pN at *
                go_wp2_with fail
                refine HSM.out.mono ?_
                rintro e w3 ⟨rfl, q, rfl⟩
                go_wp2_with fail
                refine (KW.out _).mono ?_
                rintro e w4 ⟨rfl, hk4⟩
                have Hb4 := Lib.hid ((bel_drewN HB2.out q).trans (hk4.mono HB2.out.size))
                clear hk4
                go_wp2
                go_ret
                exact ⟨rfl, Hb4.out⟩

namespace frameBack
set_option maxRecDepth 100000 in
theorem lifted (os : Os) (started : os.Started) (H : Type) (enc : TypeId × Value → H) :
    ReturnsInHanded {} Try.checked os 6 .any (Rows.frameBackSpec.pre6 enc Try.prog Try.f6 Rows.frameBackRow.domain false) (Rows.frameBackSpec.post enc Try.prog Try.f6 false true false false) := by
  refine law_lift started (by kernel_rfl) Try.func6
    (ChangeSpec.witness6 (enc := enc) (C := Try.checked) false ⟨#[], #[.slice none 0 0, .int .i64 0], []⟩ 8 (by kernel_rfl) (by kernel_rfl) (by kernel_rfl) (by kernel_rfl))
    rfl ?_ (by kernel_rfl) (by kernel_rfl) ?_
  · intro ds h
    match ds, h with
    | [_, _], _ => rfl
  intro W base args ds p g
  have hA := g.trod
  have hval := g.val
  rw [Try.params6] at hA hval
  obtain ⟨v0, vs0, d0, ds0, p0, q0, hargs, rfl, rfl, h0, r0⟩ := trodAll_cons hA
  obtain ⟨v1, vs1, d1, ds1, p1, q1, rfl, rfl, rfl, h1, r1⟩ := trodAll_cons r0
  obtain ⟨rfl, rfl, rfl⟩ := trodAll_nil r1
  obtain rfl : args = #[v0, v1] := by cases args; simp_all
  obtain ⟨A0, n0, c0, l0, rfl, hc0, hm0, hr0⟩ := given_frames (hval 0 44 v0 rfl rfl) h0
  obtain ⟨a1, rfl, _, _, w1⟩ := open_int Try.underlying3 (hval 1 3 v1 rfl rfl) h1
  have b1 := bounds_i64 w1
  exact frameBack_walk A0 n0 c0 l0 a1 W hc0 hm0 hr0 b1.1 b1.2

theorem over : Rows.frameBackRow.holds Try.pinned (OpenSpec.ofChange Rows.frameBackSpec) :=
  OpenClaim.holds_of_wide 6 Try.f6 rfl rfl rfl rfl rfl rfl rfl ⟨rfl, rfl, rfl, rfl, rfl⟩ rfl rfl rfl rfl rfl (by kernel_rfl) Try.func6 (by kernel_rfl)
    (of_decide_eq_true (by kernel_rfl)) (by unfold Func.isWrapper; first | (rw [if_pos (by decide +kernel)]; kernel_rfl) | (rw [if_neg (by decide +kernel)]; exact ⟨rfl, rfl⟩))
    (fun os started H enc _ => lifted os started H enc)
end frameBack

theorem FrameBack_proved : Rows.FrameBackSaid := frameBack.over
#print axioms FrameBack_proved
end Go.Proofs.Ytbkbmmpcjpkkaaa
