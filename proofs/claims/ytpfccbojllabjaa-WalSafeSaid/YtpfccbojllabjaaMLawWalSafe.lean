/- WalSafe: whenever the power goes, whatever is kept: behind it the log has all records that were safe, and some first ones of the others, and nothing else (where no torn bytes are a record by chance, as the document's own log says). Of all lists, syncs, acts and numbers kept: no condition. -/
import Derived.Test.YtpfccbojllabjaaM1WRun3
namespace Go.Proofs.Ytpfccbojllabjaa
open Go.ChangeShapes Go.WideShapes Go.ChangeAt Go.RowKit

theorem start_pair2 {W w : World} {gp gd M n : Nat} {H : Nat → Prop} (h6 : 6 ≤ n) (h1 : Pq w H gp gd M (Dk.new n).openL.2.2 (Dk.new n).openL.2.1) (h2 : ∀ k, H k → W.heap.size ≤ k) (h3 : Below W.heap.size W w) : RunP W w gp gd M (Dk.new n) { epoch := 0, recs := [], safe := 0, gone := false } := by
  have hf := fresh_on n h6
  have ho := open_again hf rfl
  rw [hf.found] at ho
  rw [ho] at h1
  exact RunP.of h1 h2 h3
theorem reopened2 {W w : World} {gp gd M : Nat} {d : Dk} {H : Nat → Prop} (hok : d.Ok) (h6 : 6 ≤ d.safe.length) (hf : d.Free) (h1 : Pq w H gp gd M d.openL.2.2 d.openL.2.1) (h2 : ∀ k, H k → W.heap.size ≤ k) (h3 : Below W.heap.size W w) : ∃ d2, RunP W w gp gd M d2 d.found := by
  obtain ⟨d2, ho, _⟩ := open_free hok h6 hf
  rw [ho] at h1
  exact ⟨d2, RunP.of h1 h2 h3⟩
/-- Ahead of a round: j lists were appended or refused, k of the records are safe. -/
def SafeS (W w : World) (gp gd M : Nat) (v : Value) (j k : Nat) : Prop := ∃ d s vals, RunK W w gp gd M d s v vals ∧ Elems W vals s.recs ∧ Growing d s ∧ s.gone = false ∧ s.safe = k ∧ d.waits.length ≤ 1100 * (j + 1) ∧ d.safe.length = 30
/-- At the end: k of the records are safe; the power may be gone. -/
def SafeE (W w : World) (gp gd M : Nat) (v : Value) (k : Nat) : Prop := ∃ d s vals, RunK W w gp gd M d s v vals ∧ Elems W vals s.recs ∧ Growing d s ∧ s.safe = k ∧ d.waits.length ≤ 900000 ∧ d.safe.length = 30
theorem SafeS.done {W w : World} {gp gd M : Nat} {v : Value} {j k : Nat} (h : SafeS W w gp gd M v j k) (hj : j ≤ 100) : SafeE W w gp gd M v k := by
  obtain ⟨d, s, vals, h1, h2, h3, h4, h5, h6, h7⟩ := h
  exact ⟨d, s, vals, h1, h2, h3, h5, by omega, h7⟩

set_option maxRecDepth 100000 in
set_option maxHeartbeats 8000000 in
theorem walSafe_walk (A1 : Option Addr) (n1 c1 : Nat) (l1 : List (List UInt8)) (A2 : Option Addr) (n2 c2 : Nat) (l2 : Nat → Bool) (at_ : Int) (A3 : Option Addr) (n3 c3 : Nat) (l3 : List Int) (W : World)
    (_hc1 : n1 ≤ c1) (hm1 : c1 ≤ 9223372036854775807) (h1 : Parts W W.heap.size A1 n1 l1) (_hc2 : n2 ≤ c2) (_hm2 : c2 ≤ 9223372036854775807) (h2 : Bools W W.heap.size A2 n2 l2) (ha1 : -9223372036854775808 ≤ at_) (ha2 : at_ ≤ 9223372036854775807)
    (hc3 : n3 ≤ c3) (hm3 : c3 ≤ 9223372036854775807) (h3 : RdI W W.heap.size A3 n3 l3) :
    Calls Try.prog 4 #[.slice A1 n1 c1, .slice A2 n2 c2, .int .i64 at_, .slice A3 n3 c3] W fun e w' => e = .returned (.bool true) ∧ Below W.heap.size W w' := by
  have H1 := Lib.hid h1
  have H2 := Lib.hid h2
  have H3 := Lib.hid h3
  have HV1 := Lib.hid (heavy_any A1 n1 c1 _ l1 W (by omega) h1)
  have hl1 := h1.1
  clear h1 h2 h3
  have HKn : Hid (∀ w, Below W.heap.size W w → Calls Try.prog 9 #[] w fun e w' => e = .returned (.bool true) ∧ Below W.heap.size W w') := fun w hb => by
    refine (known_any w).mono ?_
    rintro e w' ⟨rfl, hb'⟩
    exact ⟨rfl, below_then hb hb'⟩
  obtain ⟨i1, hi1, hy0, hy1, hy2⟩ := info_parts Try.infoBytes
  go_enter Try.func4, Try.ntmps4
  go_wp2_with fail
  refine HV1.out.mono ?_
  rintro e w1 ⟨b1, rfl, hwt, q1, rfl⟩
  have HB1 : Hid (Below W.heap.size W (W.drewN q1)) := bel_drewN (Below.refl _ _) q1
  generalize W.drewN q1 = w2 at *
  clear HV1
  by_cases hbad : b1 = true ∨ 30 < n1
  · have hfin : b1 = true ∨ (b1 = false ∧ 30 < n1) := by
      cases b1 with
      | true => exact .inl rfl
      | false => exact .inr ⟨rfl, by simpa using hbad⟩
    clear hbad hwt
    rcases hfin with rfl | ⟨rfl, h30⟩
    all_goals
      go_wp2_with fail
      refine (HKn.out _ HB1.out).mono ?_
      rintro e w3 ⟨rfl, hb⟩
      have HF := Lib.hid hb
      clear hb
      go_wp2
      go_ret
      exact ⟨rfl, HF.out⟩
  · have hb1 : b1 = false := by
      cases b1 with
      | true => exact absurd (.inl rfl) hbad
      | false => rfl
    subst hb1
    have h30 : ¬ 30 < n1 := fun h => hbad (.inr h)
    have hn30 : n1 ≤ 30 := by omega
    have hwt4 := hwt rfl
    have hsm : Hid (∀ i (hi : i < l1.length), l1[i].length ≤ 4000) := fun i hi => by
      have h1 := wtL_take_succ hi
      have h2 : wtL l1 = wtL (l1.take (i + 1)) + wtL (l1.drop (i + 1)) := by
        unfold wtL
        rw [← List.sum_append, ← List.map_append, List.take_append_drop]
      omega
    clear hbad hwt hwt4
    go_wp2_with fail
    refine (start_any 30 w2 (by omega) (by omega)).mono ?_
    rintro e w3 ⟨gp, gd, M, H, rfl, hq, hge, hb⟩
    have hR0 := start_pair2 (n := 30) (by omega) hq (fun k e => Nat.le_trans HB1.out.size (hge k e)) (below_then HB1.out hb)
    have hG0 := grows_new 30 (by omega)
    have HR0 := Lib.hid hR0
    have HG0 := Lib.hid hG0
    clear hq hge hb hR0 hG0 HB1
    have hln0 : (Dk.new 30).safe.length = 30 := by simp [Dk.new]
    have hwn0 : (Dk.new 30).waits.length = 0 := rfl
    by_cases hat : 0 ≤ at_
    · have HP : Hid (∀ nn, -9223372036854775808 ≤ nn → nn ≤ 9223372036854775807 → Calls Try.prog 12 #[.pointer (some ⟨gp, 0, none⟩), .agg #[.int .i64 5, .int .i64 nn, .int .u8 0, .slice none 0 0, .slice none 0 0]] w3 fun e w' => e = .returned (.bool true) ∧ SafeS W w' gp gd M (.slice none 0 0) 0 0) := fun nn q1 q2 => by
        refine (HR0.out.play5 (by omega) (by omega) nn q1 q2).mono ?_
        rintro e w' ⟨rfl, h⟩
        exact ⟨rfl, _, _, _, RunK.start h, ⟨rfl, fun i hi => by simp at hi⟩, HG0.out.arm nn, rfl, rfl, by show (Dk.new 30).waits.length ≤ _; omega, hln0⟩
      have hnb : -9223372036854775808 ≤ at_ % 50 ∧ at_ % 50 ≤ 9223372036854775807 := by omega
      have HP5 := Lib.hid (HP.out (at_ % 50) hnb.1 hnb.2)
      clear HP HR0 HG0
      go_wp2_with fail
      refine HP5.out.mono ?_
      rintro e w4 ⟨rfl, hS⟩
      have HS := Lib.hid hS
      clear hS HP5
      go_wp2
      go_loopg [11, 12, 13] n1 (fun g av sv iv wr => ∃ (j k : Nat), sv = .int .i64 k ∧ iv = .int .i64 j ∧ j + g = n1 ∧ Hid (SafeS W wr gp gd M av j k))
      case atStart => exact ⟨0, 0, rfl, rfl, by omega, HS⟩
      case round =>
        clear HS
        obtain ⟨j, k, rfl, rfl, hk, HS⟩ := hrel
        by_cases hj : j < n1
        · obtain ⟨d, s, vals, hR, hE, hG, hg, hsk, hw, hl⟩ := HS.out
          obtain ⟨b, o, A', n', c', rfl, hb, hcell0, hn', hc', hrd⟩ := H1.out.2 j (by omega)
          have hlen := hsm.out j (by omega)
          rw [hrd.1] at hlen
          have HT : Hid (∀ w', Below W.heap.size W w' → w'.cell? ⟨b, o + j, none⟩ = some (.slice A' n' c')) := fun w' hb' => (hb'.cell hb).trans hcell0
          have t0 := HT.out wr hR.size
          obtain ⟨Av, cv, hvv, hcv1, hcv2⟩ := own_shape hR.row
          subst hvv
          obtain ⟨gw, cw, hC1⟩ := (hR.below (Below.refl _ _).drew).append (by omega) (by omega) A' n' c' l1[j] hn' hc' (by omega) hrd
          have hGA := hG.append hg l1[j]
          have hwa := append_waits s d l1[j] (by omega)
          have hla := append_len s d l1[j]
          have Hrd := Lib.hid hrd
          have HE := Lib.hid hE
          have HC1 := Lib.hid hC1
          have hvl := hE.1
          obtain ⟨⟨r, s2, d2⟩, hr⟩ : ∃ p, s.append d l1[j] = p := ⟨_, rfl⟩
          rw [hr] at HC1 hGA hwa hla
          simp only at hGA hwa hla
          have hfit := hG.fits
          have hcnt := usedF_count s.recs
          have hby : d.bytes ≤ 40000 := by unfold Dk.bytes Dk.half halfN; omega
          have HGA := Lib.hid hGA
          have cw : wr.cell? ⟨gp, 1, none⟩ = some (.pointer (some ⟨gw, 0, none⟩)) := cw
          obtain ⟨nv, hnv⟩ : ∃ nv, vals.length = nv := ⟨_, rfl⟩
          have hnv4 : nv ≤ 4000 := by omega
          rw [hnv] at hcv1
          rw [hnv]
          clear hr hR hE hG hC1 hrd hGA HS hb hcell0 hfit hcnt hby
          go_wp2
          have e1 : wr.drew.cell? ⟨gp, 1, none⟩ = some (.pointer (some ⟨gw, 0, none⟩)) := cw
          have e2 : wr.drew.cell? ⟨b, o + j, none⟩ = some (.slice A' n' c') := t0
          go_region_held3 (fun w' => w'.cell? ⟨gp, 1, none⟩ = some (.pointer (some ⟨gw, 0, none⟩)) ∧ w'.cell? ⟨b, o + j, none⟩ = some (.slice A' n' c')) (first | exact ⟨e1, e2⟩ | exact ⟨k1, k2⟩ | go_keep)
            (first | (go_at_call 19; refine HC1.out.mono ?_; rintro e w4 ⟨rfl, hb4, k1, gr, cr, hC2⟩; (have k2 := HT.out w4 hb4)))
          have t4 := HT.out w4 hb4
          have HC2 := Lib.hid (hC2 w4.drew (Below.refl _ _).drew)
          clear hC2 HC1 hb4 t0 cw e1 e2 k1 k2
          go_wp2
          have e1 : w4.drew.cell? ⟨gp, 3, none⟩ = some (.pointer (some ⟨gr, 0, none⟩)) := cr
          have e2 : w4.drew.cell? ⟨b, o + j, none⟩ = some (.slice A' n' c') := t4
          go_region_held3 (fun w' => w'.cell? ⟨gp, 3, none⟩ = some (.pointer (some ⟨gr, 0, none⟩)) ∧ w'.cell? ⟨b, o + j, none⟩ = some (.slice A' n' c')) (first | exact ⟨e1, e2⟩ | exact ⟨k1, k2⟩ | go_keep)
            (first | (go_at_call 20; refine HC2.out.mono ?_; rintro e w5 ⟨rfl, k1, hR5⟩; (have k2 := HT.out w5 hR5.size)))
          clear e1 e2 k1 k2
          all_goals
            have HR5 := Lib.hid hR5
            have t5 := HT.out w5 hR5.size
            clear hR5 HC2 t4 cr
            rcases HGA.out with ⟨hG2, hsf2, ⟨rfl, hrc2, hgn2⟩ | ⟨rfl, hrc2⟩ | ⟨hr0, hr6, hs2⟩⟩
            · have hb6_a := (Below.refl w5.heap.size w5).alloc (Nat.le_refl _) (.cells #[.slice A' n' c'] 40)
              have hRA_a := HR5.out.below hb6_a
              have hROW_a := hRA_a.row
              rw [hnv] at hROW_a
              have hszW_a := hRA_a.size.size
              have hmxl_a : maxLen = 9223372036854775807 := rfl
              clear hb6_a
              go_wp2_with (at_builtin; go_loud (refine wpList_append_app _ rfl _ _ 28 rfl W.heap.size 40 i1 (.slice none 0 0) 1 24 Try.underlying28 hi1 hy0 hy1 hy2 rfl _ nv vals rfl hROW_a (some ⟨w5.heap.size, 0, none⟩) 1 1 [Value.slice A' n' c'] rfl rfl (by intro h; cases h) (cell_new1 _ _ _) (by intro u hu; simp at hu; subst hu; rfl) (by omega) (by omega) hszW_a ?_))
              intro v' w6 happ
              have HR6_a : Hid (RunK W w6 gp gd M d2 s2 v' (vals ++ [.slice A' n' c'])) := hRA_a.push (by rw [hnv]; exact happ)
              have HE6_a : Hid (Elems W (vals ++ [.slice A' n' c']) s2.recs) := by rw [hrc2]; exact HE.out.push hn' hc' Hrd.out
              clear happ hRA_a hROW_a hszW_a HR5 t5
              have HQ : Hid (SafeS W w6 gp gd M v' (j + 1) k) := ⟨_, _, _, HR6_a.out, HE6_a.out, hG2, hgn2, hsf2.trans hsk, by omega, by omega⟩
              clear HR6_a HE6_a
              by_cases hjs_c : j < n2
              · obtain ⟨b2_c, o2_c, rfl, hb2_c, hcl_c⟩ := H2.out (by omega)
                have hcs_c := hcl_c j hjs_c
                have hszq_c : Below W.heap.size W w6 := by
                  obtain ⟨_, _, _, hR, _⟩ := HQ.out
                  exact hR.size
                have hcq_c : w6.cell? ⟨b2_c, o2_c + j, none⟩ = some (.bool (l2 j)) := (hszq_c.cell hb2_c).trans hcs_c
                obtain ⟨bj_c, hbj_c⟩ : ∃ bj, l2 j = bj := ⟨_, rfl⟩
                rw [hbj_c] at hcq_c
                clear hcl_c hcs_c hb2_c hszq_c hbj_c
                cases bj_c with
                | false =>
                  go_wp2
                  go_roundg (gk - 1)
                  case measure => omega
                  case rel => exact ⟨j + 1, k, rfl, by go_num, by omega, HQ⟩
                | true =>
                  obtain ⟨dq_c, sq_c, vq_c, hRq_c, hEq_c, hGq_c, hgq_c, hskq_c, hwq_c, hlq_c⟩ := HQ.out
                  obtain ⟨gwq_c, cwq_c, hCq_c⟩ := hRq_c.sync (by omega)
                  have hGS_c := hGq_c.sync hgq_c
                  have hws_c := syncL_waits sq_c dq_c
                  have hls_c := syncL_len sq_c dq_c
                  obtain ⟨Aq_c, cq_c, hvq_c, _, _⟩ := own_shape hRq_c.row
                  subst hvq_c
                  have HEq_c := Lib.hid hEq_c
                  have HCq_c := Lib.hid hCq_c
                  have HGS_c := Lib.hid hGS_c
                  have hle_c := hEq_c.1
                  obtain ⟨⟨rq_c, sr_c, dr_c⟩, hrq_c⟩ : ∃ p, sq_c.sync dq_c = p := ⟨_, rfl⟩
                  rw [hrq_c] at HCq_c HGS_c hws_c hls_c
                  simp only at hws_c hls_c
                  obtain ⟨nq_c, hnq_c⟩ : ∃ nq, vq_c.length = nq := ⟨_, rfl⟩
                  rw [hnq_c]
                  clear hrq_c hRq_c hEq_c hGq_c hCq_c hGS_c hgq_c
                  go_wp2_with fail
                  refine HCq_c.out.mono ?_
                  rintro e wS_c ⟨rfl, hbS_c, _, grS_c, crS_c, hCS_c⟩
                  have HCS_c := Lib.hid (hCS_c _ (Below.refl _ _))
                  clear hCS_c HCq_c cwq_c hbS_c hcq_c
                  go_wp2_with fail
                  refine HCS_c.out.mono ?_
                  rintro e wT_c ⟨rfl, _, hRT_c⟩
                  have HRT_c := Lib.hid hRT_c
                  clear hRT_c HCS_c crS_c
                  rcases HGS_c.out with ⟨hG3_c, hrc3_c, ⟨rfl, hsf3_c, hgn3_c⟩ | ⟨hr3_c, hsf3_c⟩⟩
                  · have HN_c : Hid (SafeS W wT_c gp gd M (.slice Aq_c nq_c cq_c) (j + 1) nq_c) := by
                      rw [← hnq_c]
                      exact ⟨_, _, _, HRT_c.out, by rw [hrc3_c]; exact HEq_c.out, hG3_c, hgn3_c, by rw [hsf3_c]; exact hle_c.symm, by omega, by omega⟩
                    clear HRT_c HGS_c hG3_c hrc3_c hsf3_c hgn3_c
                    go_wp2
                    go_roundg (gk - 1)
                    case measure => omega
                    case rel => exact ⟨j + 1, nq_c, rfl, by go_num, by omega, HN_c⟩
                  · have HN_c : Hid (SafeE W wT_c gp gd M (.slice Aq_c nq_c cq_c) k) := by
                      rw [← hnq_c]
                      exact ⟨_, _, _, HRT_c.out, by rw [hrc3_c]; exact HEq_c.out, hG3_c, by rw [hsf3_c]; exact hskq_c, by omega, by omega⟩
                    have hrb_c : (rq_c != 0) = true := by simpa using hr3_c
                    clear HRT_c HGS_c hG3_c hrc3_c hsf3_c hr3_c
                    obtain ⟨d_ct, s_ct, vals_ct, hR_ct, hE_ct, hG_ct, hsk_ct, hw_ct, hl_ct⟩ := HN_c.out
                    obtain ⟨Av_ct, cv_ct, hvv_ct, hcv1_ct, hcv2_ct⟩ := own_shape hR_ct.row
                    injection hvv_ct with i1_ct i2_ct i3_ct
                    have i1_ct := i1_ct.symm
                    have i3_ct := i3_ct.symm
                    subst i1_ct i3_ct
                    obtain ⟨c0_ct, hC1_ct⟩ := hR_ct.crashes (by omega) A3 n3 c3 l3 (by omega) H3.out
                    have hcr_ct := hG_ct.crash l3
                    have hokc_ct := Dk.crash_ok hG_ct.ok l3
                    have hlc_ct := Dk.crash_len d_ct l3
                    have hrl_ct := hE_ct.1
                    have HEl_ct := Lib.hid hE_ct
                    have HC1_ct := Lib.hid hC1_ct
                    have hfit_ct := hG_ct.fits
                    have hcnt_ct := usedF_count s_ct.recs
                    have hby_ct : d_ct.bytes ≤ 40000 := by unfold Dk.bytes Dk.half halfN; omega
                    obtain ⟨L_ct, hL_ct⟩ : ∃ L, s_ct.recs = L := ⟨_, rfl⟩
                    rw [hL_ct] at HEl_ct hrl_ct hcnt_ct hfit_ct
                    obtain ⟨nv_ct, hnv_ct⟩ : ∃ nv, vals_ct.length = nv := ⟨_, rfl⟩
                    rw [hsk_ct] at hcr_ct
                    have hnl_ct : L_ct.length = nv_ct := by omega
                    have hnv4_ct : nv_ct ≤ 4000 := by omega
                    clear hR_ct hE_ct hG_ct hC1_ct hsk_ct hfit_ct hcnt_ct hby_ct hrl_ct hL_ct
                    rw [hnv_ct] at hcv1_ct
                    have i4_ct : nv_ct = nq_c := by rw [← hnv_ct]; exact i2_ct.symm
                    clear i2_ct
                    subst i4_ct
                    go_wp2_with fail
                    refine HC1_ct.out.mono ?_
                    rintro e wA_ct ⟨rfl, c2_ct, hC2_ct⟩
                    have HC2_ct := Lib.hid hC2_ct
                    clear hC2_ct HC1_ct c0_ct
                    go_wp2_with fail
                    refine HC2_ct.out.mono ?_
                    rintro e wB_ct ⟨rfl, hC3_ct⟩
                    have HC3_ct := Lib.hid hC3_ct
                    clear hC3_ct HC2_ct c2_ct
                    go_wp2_with fail
                    refine HC3_ct.out.mono ?_
                    rintro e wC_ct ⟨rfl, ⟨H_ct, hq_ct, hH_ct, hb_ct⟩, hrow_ct⟩
                    obtain ⟨dd_ct, hR2_ct⟩ := reopened2 hokc_ct (by omega) (Dk.crash_free _ _) hq_ct hH_ct hb_ct
                    have hgf_ct : (d_ct.crash l3).found.gone = false := rfl
                    have hsf_ct : (d_ct.crash l3).found.safe = (d_ct.crash l3).found.recs.length := rfl
                    generalize (d_ct.crash l3).found = sF_ct at *
                    have hLF_ct : sF_ct.tellL = sF_ct.recs := by unfold Lg.tellL; rw [hgf_ct]; rfl
                    have hNF_ct : sF_ct.tellN = sF_ct.recs.length := by unfold Lg.tellN; rw [hgf_ct, hsf_ct]; rfl
                    obtain ⟨gw_ct, gr_ct, c1_ct, c3_ct, ⟨Ar_ct, cr_ct, c2_ct, hcr1_ct, hcr2_ct, hPr_ct⟩, hrec_ct, _⟩ := hR2_ct.tell
                    rw [hLF_ct] at hrec_ct
                    rw [hnv_ct] at hrow_ct
                    have HR2_ct := Lib.hid hR2_ct
                    have HRow_ct := Lib.hid hrow_ct
                    have hSF_ct : ∀ x, RunP W x gp gd M dd_ct sF_ct → x.cell? ⟨gp, 1, none⟩ = some (.pointer (some ⟨gw_ct, 0, none⟩)) → Calls Try.prog 26 #[.pointer (some ⟨gw_ct, 0, none⟩)] x fun e w' => e = .returned (.int .i64 (sF_ct.recs.length : Nat)) ∧ x = w' := fun x hx hcx => by
                      obtain ⟨gw', gr', q1, _, _, _, q2⟩ := hx.tell
                      rw [hcx] at q1
                      injection q1 with q1
                      injection q1 with q1
                      injection q1 with q1
                      injection q1 with q1
                      subst q1
                      rw [hNF_ct] at q2
                      exact q2
                    obtain ⟨R_ct, hRR_ct⟩ : ∃ R, sF_ct.recs = R := ⟨_, rfl⟩
                    rw [hRR_ct] at hPr_ct hrec_ct hcr_ct c2_ct hcr1_ct hSF_ct
                    obtain ⟨nR_ct, hnR_ct⟩ : ∃ nR, R_ct.length = nR := ⟨_, rfl⟩
                    have HT_ct : Hid (∀ W0, ToldL R_ct W0 = fun e w' => ∃ A c vals, e = .returned (.slice A nR_ct c) ∧ w'.ownsRow W0.heap.size 40 1 (.slice A nR_ct c) nR_ct vals ∧ Fam w' W0.heap.size vals R_ct ∧ Below W0.heap.size W0 w') := fun W0 => by
                      show _ = _
                      unfold ToldL
                      rw [hnR_ct]
                    rw [hnR_ct] at hPr_ct hcr_ct c2_ct hcr1_ct hSF_ct
                    rw [HT_ct.out] at hrec_ct
                    have HSF_ct := Lib.hid hSF_ct
                    have HPr_ct := Lib.hid hPr_ct
                    have HC4_ct := Lib.hid hrec_ct
                    have hge_ct : (k : Int) ≤ (nR_ct : Int) := by omega
                    clear hrec_ct hR2_ct hPr_ct hq_ct hH_ct hb_ct hrow_ct HC3_ct hLF_ct hNF_ct hgf_ct hsf_ct hSF_ct hRR_ct hokc_ct
                    go_wp2_with fail
                    refine HC4_ct.out.mono ?_
                    rintro e wD_ct ⟨AD_ct, cD_ct, valsD_ct, rfl, hoD_ct, hfD_ct, hbD_ct⟩
                    have HR3_ct := Lib.hid (HR2_ct.out.below hbD_ct)
                    have HPn_ct : Hid (Parts wD_ct wD_ct.heap.size AD_ct nR_ct R_ct) := told_parts hnR_ct.symm hoD_ct hfD_ct
                    have HPr3_ct := Lib.hid (HPr_ct.out.below hbD_ct)
                    have hrow3_ct := own_below HRow_ct.out hbD_ct (fun k e => (HRow_ct.out.lt k e).2)
                    have HPa_ct : Hid (Parts wD_ct wD_ct.heap.size Av_ct nv_ct L_ct) := HEl_ct.out.parts HR3_ct.out.size (by rw [hnv_ct]; exact hrow3_ct) hnl_ct.symm
                    have e1_ct : wD_ct.cell? ⟨gp, 1, none⟩ = some (.pointer (some ⟨gw_ct, 0, none⟩)) := (hbD_ct.cell (World.block_lt_of_cell? _ _ c1_ct)).trans c1_ct
                    have e3_ct : wD_ct.cell? ⟨gp, 3, none⟩ = some (.pointer (some ⟨gr_ct, 0, none⟩)) := (hbD_ct.cell (World.block_lt_of_cell? _ _ c3_ct)).trans c3_ct
                    have e2_ct : wD_ct.cell? ⟨gr_ct, 2, none⟩ = some (.slice Ar_ct nR_ct cr_ct) := (hbD_ct.cell (World.block_lt_of_cell? _ _ c2_ct)).trans c2_ct
                    have hnR4_ct : nR_ct ≤ 9223372036854775807 := by unfold maxLen at hcr2_ct; omega
                    have hcv9_ct : cv_ct ≤ 9223372036854775807 := by unfold maxLen at hcv2_ct; exact hcv2_ct
                    have HS1_ct : Hid (∀ w', Below wD_ct.heap.size wD_ct w' → Calls Try.prog 25 #[.slice Ar_ct nR_ct cr_ct, .slice Av_ct nv_ct cv_ct] w' fun e w'' => e = .returned (.bool (beginsL R_ct L_ct)) ∧ ∃ q, w'.drewN q = w'') := fun w' hb => begins_any Ar_ct Av_ct nR_ct cr_ct nv_ct cv_ct _ _ R_ct L_ct w' hnR4_ct hcv1_ct hcv9_ct (HPr3_ct.out.below (hb.mono hbD_ct.size)) (HPa_ct.out.below hb)
                    have HS2_ct : Hid (∀ w', Below wD_ct.heap.size wD_ct w' → Calls Try.prog 25 #[.slice AD_ct nR_ct cD_ct, .slice Av_ct nv_ct cv_ct] w' fun e w'' => e = .returned (.bool (beginsL R_ct L_ct)) ∧ ∃ q, w'.drewN q = w'') := fun w' hb => begins_any AD_ct Av_ct nR_ct cD_ct nv_ct cv_ct _ _ R_ct L_ct w' hnR4_ct hcv1_ct hcv9_ct (HPn_ct.out.below hb) (HPa_ct.out.below hb)
                    have HK2_ct : Hid (∀ w', Below wD_ct.heap.size wD_ct w' → Calls Try.prog 9 #[] w' fun e w'' => e = .returned (.bool true) ∧ Below W.heap.size W w'') := fun w' hb => HKn.out w' (HR3_ct.out.below hb).size
                    have HSG_ct : Hid (∀ w', Below wD_ct.heap.size wD_ct w' → w'.cell? ⟨gp, 1, none⟩ = some (.pointer (some ⟨gw_ct, 0, none⟩)) ∧ Calls Try.prog 26 #[.pointer (some ⟨gw_ct, 0, none⟩)] w' fun e w'' => e = .returned (.int .i64 (nR_ct : Nat)) ∧ w' = w'') := fun w' hb => by
                      have hcx := (hb.cell (World.block_lt_of_cell? _ _ e1_ct)).trans e1_ct
                      exact ⟨hcx, HSF_ct.out w' (HR3_ct.out.below hb) hcx⟩
                    clear hoD_ct hfD_ct hbD_ct HC4_ct HR2_ct HPr_ct c1_ct c3_ct c2_ct hrow3_ct HRow_ct HSF_ct e1_ct
                    generalize beginsL R_ct L_ct = x_ct at *
                    go_wp2_with fail
                    refine (HS1_ct.out _ (Below.refl _ _)).mono ?_
                    rintro e wE_ct ⟨rfl, q5_ct, hq5_ct⟩
                    have HBE_ct : Hid (Below wD_ct.heap.size wD_ct wE_ct) := by rw [← hq5_ct]; exact bel_drewN (Below.refl _ _) q5_ct
                    clear hq5_ct
                    cases x_ct with
                    | false =>
                      go_wp2_with fail
                      refine (HK2_ct.out _ HBE_ct.out).mono ?_
                      rintro e w' ⟨rfl, hbf⟩
                      have HF := Lib.hid hbf
                      clear hbf
                      go_wp2
                      go_ret
                      exact ⟨rfl, HF.out⟩
                    | true =>
                      go_wp2_with fail
                      refine (HS2_ct.out _ HBE_ct.out).mono ?_
                      rintro e wF_ct ⟨rfl, q6_ct, hq6_ct⟩
                      have HBF_ct : Hid (Below wD_ct.heap.size wD_ct wF_ct) := by rw [← hq6_ct]; exact bel_drewN HBE_ct.out q6_ct
                      obtain ⟨f1_ct, hsg_ct⟩ := HSG_ct.out _ HBF_ct.out
                      have HG_ct := Lib.hid hsg_ct
                      clear hq6_ct hsg_ct
                      go_wp2_with fail
                      refine HG_ct.out.mono ?_
                      rintro e wG_ct ⟨rfl, rfl⟩
                      go_wp2_with fail
                      refine (HK2_ct.out _ HBF_ct.out).mono ?_
                      rintro e w' ⟨rfl, hbf⟩
                      have HF := Lib.hid hbf
                      clear hbf
                      go_wp2
                      go_ret
                      exact ⟨rfl, HF.out⟩
              · go_wp2
                go_roundg (gk - 1)
                case measure => omega
                case rel => exact ⟨j + 1, k, rfl, by go_num, by omega, HQ⟩
            · have hb6_b := (Below.refl w5.heap.size w5).alloc (Nat.le_refl _) (.cells #[.slice A' n' c'] 40)
              have hRA_b := HR5.out.below hb6_b
              have hROW_b := hRA_b.row
              rw [hnv] at hROW_b
              have hszW_b := hRA_b.size.size
              have hmxl_b : maxLen = 9223372036854775807 := rfl
              clear hb6_b
              go_wp2_with (at_builtin; go_loud (refine wpList_append_app _ rfl _ _ 28 rfl W.heap.size 40 i1 (.slice none 0 0) 1 24 Try.underlying28 hi1 hy0 hy1 hy2 rfl _ nv vals rfl hROW_b (some ⟨w5.heap.size, 0, none⟩) 1 1 [Value.slice A' n' c'] rfl rfl (by intro h; cases h) (cell_new1 _ _ _) (by intro u hu; simp at hu; subst hu; rfl) (by omega) (by omega) hszW_b ?_))
              intro v' w6 happ
              have HR6_b : Hid (RunK W w6 gp gd M d2 s2 v' (vals ++ [.slice A' n' c'])) := hRA_b.push (by rw [hnv]; exact happ)
              have HE6_b : Hid (Elems W (vals ++ [.slice A' n' c']) s2.recs) := by rw [hrc2]; exact HE.out.push hn' hc' Hrd.out
              clear happ hRA_b hROW_b hszW_b HR5 t5
              have HQ : Hid (SafeE W w6 gp gd M v' k) := ⟨_, _, _, HR6_b.out, HE6_b.out, hG2, hsf2.trans hsk, by omega, by omega⟩
              clear HR6_b HE6_b
              obtain ⟨d_e, s_e, vals_e, hR_e, hE_e, hG_e, hsk_e, hw_e, hl_e⟩ := HQ.out
              obtain ⟨Av_e, cv_e, hvv_e, hcv1_e, hcv2_e⟩ := own_shape hR_e.row
              subst hvv_e
              obtain ⟨c0_e, hC1_e⟩ := hR_e.crashes (by omega) A3 n3 c3 l3 (by omega) H3.out
              have hcr_e := hG_e.crash l3
              have hokc_e := Dk.crash_ok hG_e.ok l3
              have hlc_e := Dk.crash_len d_e l3
              have hrl_e := hE_e.1
              have HEl_e := Lib.hid hE_e
              have HC1_e := Lib.hid hC1_e
              have hfit_e := hG_e.fits
              have hcnt_e := usedF_count s_e.recs
              have hby_e : d_e.bytes ≤ 40000 := by unfold Dk.bytes Dk.half halfN; omega
              obtain ⟨L_e, hL_e⟩ : ∃ L, s_e.recs = L := ⟨_, rfl⟩
              rw [hL_e] at HEl_e hrl_e hcnt_e hfit_e
              obtain ⟨nv_e, hnv_e⟩ : ∃ nv, vals_e.length = nv := ⟨_, rfl⟩
              rw [hsk_e] at hcr_e
              have hnl_e : L_e.length = nv_e := by omega
              have hnv4_e : nv_e ≤ 4000 := by omega
              clear hR_e hE_e hG_e hC1_e hsk_e hfit_e hcnt_e hby_e hrl_e hL_e
              rw [hnv_e]
              rw [hnv_e] at hcv1_e
              go_wp2_with fail
              refine HC1_e.out.mono ?_
              rintro e wA_e ⟨rfl, c2_e, hC2_e⟩
              have HC2_e := Lib.hid hC2_e
              clear hC2_e HC1_e c0_e
              go_wp2_with fail
              refine HC2_e.out.mono ?_
              rintro e wB_e ⟨rfl, hC3_e⟩
              have HC3_e := Lib.hid hC3_e
              clear hC3_e HC2_e c2_e
              go_wp2_with fail
              refine HC3_e.out.mono ?_
              rintro e wC_e ⟨rfl, ⟨H_e, hq_e, hH_e, hb_e⟩, hrow_e⟩
              obtain ⟨dd_e, hR2_e⟩ := reopened2 hokc_e (by omega) (Dk.crash_free _ _) hq_e hH_e hb_e
              have hgf_e : (d_e.crash l3).found.gone = false := rfl
              have hsf_e : (d_e.crash l3).found.safe = (d_e.crash l3).found.recs.length := rfl
              generalize (d_e.crash l3).found = sF_e at *
              have hLF_e : sF_e.tellL = sF_e.recs := by unfold Lg.tellL; rw [hgf_e]; rfl
              have hNF_e : sF_e.tellN = sF_e.recs.length := by unfold Lg.tellN; rw [hgf_e, hsf_e]; rfl
              obtain ⟨gw_e, gr_e, c1_e, c3_e, ⟨Ar_e, cr_e, c2_e, hcr1_e, hcr2_e, hPr_e⟩, hrec_e, _⟩ := hR2_e.tell
              rw [hLF_e] at hrec_e
              rw [hnv_e] at hrow_e
              have HR2_e := Lib.hid hR2_e
              have HRow_e := Lib.hid hrow_e
              have hSF_e : ∀ x, RunP W x gp gd M dd_e sF_e → x.cell? ⟨gp, 1, none⟩ = some (.pointer (some ⟨gw_e, 0, none⟩)) → Calls Try.prog 26 #[.pointer (some ⟨gw_e, 0, none⟩)] x fun e w' => e = .returned (.int .i64 (sF_e.recs.length : Nat)) ∧ x = w' := fun x hx hcx => by
                obtain ⟨gw', gr', q1, _, _, _, q2⟩ := hx.tell
                rw [hcx] at q1
                injection q1 with q1
                injection q1 with q1
                injection q1 with q1
                injection q1 with q1
                subst q1
                rw [hNF_e] at q2
                exact q2
              obtain ⟨R_e, hRR_e⟩ : ∃ R, sF_e.recs = R := ⟨_, rfl⟩
              rw [hRR_e] at hPr_e hrec_e hcr_e c2_e hcr1_e hSF_e
              obtain ⟨nR_e, hnR_e⟩ : ∃ nR, R_e.length = nR := ⟨_, rfl⟩
              have HT_e : Hid (∀ W0, ToldL R_e W0 = fun e w' => ∃ A c vals, e = .returned (.slice A nR_e c) ∧ w'.ownsRow W0.heap.size 40 1 (.slice A nR_e c) nR_e vals ∧ Fam w' W0.heap.size vals R_e ∧ Below W0.heap.size W0 w') := fun W0 => by
                show _ = _
                unfold ToldL
                rw [hnR_e]
              rw [hnR_e] at hPr_e hcr_e c2_e hcr1_e hSF_e
              rw [HT_e.out] at hrec_e
              have HSF_e := Lib.hid hSF_e
              have HPr_e := Lib.hid hPr_e
              have HC4_e := Lib.hid hrec_e
              have hge_e : (k : Int) ≤ (nR_e : Int) := by omega
              clear hrec_e hR2_e hPr_e hq_e hH_e hb_e hrow_e HC3_e hLF_e hNF_e hgf_e hsf_e hSF_e hRR_e hokc_e
              go_wp2_with fail
              refine HC4_e.out.mono ?_
              rintro e wD_e ⟨AD_e, cD_e, valsD_e, rfl, hoD_e, hfD_e, hbD_e⟩
              have HR3_e := Lib.hid (HR2_e.out.below hbD_e)
              have HPn_e : Hid (Parts wD_e wD_e.heap.size AD_e nR_e R_e) := told_parts hnR_e.symm hoD_e hfD_e
              have HPr3_e := Lib.hid (HPr_e.out.below hbD_e)
              have hrow3_e := own_below HRow_e.out hbD_e (fun k e => (HRow_e.out.lt k e).2)
              have HPa_e : Hid (Parts wD_e wD_e.heap.size Av_e nv_e L_e) := HEl_e.out.parts HR3_e.out.size (by rw [hnv_e]; exact hrow3_e) hnl_e.symm
              have e1_e : wD_e.cell? ⟨gp, 1, none⟩ = some (.pointer (some ⟨gw_e, 0, none⟩)) := (hbD_e.cell (World.block_lt_of_cell? _ _ c1_e)).trans c1_e
              have e3_e : wD_e.cell? ⟨gp, 3, none⟩ = some (.pointer (some ⟨gr_e, 0, none⟩)) := (hbD_e.cell (World.block_lt_of_cell? _ _ c3_e)).trans c3_e
              have e2_e : wD_e.cell? ⟨gr_e, 2, none⟩ = some (.slice Ar_e nR_e cr_e) := (hbD_e.cell (World.block_lt_of_cell? _ _ c2_e)).trans c2_e
              have hnR4_e : nR_e ≤ 9223372036854775807 := by unfold maxLen at hcr2_e; omega
              have hcv9_e : cv_e ≤ 9223372036854775807 := by unfold maxLen at hcv2_e; exact hcv2_e
              have HS1_e : Hid (∀ w', Below wD_e.heap.size wD_e w' → Calls Try.prog 25 #[.slice Ar_e nR_e cr_e, .slice Av_e nv_e cv_e] w' fun e w'' => e = .returned (.bool (beginsL R_e L_e)) ∧ ∃ q, w'.drewN q = w'') := fun w' hb => begins_any Ar_e Av_e nR_e cr_e nv_e cv_e _ _ R_e L_e w' hnR4_e hcv1_e hcv9_e (HPr3_e.out.below (hb.mono hbD_e.size)) (HPa_e.out.below hb)
              have HS2_e : Hid (∀ w', Below wD_e.heap.size wD_e w' → Calls Try.prog 25 #[.slice AD_e nR_e cD_e, .slice Av_e nv_e cv_e] w' fun e w'' => e = .returned (.bool (beginsL R_e L_e)) ∧ ∃ q, w'.drewN q = w'') := fun w' hb => begins_any AD_e Av_e nR_e cD_e nv_e cv_e _ _ R_e L_e w' hnR4_e hcv1_e hcv9_e (HPn_e.out.below hb) (HPa_e.out.below hb)
              have HK2_e : Hid (∀ w', Below wD_e.heap.size wD_e w' → Calls Try.prog 9 #[] w' fun e w'' => e = .returned (.bool true) ∧ Below W.heap.size W w'') := fun w' hb => HKn.out w' (HR3_e.out.below hb).size
              have HSG_e : Hid (∀ w', Below wD_e.heap.size wD_e w' → w'.cell? ⟨gp, 1, none⟩ = some (.pointer (some ⟨gw_e, 0, none⟩)) ∧ Calls Try.prog 26 #[.pointer (some ⟨gw_e, 0, none⟩)] w' fun e w'' => e = .returned (.int .i64 (nR_e : Nat)) ∧ w' = w'') := fun w' hb => by
                have hcx := (hb.cell (World.block_lt_of_cell? _ _ e1_e)).trans e1_e
                exact ⟨hcx, HSF_e.out w' (HR3_e.out.below hb) hcx⟩
              clear hoD_e hfD_e hbD_e HC4_e HR2_e HPr_e c1_e c3_e c2_e hrow3_e HRow_e HSF_e e1_e
              generalize beginsL R_e L_e = x_e at *
              go_wp2_with fail
              refine (HS1_e.out _ (Below.refl _ _)).mono ?_
              rintro e wE_e ⟨rfl, q5_e, hq5_e⟩
              have HBE_e : Hid (Below wD_e.heap.size wD_e wE_e) := by rw [← hq5_e]; exact bel_drewN (Below.refl _ _) q5_e
              clear hq5_e
              cases x_e with
              | false =>
                go_wp2_with fail
                refine (HK2_e.out _ HBE_e.out).mono ?_
                rintro e w' ⟨rfl, hbf⟩
                have HF := Lib.hid hbf
                clear hbf
                go_wp2
                go_ret
                exact ⟨rfl, HF.out⟩
              | true =>
                go_wp2_with fail
                refine (HS2_e.out _ HBE_e.out).mono ?_
                rintro e wF_e ⟨rfl, q6_e, hq6_e⟩
                have HBF_e : Hid (Below wD_e.heap.size wD_e wF_e) := by rw [← hq6_e]; exact bel_drewN HBE_e.out q6_e
                obtain ⟨f1_e, hsg_e⟩ := HSG_e.out _ HBF_e.out
                have HG_e := Lib.hid hsg_e
                clear hq6_e hsg_e
                go_wp2_with fail
                refine HG_e.out.mono ?_
                rintro e wG_e ⟨rfl, rfl⟩
                go_wp2_with fail
                refine (HK2_e.out _ HBF_e.out).mono ?_
                rintro e w' ⟨rfl, hbf⟩
                have HF := Lib.hid hbf
                clear hbf
                go_wp2
                go_ret
                exact ⟨rfl, HF.out⟩
            · have hs2' : s2 = s := hs2
              subst hs2'
              have hrb0 : (r == 0) = false := by simpa using hr0
              have hrb6 : (r == 6) = false := by simpa using hr6
              have HQ : Hid (SafeS W w5 gp gd M (.slice Av nv cv) (j + 1) k) := by
                rw [← hnv]
                exact ⟨_, _, _, HR5.out, HE.out, hG2, hg, hsk, by omega, by omega⟩
              clear HR5 t5 hr0 hr6
              generalize Value.slice Av nv cv = vv at HQ ⊢
              by_cases hjs_d : j < n2
              · obtain ⟨b2_d, o2_d, rfl, hb2_d, hcl_d⟩ := H2.out (by omega)
                have hcs_d := hcl_d j hjs_d
                have hszq_d : Below W.heap.size W w5 := by
                  obtain ⟨_, _, _, hR, _⟩ := HQ.out
                  exact hR.size
                have hcq_d : w5.cell? ⟨b2_d, o2_d + j, none⟩ = some (.bool (l2 j)) := (hszq_d.cell hb2_d).trans hcs_d
                obtain ⟨bj_d, hbj_d⟩ : ∃ bj, l2 j = bj := ⟨_, rfl⟩
                rw [hbj_d] at hcq_d
                clear hcl_d hcs_d hb2_d hszq_d hbj_d
                cases bj_d with
                | false =>
                  go_wp2
                  go_roundg (gk - 1)
                  case measure => omega
                  case rel => exact ⟨j + 1, k, rfl, by go_num, by omega, HQ⟩
                | true =>
                  obtain ⟨dq_d, sq_d, vq_d, hRq_d, hEq_d, hGq_d, hgq_d, hskq_d, hwq_d, hlq_d⟩ := HQ.out
                  obtain ⟨gwq_d, cwq_d, hCq_d⟩ := hRq_d.sync (by omega)
                  have hGS_d := hGq_d.sync hgq_d
                  have hws_d := syncL_waits sq_d dq_d
                  have hls_d := syncL_len sq_d dq_d
                  obtain ⟨Aq_d, cq_d, hvq_d, _, _⟩ := own_shape hRq_d.row
                  subst hvq_d
                  have HEq_d := Lib.hid hEq_d
                  have HCq_d := Lib.hid hCq_d
                  have HGS_d := Lib.hid hGS_d
                  have hle_d := hEq_d.1
                  obtain ⟨⟨rq_d, sr_d, dr_d⟩, hrq_d⟩ : ∃ p, sq_d.sync dq_d = p := ⟨_, rfl⟩
                  rw [hrq_d] at HCq_d HGS_d hws_d hls_d
                  simp only at hws_d hls_d
                  obtain ⟨nq_d, hnq_d⟩ : ∃ nq, vq_d.length = nq := ⟨_, rfl⟩
                  rw [hnq_d]
                  clear hrq_d hRq_d hEq_d hGq_d hCq_d hGS_d hgq_d
                  go_wp2_with fail
                  refine HCq_d.out.mono ?_
                  rintro e wS_d ⟨rfl, hbS_d, _, grS_d, crS_d, hCS_d⟩
                  have HCS_d := Lib.hid (hCS_d _ (Below.refl _ _))
                  clear hCS_d HCq_d cwq_d hbS_d hcq_d
                  go_wp2_with fail
                  refine HCS_d.out.mono ?_
                  rintro e wT_d ⟨rfl, _, hRT_d⟩
                  have HRT_d := Lib.hid hRT_d
                  clear hRT_d HCS_d crS_d
                  rcases HGS_d.out with ⟨hG3_d, hrc3_d, ⟨rfl, hsf3_d, hgn3_d⟩ | ⟨hr3_d, hsf3_d⟩⟩
                  · have HN_d : Hid (SafeS W wT_d gp gd M (.slice Aq_d nq_d cq_d) (j + 1) nq_d) := by
                      rw [← hnq_d]
                      exact ⟨_, _, _, HRT_d.out, by rw [hrc3_d]; exact HEq_d.out, hG3_d, hgn3_d, by rw [hsf3_d]; exact hle_d.symm, by omega, by omega⟩
                    clear HRT_d HGS_d hG3_d hrc3_d hsf3_d hgn3_d
                    go_wp2
                    go_roundg (gk - 1)
                    case measure => omega
                    case rel => exact ⟨j + 1, nq_d, rfl, by go_num, by omega, HN_d⟩
                  · have HN_d : Hid (SafeE W wT_d gp gd M (.slice Aq_d nq_d cq_d) k) := by
                      rw [← hnq_d]
                      exact ⟨_, _, _, HRT_d.out, by rw [hrc3_d]; exact HEq_d.out, hG3_d, by rw [hsf3_d]; exact hskq_d, by omega, by omega⟩
                    have hrb_d : (rq_d != 0) = true := by simpa using hr3_d
                    clear HRT_d HGS_d hG3_d hrc3_d hsf3_d hr3_d
                    obtain ⟨d_dt, s_dt, vals_dt, hR_dt, hE_dt, hG_dt, hsk_dt, hw_dt, hl_dt⟩ := HN_d.out
                    obtain ⟨Av_dt, cv_dt, hvv_dt, hcv1_dt, hcv2_dt⟩ := own_shape hR_dt.row
                    injection hvv_dt with i1_dt i2_dt i3_dt
                    have i1_dt := i1_dt.symm
                    have i3_dt := i3_dt.symm
                    subst i1_dt i3_dt
                    obtain ⟨c0_dt, hC1_dt⟩ := hR_dt.crashes (by omega) A3 n3 c3 l3 (by omega) H3.out
                    have hcr_dt := hG_dt.crash l3
                    have hokc_dt := Dk.crash_ok hG_dt.ok l3
                    have hlc_dt := Dk.crash_len d_dt l3
                    have hrl_dt := hE_dt.1
                    have HEl_dt := Lib.hid hE_dt
                    have HC1_dt := Lib.hid hC1_dt
                    have hfit_dt := hG_dt.fits
                    have hcnt_dt := usedF_count s_dt.recs
                    have hby_dt : d_dt.bytes ≤ 40000 := by unfold Dk.bytes Dk.half halfN; omega
                    obtain ⟨L_dt, hL_dt⟩ : ∃ L, s_dt.recs = L := ⟨_, rfl⟩
                    rw [hL_dt] at HEl_dt hrl_dt hcnt_dt hfit_dt
                    obtain ⟨nv_dt, hnv_dt⟩ : ∃ nv, vals_dt.length = nv := ⟨_, rfl⟩
                    rw [hsk_dt] at hcr_dt
                    have hnl_dt : L_dt.length = nv_dt := by omega
                    have hnv4_dt : nv_dt ≤ 4000 := by omega
                    clear hR_dt hE_dt hG_dt hC1_dt hsk_dt hfit_dt hcnt_dt hby_dt hrl_dt hL_dt
                    rw [hnv_dt] at hcv1_dt
                    have i4_dt : nv_dt = nq_d := by rw [← hnv_dt]; exact i2_dt.symm
                    clear i2_dt
                    subst i4_dt
                    go_wp2_with fail
                    refine HC1_dt.out.mono ?_
                    rintro e wA_dt ⟨rfl, c2_dt, hC2_dt⟩
                    have HC2_dt := Lib.hid hC2_dt
                    clear hC2_dt HC1_dt c0_dt
                    go_wp2_with fail
                    refine HC2_dt.out.mono ?_
                    rintro e wB_dt ⟨rfl, hC3_dt⟩
                    have HC3_dt := Lib.hid hC3_dt
                    clear hC3_dt HC2_dt c2_dt
                    go_wp2_with fail
                    refine HC3_dt.out.mono ?_
                    rintro e wC_dt ⟨rfl, ⟨H_dt, hq_dt, hH_dt, hb_dt⟩, hrow_dt⟩
                    obtain ⟨dd_dt, hR2_dt⟩ := reopened2 hokc_dt (by omega) (Dk.crash_free _ _) hq_dt hH_dt hb_dt
                    have hgf_dt : (d_dt.crash l3).found.gone = false := rfl
                    have hsf_dt : (d_dt.crash l3).found.safe = (d_dt.crash l3).found.recs.length := rfl
                    generalize (d_dt.crash l3).found = sF_dt at *
                    have hLF_dt : sF_dt.tellL = sF_dt.recs := by unfold Lg.tellL; rw [hgf_dt]; rfl
                    have hNF_dt : sF_dt.tellN = sF_dt.recs.length := by unfold Lg.tellN; rw [hgf_dt, hsf_dt]; rfl
                    obtain ⟨gw_dt, gr_dt, c1_dt, c3_dt, ⟨Ar_dt, cr_dt, c2_dt, hcr1_dt, hcr2_dt, hPr_dt⟩, hrec_dt, _⟩ := hR2_dt.tell
                    rw [hLF_dt] at hrec_dt
                    rw [hnv_dt] at hrow_dt
                    have HR2_dt := Lib.hid hR2_dt
                    have HRow_dt := Lib.hid hrow_dt
                    have hSF_dt : ∀ x, RunP W x gp gd M dd_dt sF_dt → x.cell? ⟨gp, 1, none⟩ = some (.pointer (some ⟨gw_dt, 0, none⟩)) → Calls Try.prog 26 #[.pointer (some ⟨gw_dt, 0, none⟩)] x fun e w' => e = .returned (.int .i64 (sF_dt.recs.length : Nat)) ∧ x = w' := fun x hx hcx => by
                      obtain ⟨gw', gr', q1, _, _, _, q2⟩ := hx.tell
                      rw [hcx] at q1
                      injection q1 with q1
                      injection q1 with q1
                      injection q1 with q1
                      injection q1 with q1
                      subst q1
                      rw [hNF_dt] at q2
                      exact q2
                    obtain ⟨R_dt, hRR_dt⟩ : ∃ R, sF_dt.recs = R := ⟨_, rfl⟩
                    rw [hRR_dt] at hPr_dt hrec_dt hcr_dt c2_dt hcr1_dt hSF_dt
                    obtain ⟨nR_dt, hnR_dt⟩ : ∃ nR, R_dt.length = nR := ⟨_, rfl⟩
                    have HT_dt : Hid (∀ W0, ToldL R_dt W0 = fun e w' => ∃ A c vals, e = .returned (.slice A nR_dt c) ∧ w'.ownsRow W0.heap.size 40 1 (.slice A nR_dt c) nR_dt vals ∧ Fam w' W0.heap.size vals R_dt ∧ Below W0.heap.size W0 w') := fun W0 => by
                      show _ = _
                      unfold ToldL
                      rw [hnR_dt]
                    rw [hnR_dt] at hPr_dt hcr_dt c2_dt hcr1_dt hSF_dt
                    rw [HT_dt.out] at hrec_dt
                    have HSF_dt := Lib.hid hSF_dt
                    have HPr_dt := Lib.hid hPr_dt
                    have HC4_dt := Lib.hid hrec_dt
                    have hge_dt : (k : Int) ≤ (nR_dt : Int) := by omega
                    clear hrec_dt hR2_dt hPr_dt hq_dt hH_dt hb_dt hrow_dt HC3_dt hLF_dt hNF_dt hgf_dt hsf_dt hSF_dt hRR_dt hokc_dt
                    go_wp2_with fail
                    refine HC4_dt.out.mono ?_
                    rintro e wD_dt ⟨AD_dt, cD_dt, valsD_dt, rfl, hoD_dt, hfD_dt, hbD_dt⟩
                    have HR3_dt := Lib.hid (HR2_dt.out.below hbD_dt)
                    have HPn_dt : Hid (Parts wD_dt wD_dt.heap.size AD_dt nR_dt R_dt) := told_parts hnR_dt.symm hoD_dt hfD_dt
                    have HPr3_dt := Lib.hid (HPr_dt.out.below hbD_dt)
                    have hrow3_dt := own_below HRow_dt.out hbD_dt (fun k e => (HRow_dt.out.lt k e).2)
                    have HPa_dt : Hid (Parts wD_dt wD_dt.heap.size Av_dt nv_dt L_dt) := HEl_dt.out.parts HR3_dt.out.size (by rw [hnv_dt]; exact hrow3_dt) hnl_dt.symm
                    have e1_dt : wD_dt.cell? ⟨gp, 1, none⟩ = some (.pointer (some ⟨gw_dt, 0, none⟩)) := (hbD_dt.cell (World.block_lt_of_cell? _ _ c1_dt)).trans c1_dt
                    have e3_dt : wD_dt.cell? ⟨gp, 3, none⟩ = some (.pointer (some ⟨gr_dt, 0, none⟩)) := (hbD_dt.cell (World.block_lt_of_cell? _ _ c3_dt)).trans c3_dt
                    have e2_dt : wD_dt.cell? ⟨gr_dt, 2, none⟩ = some (.slice Ar_dt nR_dt cr_dt) := (hbD_dt.cell (World.block_lt_of_cell? _ _ c2_dt)).trans c2_dt
                    have hnR4_dt : nR_dt ≤ 9223372036854775807 := by unfold maxLen at hcr2_dt; omega
                    have hcv9_dt : cv_dt ≤ 9223372036854775807 := by unfold maxLen at hcv2_dt; exact hcv2_dt
                    have HS1_dt : Hid (∀ w', Below wD_dt.heap.size wD_dt w' → Calls Try.prog 25 #[.slice Ar_dt nR_dt cr_dt, .slice Av_dt nv_dt cv_dt] w' fun e w'' => e = .returned (.bool (beginsL R_dt L_dt)) ∧ ∃ q, w'.drewN q = w'') := fun w' hb => begins_any Ar_dt Av_dt nR_dt cr_dt nv_dt cv_dt _ _ R_dt L_dt w' hnR4_dt hcv1_dt hcv9_dt (HPr3_dt.out.below (hb.mono hbD_dt.size)) (HPa_dt.out.below hb)
                    have HS2_dt : Hid (∀ w', Below wD_dt.heap.size wD_dt w' → Calls Try.prog 25 #[.slice AD_dt nR_dt cD_dt, .slice Av_dt nv_dt cv_dt] w' fun e w'' => e = .returned (.bool (beginsL R_dt L_dt)) ∧ ∃ q, w'.drewN q = w'') := fun w' hb => begins_any AD_dt Av_dt nR_dt cD_dt nv_dt cv_dt _ _ R_dt L_dt w' hnR4_dt hcv1_dt hcv9_dt (HPn_dt.out.below hb) (HPa_dt.out.below hb)
                    have HK2_dt : Hid (∀ w', Below wD_dt.heap.size wD_dt w' → Calls Try.prog 9 #[] w' fun e w'' => e = .returned (.bool true) ∧ Below W.heap.size W w'') := fun w' hb => HKn.out w' (HR3_dt.out.below hb).size
                    have HSG_dt : Hid (∀ w', Below wD_dt.heap.size wD_dt w' → w'.cell? ⟨gp, 1, none⟩ = some (.pointer (some ⟨gw_dt, 0, none⟩)) ∧ Calls Try.prog 26 #[.pointer (some ⟨gw_dt, 0, none⟩)] w' fun e w'' => e = .returned (.int .i64 (nR_dt : Nat)) ∧ w' = w'') := fun w' hb => by
                      have hcx := (hb.cell (World.block_lt_of_cell? _ _ e1_dt)).trans e1_dt
                      exact ⟨hcx, HSF_dt.out w' (HR3_dt.out.below hb) hcx⟩
                    clear hoD_dt hfD_dt hbD_dt HC4_dt HR2_dt HPr_dt c1_dt c3_dt c2_dt hrow3_dt HRow_dt HSF_dt e1_dt
                    generalize beginsL R_dt L_dt = x_dt at *
                    go_wp2_with fail
                    refine (HS1_dt.out _ (Below.refl _ _)).mono ?_
                    rintro e wE_dt ⟨rfl, q5_dt, hq5_dt⟩
                    have HBE_dt : Hid (Below wD_dt.heap.size wD_dt wE_dt) := by rw [← hq5_dt]; exact bel_drewN (Below.refl _ _) q5_dt
                    clear hq5_dt
                    cases x_dt with
                    | false =>
                      go_wp2_with fail
                      refine (HK2_dt.out _ HBE_dt.out).mono ?_
                      rintro e w' ⟨rfl, hbf⟩
                      have HF := Lib.hid hbf
                      clear hbf
                      go_wp2
                      go_ret
                      exact ⟨rfl, HF.out⟩
                    | true =>
                      go_wp2_with fail
                      refine (HS2_dt.out _ HBE_dt.out).mono ?_
                      rintro e wF_dt ⟨rfl, q6_dt, hq6_dt⟩
                      have HBF_dt : Hid (Below wD_dt.heap.size wD_dt wF_dt) := by rw [← hq6_dt]; exact bel_drewN HBE_dt.out q6_dt
                      obtain ⟨f1_dt, hsg_dt⟩ := HSG_dt.out _ HBF_dt.out
                      have HG_dt := Lib.hid hsg_dt
                      clear hq6_dt hsg_dt
                      go_wp2_with fail
                      refine HG_dt.out.mono ?_
                      rintro e wG_dt ⟨rfl, rfl⟩
                      go_wp2_with fail
                      refine (HK2_dt.out _ HBF_dt.out).mono ?_
                      rintro e w' ⟨rfl, hbf⟩
                      have HF := Lib.hid hbf
                      clear hbf
                      go_wp2
                      go_ret
                      exact ⟨rfl, HF.out⟩
              · go_wp2
                go_roundg (gk - 1)
                case measure => omega
                case rel => exact ⟨j + 1, k, rfl, by go_num, by omega, HQ⟩
        · have HQ := Lib.hid (HS.out.done (by omega))
          obtain ⟨d_f, s_f, vals_f, hR_f, hE_f, hG_f, hsk_f, hw_f, hl_f⟩ := HQ.out
          obtain ⟨Av_f, cv_f, hvv_f, hcv1_f, hcv2_f⟩ := own_shape hR_f.row
          subst hvv_f
          obtain ⟨c0_f, hC1_f⟩ := hR_f.crashes (by omega) A3 n3 c3 l3 (by omega) H3.out
          have hcr_f := hG_f.crash l3
          have hokc_f := Dk.crash_ok hG_f.ok l3
          have hlc_f := Dk.crash_len d_f l3
          have hrl_f := hE_f.1
          have HEl_f := Lib.hid hE_f
          have HC1_f := Lib.hid hC1_f
          have hfit_f := hG_f.fits
          have hcnt_f := usedF_count s_f.recs
          have hby_f : d_f.bytes ≤ 40000 := by unfold Dk.bytes Dk.half halfN; omega
          obtain ⟨L_f, hL_f⟩ : ∃ L, s_f.recs = L := ⟨_, rfl⟩
          rw [hL_f] at HEl_f hrl_f hcnt_f hfit_f
          obtain ⟨nv_f, hnv_f⟩ : ∃ nv, vals_f.length = nv := ⟨_, rfl⟩
          rw [hsk_f] at hcr_f
          have hnl_f : L_f.length = nv_f := by omega
          have hnv4_f : nv_f ≤ 4000 := by omega
          clear hR_f hE_f hG_f hC1_f hsk_f hfit_f hcnt_f hby_f hrl_f hL_f
          rw [hnv_f]
          rw [hnv_f] at hcv1_f
          go_wp2_with fail
          refine HC1_f.out.mono ?_
          rintro e wA_f ⟨rfl, c2_f, hC2_f⟩
          have HC2_f := Lib.hid hC2_f
          clear hC2_f HC1_f c0_f
          go_wp2_with fail
          refine HC2_f.out.mono ?_
          rintro e wB_f ⟨rfl, hC3_f⟩
          have HC3_f := Lib.hid hC3_f
          clear hC3_f HC2_f c2_f
          go_wp2_with fail
          refine HC3_f.out.mono ?_
          rintro e wC_f ⟨rfl, ⟨H_f, hq_f, hH_f, hb_f⟩, hrow_f⟩
          obtain ⟨dd_f, hR2_f⟩ := reopened2 hokc_f (by omega) (Dk.crash_free _ _) hq_f hH_f hb_f
          have hgf_f : (d_f.crash l3).found.gone = false := rfl
          have hsf_f : (d_f.crash l3).found.safe = (d_f.crash l3).found.recs.length := rfl
          generalize (d_f.crash l3).found = sF_f at *
          have hLF_f : sF_f.tellL = sF_f.recs := by unfold Lg.tellL; rw [hgf_f]; rfl
          have hNF_f : sF_f.tellN = sF_f.recs.length := by unfold Lg.tellN; rw [hgf_f, hsf_f]; rfl
          obtain ⟨gw_f, gr_f, c1_f, c3_f, ⟨Ar_f, cr_f, c2_f, hcr1_f, hcr2_f, hPr_f⟩, hrec_f, _⟩ := hR2_f.tell
          rw [hLF_f] at hrec_f
          rw [hnv_f] at hrow_f
          have HR2_f := Lib.hid hR2_f
          have HRow_f := Lib.hid hrow_f
          have hSF_f : ∀ x, RunP W x gp gd M dd_f sF_f → x.cell? ⟨gp, 1, none⟩ = some (.pointer (some ⟨gw_f, 0, none⟩)) → Calls Try.prog 26 #[.pointer (some ⟨gw_f, 0, none⟩)] x fun e w' => e = .returned (.int .i64 (sF_f.recs.length : Nat)) ∧ x = w' := fun x hx hcx => by
            obtain ⟨gw', gr', q1, _, _, _, q2⟩ := hx.tell
            rw [hcx] at q1
            injection q1 with q1
            injection q1 with q1
            injection q1 with q1
            injection q1 with q1
            subst q1
            rw [hNF_f] at q2
            exact q2
          obtain ⟨R_f, hRR_f⟩ : ∃ R, sF_f.recs = R := ⟨_, rfl⟩
          rw [hRR_f] at hPr_f hrec_f hcr_f c2_f hcr1_f hSF_f
          obtain ⟨nR_f, hnR_f⟩ : ∃ nR, R_f.length = nR := ⟨_, rfl⟩
          have HT_f : Hid (∀ W0, ToldL R_f W0 = fun e w' => ∃ A c vals, e = .returned (.slice A nR_f c) ∧ w'.ownsRow W0.heap.size 40 1 (.slice A nR_f c) nR_f vals ∧ Fam w' W0.heap.size vals R_f ∧ Below W0.heap.size W0 w') := fun W0 => by
            show _ = _
            unfold ToldL
            rw [hnR_f]
          rw [hnR_f] at hPr_f hcr_f c2_f hcr1_f hSF_f
          rw [HT_f.out] at hrec_f
          have HSF_f := Lib.hid hSF_f
          have HPr_f := Lib.hid hPr_f
          have HC4_f := Lib.hid hrec_f
          have hge_f : (k : Int) ≤ (nR_f : Int) := by omega
          clear hrec_f hR2_f hPr_f hq_f hH_f hb_f hrow_f HC3_f hLF_f hNF_f hgf_f hsf_f hSF_f hRR_f hokc_f
          go_wp2_with fail
          refine HC4_f.out.mono ?_
          rintro e wD_f ⟨AD_f, cD_f, valsD_f, rfl, hoD_f, hfD_f, hbD_f⟩
          have HR3_f := Lib.hid (HR2_f.out.below hbD_f)
          have HPn_f : Hid (Parts wD_f wD_f.heap.size AD_f nR_f R_f) := told_parts hnR_f.symm hoD_f hfD_f
          have HPr3_f := Lib.hid (HPr_f.out.below hbD_f)
          have hrow3_f := own_below HRow_f.out hbD_f (fun k e => (HRow_f.out.lt k e).2)
          have HPa_f : Hid (Parts wD_f wD_f.heap.size Av_f nv_f L_f) := HEl_f.out.parts HR3_f.out.size (by rw [hnv_f]; exact hrow3_f) hnl_f.symm
          have e1_f : wD_f.cell? ⟨gp, 1, none⟩ = some (.pointer (some ⟨gw_f, 0, none⟩)) := (hbD_f.cell (World.block_lt_of_cell? _ _ c1_f)).trans c1_f
          have e3_f : wD_f.cell? ⟨gp, 3, none⟩ = some (.pointer (some ⟨gr_f, 0, none⟩)) := (hbD_f.cell (World.block_lt_of_cell? _ _ c3_f)).trans c3_f
          have e2_f : wD_f.cell? ⟨gr_f, 2, none⟩ = some (.slice Ar_f nR_f cr_f) := (hbD_f.cell (World.block_lt_of_cell? _ _ c2_f)).trans c2_f
          have hnR4_f : nR_f ≤ 9223372036854775807 := by unfold maxLen at hcr2_f; omega
          have hcv9_f : cv_f ≤ 9223372036854775807 := by unfold maxLen at hcv2_f; exact hcv2_f
          have HS1_f : Hid (∀ w', Below wD_f.heap.size wD_f w' → Calls Try.prog 25 #[.slice Ar_f nR_f cr_f, .slice Av_f nv_f cv_f] w' fun e w'' => e = .returned (.bool (beginsL R_f L_f)) ∧ ∃ q, w'.drewN q = w'') := fun w' hb => begins_any Ar_f Av_f nR_f cr_f nv_f cv_f _ _ R_f L_f w' hnR4_f hcv1_f hcv9_f (HPr3_f.out.below (hb.mono hbD_f.size)) (HPa_f.out.below hb)
          have HS2_f : Hid (∀ w', Below wD_f.heap.size wD_f w' → Calls Try.prog 25 #[.slice AD_f nR_f cD_f, .slice Av_f nv_f cv_f] w' fun e w'' => e = .returned (.bool (beginsL R_f L_f)) ∧ ∃ q, w'.drewN q = w'') := fun w' hb => begins_any AD_f Av_f nR_f cD_f nv_f cv_f _ _ R_f L_f w' hnR4_f hcv1_f hcv9_f (HPn_f.out.below hb) (HPa_f.out.below hb)
          have HK2_f : Hid (∀ w', Below wD_f.heap.size wD_f w' → Calls Try.prog 9 #[] w' fun e w'' => e = .returned (.bool true) ∧ Below W.heap.size W w'') := fun w' hb => HKn.out w' (HR3_f.out.below hb).size
          have HSG_f : Hid (∀ w', Below wD_f.heap.size wD_f w' → w'.cell? ⟨gp, 1, none⟩ = some (.pointer (some ⟨gw_f, 0, none⟩)) ∧ Calls Try.prog 26 #[.pointer (some ⟨gw_f, 0, none⟩)] w' fun e w'' => e = .returned (.int .i64 (nR_f : Nat)) ∧ w' = w'') := fun w' hb => by
            have hcx := (hb.cell (World.block_lt_of_cell? _ _ e1_f)).trans e1_f
            exact ⟨hcx, HSF_f.out w' (HR3_f.out.below hb) hcx⟩
          clear hoD_f hfD_f hbD_f HC4_f HR2_f HPr_f c1_f c3_f c2_f hrow3_f HRow_f HSF_f e1_f
          generalize beginsL R_f L_f = x_f at *
          go_wp2_with fail
          refine (HS1_f.out _ (Below.refl _ _)).mono ?_
          rintro e wE_f ⟨rfl, q5_f, hq5_f⟩
          have HBE_f : Hid (Below wD_f.heap.size wD_f wE_f) := by rw [← hq5_f]; exact bel_drewN (Below.refl _ _) q5_f
          clear hq5_f
          cases x_f with
          | false =>
            go_wp2_with fail
            refine (HK2_f.out _ HBE_f.out).mono ?_
            rintro e w' ⟨rfl, hbf⟩
            have HF := Lib.hid hbf
            clear hbf
            go_wp2
            go_ret
            exact ⟨rfl, HF.out⟩
          | true =>
            go_wp2_with fail
            refine (HS2_f.out _ HBE_f.out).mono ?_
            rintro e wF_f ⟨rfl, q6_f, hq6_f⟩
            have HBF_f : Hid (Below wD_f.heap.size wD_f wF_f) := by rw [← hq6_f]; exact bel_drewN HBE_f.out q6_f
            obtain ⟨f1_f, hsg_f⟩ := HSG_f.out _ HBF_f.out
            have HG_f := Lib.hid hsg_f
            clear hq6_f hsg_f
            go_wp2_with fail
            refine HG_f.out.mono ?_
            rintro e wG_f ⟨rfl, rfl⟩
            go_wp2_with fail
            refine (HK2_f.out _ HBF_f.out).mono ?_
            rintro e w' ⟨rfl, hbf⟩
            have HF := Lib.hid hbf
            clear hbf
            go_wp2
            go_ret
            exact ⟨rfl, HF.out⟩
    · have hS : SafeS W w3 gp gd M (.slice none 0 0) 0 0 := ⟨_, _, _, RunK.start HR0.out, ⟨rfl, fun i hi => by simp at hi⟩, HG0.out, rfl, rfl, by omega, hln0⟩
      have HS := Lib.hid hS
      clear hS HR0 HG0
      go_wp2
      go_loopg [11, 12, 13] n1 (fun g av sv iv wr => ∃ (j k : Nat), sv = .int .i64 k ∧ iv = .int .i64 j ∧ j + g = n1 ∧ Hid (SafeS W wr gp gd M av j k))
      case atStart => exact ⟨0, 0, rfl, rfl, by omega, HS⟩
      case round =>
        clear HS
        obtain ⟨j, k, rfl, rfl, hk, HS⟩ := hrel
        by_cases hj : j < n1
        · obtain ⟨d, s, vals, hR, hE, hG, hg, hsk, hw, hl⟩ := HS.out
          obtain ⟨b, o, A', n', c', rfl, hb, hcell0, hn', hc', hrd⟩ := H1.out.2 j (by omega)
          have hlen := hsm.out j (by omega)
          rw [hrd.1] at hlen
          have HT : Hid (∀ w', Below W.heap.size W w' → w'.cell? ⟨b, o + j, none⟩ = some (.slice A' n' c')) := fun w' hb' => (hb'.cell hb).trans hcell0
          have t0 := HT.out wr hR.size
          obtain ⟨Av, cv, hvv, hcv1, hcv2⟩ := own_shape hR.row
          subst hvv
          obtain ⟨gw, cw, hC1⟩ := (hR.below (Below.refl _ _).drew).append (by omega) (by omega) A' n' c' l1[j] hn' hc' (by omega) hrd
          have hGA := hG.append hg l1[j]
          have hwa := append_waits s d l1[j] (by omega)
          have hla := append_len s d l1[j]
          have Hrd := Lib.hid hrd
          have HE := Lib.hid hE
          have HC1 := Lib.hid hC1
          have hvl := hE.1
          obtain ⟨⟨r, s2, d2⟩, hr⟩ : ∃ p, s.append d l1[j] = p := ⟨_, rfl⟩
          rw [hr] at HC1 hGA hwa hla
          simp only at hGA hwa hla
          have hfit := hG.fits
          have hcnt := usedF_count s.recs
          have hby : d.bytes ≤ 40000 := by unfold Dk.bytes Dk.half halfN; omega
          have HGA := Lib.hid hGA
          have cw : wr.cell? ⟨gp, 1, none⟩ = some (.pointer (some ⟨gw, 0, none⟩)) := cw
          obtain ⟨nv, hnv⟩ : ∃ nv, vals.length = nv := ⟨_, rfl⟩
          have hnv4 : nv ≤ 4000 := by omega
          rw [hnv] at hcv1
          rw [hnv]
          clear hr hR hE hG hC1 hrd hGA HS hb hcell0 hfit hcnt hby
          go_wp2
          have e1 : wr.drew.cell? ⟨gp, 1, none⟩ = some (.pointer (some ⟨gw, 0, none⟩)) := cw
          have e2 : wr.drew.cell? ⟨b, o + j, none⟩ = some (.slice A' n' c') := t0
          go_region_held3 (fun w' => w'.cell? ⟨gp, 1, none⟩ = some (.pointer (some ⟨gw, 0, none⟩)) ∧ w'.cell? ⟨b, o + j, none⟩ = some (.slice A' n' c')) (first | exact ⟨e1, e2⟩ | exact ⟨k1, k2⟩ | go_keep)
            (first | (go_at_call 19; refine HC1.out.mono ?_; rintro e w4 ⟨rfl, hb4, k1, gr, cr, hC2⟩; (have k2 := HT.out w4 hb4)))
          have t4 := HT.out w4 hb4
          have HC2 := Lib.hid (hC2 w4.drew (Below.refl _ _).drew)
          clear hC2 HC1 hb4 t0 cw e1 e2 k1 k2
          go_wp2
          have e1 : w4.drew.cell? ⟨gp, 3, none⟩ = some (.pointer (some ⟨gr, 0, none⟩)) := cr
          have e2 : w4.drew.cell? ⟨b, o + j, none⟩ = some (.slice A' n' c') := t4
          go_region_held3 (fun w' => w'.cell? ⟨gp, 3, none⟩ = some (.pointer (some ⟨gr, 0, none⟩)) ∧ w'.cell? ⟨b, o + j, none⟩ = some (.slice A' n' c')) (first | exact ⟨e1, e2⟩ | exact ⟨k1, k2⟩ | go_keep)
            (first | (go_at_call 20; refine HC2.out.mono ?_; rintro e w5 ⟨rfl, k1, hR5⟩; (have k2 := HT.out w5 hR5.size)))
          clear e1 e2 k1 k2
          all_goals
            have HR5 := Lib.hid hR5
            have t5 := HT.out w5 hR5.size
            clear hR5 HC2 t4 cr
            rcases HGA.out with ⟨hG2, hsf2, ⟨rfl, hrc2, hgn2⟩ | ⟨rfl, hrc2⟩ | ⟨hr0, hr6, hs2⟩⟩
            · have hb6_a := (Below.refl w5.heap.size w5).alloc (Nat.le_refl _) (.cells #[.slice A' n' c'] 40)
              have hRA_a := HR5.out.below hb6_a
              have hROW_a := hRA_a.row
              rw [hnv] at hROW_a
              have hszW_a := hRA_a.size.size
              have hmxl_a : maxLen = 9223372036854775807 := rfl
              clear hb6_a
              go_wp2_with (at_builtin; go_loud (refine wpList_append_app _ rfl _ _ 28 rfl W.heap.size 40 i1 (.slice none 0 0) 1 24 Try.underlying28 hi1 hy0 hy1 hy2 rfl _ nv vals rfl hROW_a (some ⟨w5.heap.size, 0, none⟩) 1 1 [Value.slice A' n' c'] rfl rfl (by intro h; cases h) (cell_new1 _ _ _) (by intro u hu; simp at hu; subst hu; rfl) (by omega) (by omega) hszW_a ?_))
              intro v' w6 happ
              have HR6_a : Hid (RunK W w6 gp gd M d2 s2 v' (vals ++ [.slice A' n' c'])) := hRA_a.push (by rw [hnv]; exact happ)
              have HE6_a : Hid (Elems W (vals ++ [.slice A' n' c']) s2.recs) := by rw [hrc2]; exact HE.out.push hn' hc' Hrd.out
              clear happ hRA_a hROW_a hszW_a HR5 t5
              have HQ : Hid (SafeS W w6 gp gd M v' (j + 1) k) := ⟨_, _, _, HR6_a.out, HE6_a.out, hG2, hgn2, hsf2.trans hsk, by omega, by omega⟩
              clear HR6_a HE6_a
              by_cases hjs_c : j < n2
              · obtain ⟨b2_c, o2_c, rfl, hb2_c, hcl_c⟩ := H2.out (by omega)
                have hcs_c := hcl_c j hjs_c
                have hszq_c : Below W.heap.size W w6 := by
                  obtain ⟨_, _, _, hR, _⟩ := HQ.out
                  exact hR.size
                have hcq_c : w6.cell? ⟨b2_c, o2_c + j, none⟩ = some (.bool (l2 j)) := (hszq_c.cell hb2_c).trans hcs_c
                obtain ⟨bj_c, hbj_c⟩ : ∃ bj, l2 j = bj := ⟨_, rfl⟩
                rw [hbj_c] at hcq_c
                clear hcl_c hcs_c hb2_c hszq_c hbj_c
                cases bj_c with
                | false =>
                  go_wp2
                  go_roundg (gk - 1)
                  case measure => omega
                  case rel => exact ⟨j + 1, k, rfl, by go_num, by omega, HQ⟩
                | true =>
                  obtain ⟨dq_c, sq_c, vq_c, hRq_c, hEq_c, hGq_c, hgq_c, hskq_c, hwq_c, hlq_c⟩ := HQ.out
                  obtain ⟨gwq_c, cwq_c, hCq_c⟩ := hRq_c.sync (by omega)
                  have hGS_c := hGq_c.sync hgq_c
                  have hws_c := syncL_waits sq_c dq_c
                  have hls_c := syncL_len sq_c dq_c
                  obtain ⟨Aq_c, cq_c, hvq_c, _, _⟩ := own_shape hRq_c.row
                  subst hvq_c
                  have HEq_c := Lib.hid hEq_c
                  have HCq_c := Lib.hid hCq_c
                  have HGS_c := Lib.hid hGS_c
                  have hle_c := hEq_c.1
                  obtain ⟨⟨rq_c, sr_c, dr_c⟩, hrq_c⟩ : ∃ p, sq_c.sync dq_c = p := ⟨_, rfl⟩
                  rw [hrq_c] at HCq_c HGS_c hws_c hls_c
                  simp only at hws_c hls_c
                  obtain ⟨nq_c, hnq_c⟩ : ∃ nq, vq_c.length = nq := ⟨_, rfl⟩
                  rw [hnq_c]
                  clear hrq_c hRq_c hEq_c hGq_c hCq_c hGS_c hgq_c
                  go_wp2_with fail
                  refine HCq_c.out.mono ?_
                  rintro e wS_c ⟨rfl, hbS_c, _, grS_c, crS_c, hCS_c⟩
                  have HCS_c := Lib.hid (hCS_c _ (Below.refl _ _))
                  clear hCS_c HCq_c cwq_c hbS_c hcq_c
                  go_wp2_with fail
                  refine HCS_c.out.mono ?_
                  rintro e wT_c ⟨rfl, _, hRT_c⟩
                  have HRT_c := Lib.hid hRT_c
                  clear hRT_c HCS_c crS_c
                  rcases HGS_c.out with ⟨hG3_c, hrc3_c, ⟨rfl, hsf3_c, hgn3_c⟩ | ⟨hr3_c, hsf3_c⟩⟩
                  · have HN_c : Hid (SafeS W wT_c gp gd M (.slice Aq_c nq_c cq_c) (j + 1) nq_c) := by
                      rw [← hnq_c]
                      exact ⟨_, _, _, HRT_c.out, by rw [hrc3_c]; exact HEq_c.out, hG3_c, hgn3_c, by rw [hsf3_c]; exact hle_c.symm, by omega, by omega⟩
                    clear HRT_c HGS_c hG3_c hrc3_c hsf3_c hgn3_c
                    go_wp2
                    go_roundg (gk - 1)
                    case measure => omega
                    case rel => exact ⟨j + 1, nq_c, rfl, by go_num, by omega, HN_c⟩
                  · have HN_c : Hid (SafeE W wT_c gp gd M (.slice Aq_c nq_c cq_c) k) := by
                      rw [← hnq_c]
                      exact ⟨_, _, _, HRT_c.out, by rw [hrc3_c]; exact HEq_c.out, hG3_c, by rw [hsf3_c]; exact hskq_c, by omega, by omega⟩
                    have hrb_c : (rq_c != 0) = true := by simpa using hr3_c
                    clear HRT_c HGS_c hG3_c hrc3_c hsf3_c hr3_c
                    obtain ⟨d_ct, s_ct, vals_ct, hR_ct, hE_ct, hG_ct, hsk_ct, hw_ct, hl_ct⟩ := HN_c.out
                    obtain ⟨Av_ct, cv_ct, hvv_ct, hcv1_ct, hcv2_ct⟩ := own_shape hR_ct.row
                    injection hvv_ct with i1_ct i2_ct i3_ct
                    have i1_ct := i1_ct.symm
                    have i3_ct := i3_ct.symm
                    subst i1_ct i3_ct
                    obtain ⟨c0_ct, hC1_ct⟩ := hR_ct.crashes (by omega) A3 n3 c3 l3 (by omega) H3.out
                    have hcr_ct := hG_ct.crash l3
                    have hokc_ct := Dk.crash_ok hG_ct.ok l3
                    have hlc_ct := Dk.crash_len d_ct l3
                    have hrl_ct := hE_ct.1
                    have HEl_ct := Lib.hid hE_ct
                    have HC1_ct := Lib.hid hC1_ct
                    have hfit_ct := hG_ct.fits
                    have hcnt_ct := usedF_count s_ct.recs
                    have hby_ct : d_ct.bytes ≤ 40000 := by unfold Dk.bytes Dk.half halfN; omega
                    obtain ⟨L_ct, hL_ct⟩ : ∃ L, s_ct.recs = L := ⟨_, rfl⟩
                    rw [hL_ct] at HEl_ct hrl_ct hcnt_ct hfit_ct
                    obtain ⟨nv_ct, hnv_ct⟩ : ∃ nv, vals_ct.length = nv := ⟨_, rfl⟩
                    rw [hsk_ct] at hcr_ct
                    have hnl_ct : L_ct.length = nv_ct := by omega
                    have hnv4_ct : nv_ct ≤ 4000 := by omega
                    clear hR_ct hE_ct hG_ct hC1_ct hsk_ct hfit_ct hcnt_ct hby_ct hrl_ct hL_ct
                    rw [hnv_ct] at hcv1_ct
                    have i4_ct : nv_ct = nq_c := by rw [← hnv_ct]; exact i2_ct.symm
                    clear i2_ct
                    subst i4_ct
                    go_wp2_with fail
                    refine HC1_ct.out.mono ?_
                    rintro e wA_ct ⟨rfl, c2_ct, hC2_ct⟩
                    have HC2_ct := Lib.hid hC2_ct
                    clear hC2_ct HC1_ct c0_ct
                    go_wp2_with fail
                    refine HC2_ct.out.mono ?_
                    rintro e wB_ct ⟨rfl, hC3_ct⟩
                    have HC3_ct := Lib.hid hC3_ct
                    clear hC3_ct HC2_ct c2_ct
                    go_wp2_with fail
                    refine HC3_ct.out.mono ?_
                    rintro e wC_ct ⟨rfl, ⟨H_ct, hq_ct, hH_ct, hb_ct⟩, hrow_ct⟩
                    obtain ⟨dd_ct, hR2_ct⟩ := reopened2 hokc_ct (by omega) (Dk.crash_free _ _) hq_ct hH_ct hb_ct
                    have hgf_ct : (d_ct.crash l3).found.gone = false := rfl
                    have hsf_ct : (d_ct.crash l3).found.safe = (d_ct.crash l3).found.recs.length := rfl
                    generalize (d_ct.crash l3).found = sF_ct at *
                    have hLF_ct : sF_ct.tellL = sF_ct.recs := by unfold Lg.tellL; rw [hgf_ct]; rfl
                    have hNF_ct : sF_ct.tellN = sF_ct.recs.length := by unfold Lg.tellN; rw [hgf_ct, hsf_ct]; rfl
                    obtain ⟨gw_ct, gr_ct, c1_ct, c3_ct, ⟨Ar_ct, cr_ct, c2_ct, hcr1_ct, hcr2_ct, hPr_ct⟩, hrec_ct, _⟩ := hR2_ct.tell
                    rw [hLF_ct] at hrec_ct
                    rw [hnv_ct] at hrow_ct
                    have HR2_ct := Lib.hid hR2_ct
                    have HRow_ct := Lib.hid hrow_ct
                    have hSF_ct : ∀ x, RunP W x gp gd M dd_ct sF_ct → x.cell? ⟨gp, 1, none⟩ = some (.pointer (some ⟨gw_ct, 0, none⟩)) → Calls Try.prog 26 #[.pointer (some ⟨gw_ct, 0, none⟩)] x fun e w' => e = .returned (.int .i64 (sF_ct.recs.length : Nat)) ∧ x = w' := fun x hx hcx => by
                      obtain ⟨gw', gr', q1, _, _, _, q2⟩ := hx.tell
                      rw [hcx] at q1
                      injection q1 with q1
                      injection q1 with q1
                      injection q1 with q1
                      injection q1 with q1
                      subst q1
                      rw [hNF_ct] at q2
                      exact q2
                    obtain ⟨R_ct, hRR_ct⟩ : ∃ R, sF_ct.recs = R := ⟨_, rfl⟩
                    rw [hRR_ct] at hPr_ct hrec_ct hcr_ct c2_ct hcr1_ct hSF_ct
                    obtain ⟨nR_ct, hnR_ct⟩ : ∃ nR, R_ct.length = nR := ⟨_, rfl⟩
                    have HT_ct : Hid (∀ W0, ToldL R_ct W0 = fun e w' => ∃ A c vals, e = .returned (.slice A nR_ct c) ∧ w'.ownsRow W0.heap.size 40 1 (.slice A nR_ct c) nR_ct vals ∧ Fam w' W0.heap.size vals R_ct ∧ Below W0.heap.size W0 w') := fun W0 => by
                      show _ = _
                      unfold ToldL
                      rw [hnR_ct]
                    rw [hnR_ct] at hPr_ct hcr_ct c2_ct hcr1_ct hSF_ct
                    rw [HT_ct.out] at hrec_ct
                    have HSF_ct := Lib.hid hSF_ct
                    have HPr_ct := Lib.hid hPr_ct
                    have HC4_ct := Lib.hid hrec_ct
                    have hge_ct : (k : Int) ≤ (nR_ct : Int) := by omega
                    clear hrec_ct hR2_ct hPr_ct hq_ct hH_ct hb_ct hrow_ct HC3_ct hLF_ct hNF_ct hgf_ct hsf_ct hSF_ct hRR_ct hokc_ct
                    go_wp2_with fail
                    refine HC4_ct.out.mono ?_
                    rintro e wD_ct ⟨AD_ct, cD_ct, valsD_ct, rfl, hoD_ct, hfD_ct, hbD_ct⟩
                    have HR3_ct := Lib.hid (HR2_ct.out.below hbD_ct)
                    have HPn_ct : Hid (Parts wD_ct wD_ct.heap.size AD_ct nR_ct R_ct) := told_parts hnR_ct.symm hoD_ct hfD_ct
                    have HPr3_ct := Lib.hid (HPr_ct.out.below hbD_ct)
                    have hrow3_ct := own_below HRow_ct.out hbD_ct (fun k e => (HRow_ct.out.lt k e).2)
                    have HPa_ct : Hid (Parts wD_ct wD_ct.heap.size Av_ct nv_ct L_ct) := HEl_ct.out.parts HR3_ct.out.size (by rw [hnv_ct]; exact hrow3_ct) hnl_ct.symm
                    have e1_ct : wD_ct.cell? ⟨gp, 1, none⟩ = some (.pointer (some ⟨gw_ct, 0, none⟩)) := (hbD_ct.cell (World.block_lt_of_cell? _ _ c1_ct)).trans c1_ct
                    have e3_ct : wD_ct.cell? ⟨gp, 3, none⟩ = some (.pointer (some ⟨gr_ct, 0, none⟩)) := (hbD_ct.cell (World.block_lt_of_cell? _ _ c3_ct)).trans c3_ct
                    have e2_ct : wD_ct.cell? ⟨gr_ct, 2, none⟩ = some (.slice Ar_ct nR_ct cr_ct) := (hbD_ct.cell (World.block_lt_of_cell? _ _ c2_ct)).trans c2_ct
                    have hnR4_ct : nR_ct ≤ 9223372036854775807 := by unfold maxLen at hcr2_ct; omega
                    have hcv9_ct : cv_ct ≤ 9223372036854775807 := by unfold maxLen at hcv2_ct; exact hcv2_ct
                    have HS1_ct : Hid (∀ w', Below wD_ct.heap.size wD_ct w' → Calls Try.prog 25 #[.slice Ar_ct nR_ct cr_ct, .slice Av_ct nv_ct cv_ct] w' fun e w'' => e = .returned (.bool (beginsL R_ct L_ct)) ∧ ∃ q, w'.drewN q = w'') := fun w' hb => begins_any Ar_ct Av_ct nR_ct cr_ct nv_ct cv_ct _ _ R_ct L_ct w' hnR4_ct hcv1_ct hcv9_ct (HPr3_ct.out.below (hb.mono hbD_ct.size)) (HPa_ct.out.below hb)
                    have HS2_ct : Hid (∀ w', Below wD_ct.heap.size wD_ct w' → Calls Try.prog 25 #[.slice AD_ct nR_ct cD_ct, .slice Av_ct nv_ct cv_ct] w' fun e w'' => e = .returned (.bool (beginsL R_ct L_ct)) ∧ ∃ q, w'.drewN q = w'') := fun w' hb => begins_any AD_ct Av_ct nR_ct cD_ct nv_ct cv_ct _ _ R_ct L_ct w' hnR4_ct hcv1_ct hcv9_ct (HPn_ct.out.below hb) (HPa_ct.out.below hb)
                    have HK2_ct : Hid (∀ w', Below wD_ct.heap.size wD_ct w' → Calls Try.prog 9 #[] w' fun e w'' => e = .returned (.bool true) ∧ Below W.heap.size W w'') := fun w' hb => HKn.out w' (HR3_ct.out.below hb).size
                    have HSG_ct : Hid (∀ w', Below wD_ct.heap.size wD_ct w' → w'.cell? ⟨gp, 1, none⟩ = some (.pointer (some ⟨gw_ct, 0, none⟩)) ∧ Calls Try.prog 26 #[.pointer (some ⟨gw_ct, 0, none⟩)] w' fun e w'' => e = .returned (.int .i64 (nR_ct : Nat)) ∧ w' = w'') := fun w' hb => by
                      have hcx := (hb.cell (World.block_lt_of_cell? _ _ e1_ct)).trans e1_ct
                      exact ⟨hcx, HSF_ct.out w' (HR3_ct.out.below hb) hcx⟩
                    clear hoD_ct hfD_ct hbD_ct HC4_ct HR2_ct HPr_ct c1_ct c3_ct c2_ct hrow3_ct HRow_ct HSF_ct e1_ct
                    generalize beginsL R_ct L_ct = x_ct at *
                    go_wp2_with fail
                    refine (HS1_ct.out _ (Below.refl _ _)).mono ?_
                    rintro e wE_ct ⟨rfl, q5_ct, hq5_ct⟩
                    have HBE_ct : Hid (Below wD_ct.heap.size wD_ct wE_ct) := by rw [← hq5_ct]; exact bel_drewN (Below.refl _ _) q5_ct
                    clear hq5_ct
                    cases x_ct with
                    | false =>
                      go_wp2_with fail
                      refine (HK2_ct.out _ HBE_ct.out).mono ?_
                      rintro e w' ⟨rfl, hbf⟩
                      have HF := Lib.hid hbf
                      clear hbf
                      go_wp2
                      go_ret
                      exact ⟨rfl, HF.out⟩
                    | true =>
                      go_wp2_with fail
                      refine (HS2_ct.out _ HBE_ct.out).mono ?_
                      rintro e wF_ct ⟨rfl, q6_ct, hq6_ct⟩
                      have HBF_ct : Hid (Below wD_ct.heap.size wD_ct wF_ct) := by rw [← hq6_ct]; exact bel_drewN HBE_ct.out q6_ct
                      obtain ⟨f1_ct, hsg_ct⟩ := HSG_ct.out _ HBF_ct.out
                      have HG_ct := Lib.hid hsg_ct
                      clear hq6_ct hsg_ct
                      go_wp2_with fail
                      refine HG_ct.out.mono ?_
                      rintro e wG_ct ⟨rfl, rfl⟩
                      go_wp2_with fail
                      refine (HK2_ct.out _ HBF_ct.out).mono ?_
                      rintro e w' ⟨rfl, hbf⟩
                      have HF := Lib.hid hbf
                      clear hbf
                      go_wp2
                      go_ret
                      exact ⟨rfl, HF.out⟩
              · go_wp2
                go_roundg (gk - 1)
                case measure => omega
                case rel => exact ⟨j + 1, k, rfl, by go_num, by omega, HQ⟩
            · have hb6_b := (Below.refl w5.heap.size w5).alloc (Nat.le_refl _) (.cells #[.slice A' n' c'] 40)
              have hRA_b := HR5.out.below hb6_b
              have hROW_b := hRA_b.row
              rw [hnv] at hROW_b
              have hszW_b := hRA_b.size.size
              have hmxl_b : maxLen = 9223372036854775807 := rfl
              clear hb6_b
              go_wp2_with (at_builtin; go_loud (refine wpList_append_app _ rfl _ _ 28 rfl W.heap.size 40 i1 (.slice none 0 0) 1 24 Try.underlying28 hi1 hy0 hy1 hy2 rfl _ nv vals rfl hROW_b (some ⟨w5.heap.size, 0, none⟩) 1 1 [Value.slice A' n' c'] rfl rfl (by intro h; cases h) (cell_new1 _ _ _) (by intro u hu; simp at hu; subst hu; rfl) (by omega) (by omega) hszW_b ?_))
              intro v' w6 happ
              have HR6_b : Hid (RunK W w6 gp gd M d2 s2 v' (vals ++ [.slice A' n' c'])) := hRA_b.push (by rw [hnv]; exact happ)
              have HE6_b : Hid (Elems W (vals ++ [.slice A' n' c']) s2.recs) := by rw [hrc2]; exact HE.out.push hn' hc' Hrd.out
              clear happ hRA_b hROW_b hszW_b HR5 t5
              have HQ : Hid (SafeE W w6 gp gd M v' k) := ⟨_, _, _, HR6_b.out, HE6_b.out, hG2, hsf2.trans hsk, by omega, by omega⟩
              clear HR6_b HE6_b
              obtain ⟨d_e, s_e, vals_e, hR_e, hE_e, hG_e, hsk_e, hw_e, hl_e⟩ := HQ.out
              obtain ⟨Av_e, cv_e, hvv_e, hcv1_e, hcv2_e⟩ := own_shape hR_e.row
              subst hvv_e
              obtain ⟨c0_e, hC1_e⟩ := hR_e.crashes (by omega) A3 n3 c3 l3 (by omega) H3.out
              have hcr_e := hG_e.crash l3
              have hokc_e := Dk.crash_ok hG_e.ok l3
              have hlc_e := Dk.crash_len d_e l3
              have hrl_e := hE_e.1
              have HEl_e := Lib.hid hE_e
              have HC1_e := Lib.hid hC1_e
              have hfit_e := hG_e.fits
              have hcnt_e := usedF_count s_e.recs
              have hby_e : d_e.bytes ≤ 40000 := by unfold Dk.bytes Dk.half halfN; omega
              obtain ⟨L_e, hL_e⟩ : ∃ L, s_e.recs = L := ⟨_, rfl⟩
              rw [hL_e] at HEl_e hrl_e hcnt_e hfit_e
              obtain ⟨nv_e, hnv_e⟩ : ∃ nv, vals_e.length = nv := ⟨_, rfl⟩
              rw [hsk_e] at hcr_e
              have hnl_e : L_e.length = nv_e := by omega
              have hnv4_e : nv_e ≤ 4000 := by omega
              clear hR_e hE_e hG_e hC1_e hsk_e hfit_e hcnt_e hby_e hrl_e hL_e
              rw [hnv_e]
              rw [hnv_e] at hcv1_e
              go_wp2_with fail
              refine HC1_e.out.mono ?_
              rintro e wA_e ⟨rfl, c2_e, hC2_e⟩
              have HC2_e := Lib.hid hC2_e
              clear hC2_e HC1_e c0_e
              go_wp2_with fail
              refine HC2_e.out.mono ?_
              rintro e wB_e ⟨rfl, hC3_e⟩
              have HC3_e := Lib.hid hC3_e
              clear hC3_e HC2_e c2_e
              go_wp2_with fail
              refine HC3_e.out.mono ?_
              rintro e wC_e ⟨rfl, ⟨H_e, hq_e, hH_e, hb_e⟩, hrow_e⟩
              obtain ⟨dd_e, hR2_e⟩ := reopened2 hokc_e (by omega) (Dk.crash_free _ _) hq_e hH_e hb_e
              have hgf_e : (d_e.crash l3).found.gone = false := rfl
              have hsf_e : (d_e.crash l3).found.safe = (d_e.crash l3).found.recs.length := rfl
              generalize (d_e.crash l3).found = sF_e at *
              have hLF_e : sF_e.tellL = sF_e.recs := by unfold Lg.tellL; rw [hgf_e]; rfl
              have hNF_e : sF_e.tellN = sF_e.recs.length := by unfold Lg.tellN; rw [hgf_e, hsf_e]; rfl
              obtain ⟨gw_e, gr_e, c1_e, c3_e, ⟨Ar_e, cr_e, c2_e, hcr1_e, hcr2_e, hPr_e⟩, hrec_e, _⟩ := hR2_e.tell
              rw [hLF_e] at hrec_e
              rw [hnv_e] at hrow_e
              have HR2_e := Lib.hid hR2_e
              have HRow_e := Lib.hid hrow_e
              have hSF_e : ∀ x, RunP W x gp gd M dd_e sF_e → x.cell? ⟨gp, 1, none⟩ = some (.pointer (some ⟨gw_e, 0, none⟩)) → Calls Try.prog 26 #[.pointer (some ⟨gw_e, 0, none⟩)] x fun e w' => e = .returned (.int .i64 (sF_e.recs.length : Nat)) ∧ x = w' := fun x hx hcx => by
                obtain ⟨gw', gr', q1, _, _, _, q2⟩ := hx.tell
                rw [hcx] at q1
                injection q1 with q1
                injection q1 with q1
                injection q1 with q1
                injection q1 with q1
                subst q1
                rw [hNF_e] at q2
                exact q2
              obtain ⟨R_e, hRR_e⟩ : ∃ R, sF_e.recs = R := ⟨_, rfl⟩
              rw [hRR_e] at hPr_e hrec_e hcr_e c2_e hcr1_e hSF_e
              obtain ⟨nR_e, hnR_e⟩ : ∃ nR, R_e.length = nR := ⟨_, rfl⟩
              have HT_e : Hid (∀ W0, ToldL R_e W0 = fun e w' => ∃ A c vals, e = .returned (.slice A nR_e c) ∧ w'.ownsRow W0.heap.size 40 1 (.slice A nR_e c) nR_e vals ∧ Fam w' W0.heap.size vals R_e ∧ Below W0.heap.size W0 w') := fun W0 => by
                show _ = _
                unfold ToldL
                rw [hnR_e]
              rw [hnR_e] at hPr_e hcr_e c2_e hcr1_e hSF_e
              rw [HT_e.out] at hrec_e
              have HSF_e := Lib.hid hSF_e
              have HPr_e := Lib.hid hPr_e
              have HC4_e := Lib.hid hrec_e
              have hge_e : (k : Int) ≤ (nR_e : Int) := by omega
              clear hrec_e hR2_e hPr_e hq_e hH_e hb_e hrow_e HC3_e hLF_e hNF_e hgf_e hsf_e hSF_e hRR_e hokc_e
              go_wp2_with fail
              refine HC4_e.out.mono ?_
              rintro e wD_e ⟨AD_e, cD_e, valsD_e, rfl, hoD_e, hfD_e, hbD_e⟩
              have HR3_e := Lib.hid (HR2_e.out.below hbD_e)
              have HPn_e : Hid (Parts wD_e wD_e.heap.size AD_e nR_e R_e) := told_parts hnR_e.symm hoD_e hfD_e
              have HPr3_e := Lib.hid (HPr_e.out.below hbD_e)
              have hrow3_e := own_below HRow_e.out hbD_e (fun k e => (HRow_e.out.lt k e).2)
              have HPa_e : Hid (Parts wD_e wD_e.heap.size Av_e nv_e L_e) := HEl_e.out.parts HR3_e.out.size (by rw [hnv_e]; exact hrow3_e) hnl_e.symm
              have e1_e : wD_e.cell? ⟨gp, 1, none⟩ = some (.pointer (some ⟨gw_e, 0, none⟩)) := (hbD_e.cell (World.block_lt_of_cell? _ _ c1_e)).trans c1_e
              have e3_e : wD_e.cell? ⟨gp, 3, none⟩ = some (.pointer (some ⟨gr_e, 0, none⟩)) := (hbD_e.cell (World.block_lt_of_cell? _ _ c3_e)).trans c3_e
              have e2_e : wD_e.cell? ⟨gr_e, 2, none⟩ = some (.slice Ar_e nR_e cr_e) := (hbD_e.cell (World.block_lt_of_cell? _ _ c2_e)).trans c2_e
              have hnR4_e : nR_e ≤ 9223372036854775807 := by unfold maxLen at hcr2_e; omega
              have hcv9_e : cv_e ≤ 9223372036854775807 := by unfold maxLen at hcv2_e; exact hcv2_e
              have HS1_e : Hid (∀ w', Below wD_e.heap.size wD_e w' → Calls Try.prog 25 #[.slice Ar_e nR_e cr_e, .slice Av_e nv_e cv_e] w' fun e w'' => e = .returned (.bool (beginsL R_e L_e)) ∧ ∃ q, w'.drewN q = w'') := fun w' hb => begins_any Ar_e Av_e nR_e cr_e nv_e cv_e _ _ R_e L_e w' hnR4_e hcv1_e hcv9_e (HPr3_e.out.below (hb.mono hbD_e.size)) (HPa_e.out.below hb)
              have HS2_e : Hid (∀ w', Below wD_e.heap.size wD_e w' → Calls Try.prog 25 #[.slice AD_e nR_e cD_e, .slice Av_e nv_e cv_e] w' fun e w'' => e = .returned (.bool (beginsL R_e L_e)) ∧ ∃ q, w'.drewN q = w'') := fun w' hb => begins_any AD_e Av_e nR_e cD_e nv_e cv_e _ _ R_e L_e w' hnR4_e hcv1_e hcv9_e (HPn_e.out.below hb) (HPa_e.out.below hb)
              have HK2_e : Hid (∀ w', Below wD_e.heap.size wD_e w' → Calls Try.prog 9 #[] w' fun e w'' => e = .returned (.bool true) ∧ Below W.heap.size W w'') := fun w' hb => HKn.out w' (HR3_e.out.below hb).size
              have HSG_e : Hid (∀ w', Below wD_e.heap.size wD_e w' → w'.cell? ⟨gp, 1, none⟩ = some (.pointer (some ⟨gw_e, 0, none⟩)) ∧ Calls Try.prog 26 #[.pointer (some ⟨gw_e, 0, none⟩)] w' fun e w'' => e = .returned (.int .i64 (nR_e : Nat)) ∧ w' = w'') := fun w' hb => by
                have hcx := (hb.cell (World.block_lt_of_cell? _ _ e1_e)).trans e1_e
                exact ⟨hcx, HSF_e.out w' (HR3_e.out.below hb) hcx⟩
              clear hoD_e hfD_e hbD_e HC4_e HR2_e HPr_e c1_e c3_e c2_e hrow3_e HRow_e HSF_e e1_e
              generalize beginsL R_e L_e = x_e at *
              go_wp2_with fail
              refine (HS1_e.out _ (Below.refl _ _)).mono ?_
              rintro e wE_e ⟨rfl, q5_e, hq5_e⟩
              have HBE_e : Hid (Below wD_e.heap.size wD_e wE_e) := by rw [← hq5_e]; exact bel_drewN (Below.refl _ _) q5_e
              clear hq5_e
              cases x_e with
              | false =>
                go_wp2_with fail
                refine (HK2_e.out _ HBE_e.out).mono ?_
                rintro e w' ⟨rfl, hbf⟩
                have HF := Lib.hid hbf
                clear hbf
                go_wp2
                go_ret
                exact ⟨rfl, HF.out⟩
              | true =>
                go_wp2_with fail
                refine (HS2_e.out _ HBE_e.out).mono ?_
                rintro e wF_e ⟨rfl, q6_e, hq6_e⟩
                have HBF_e : Hid (Below wD_e.heap.size wD_e wF_e) := by rw [← hq6_e]; exact bel_drewN HBE_e.out q6_e
                obtain ⟨f1_e, hsg_e⟩ := HSG_e.out _ HBF_e.out
                have HG_e := Lib.hid hsg_e
                clear hq6_e hsg_e
                go_wp2_with fail
                refine HG_e.out.mono ?_
                rintro e wG_e ⟨rfl, rfl⟩
                go_wp2_with fail
                refine (HK2_e.out _ HBF_e.out).mono ?_
                rintro e w' ⟨rfl, hbf⟩
                have HF := Lib.hid hbf
                clear hbf
                go_wp2
                go_ret
                exact ⟨rfl, HF.out⟩
            · have hs2' : s2 = s := hs2
              subst hs2'
              have hrb0 : (r == 0) = false := by simpa using hr0
              have hrb6 : (r == 6) = false := by simpa using hr6
              have HQ : Hid (SafeS W w5 gp gd M (.slice Av nv cv) (j + 1) k) := by
                rw [← hnv]
                exact ⟨_, _, _, HR5.out, HE.out, hG2, hg, hsk, by omega, by omega⟩
              clear HR5 t5 hr0 hr6
              generalize Value.slice Av nv cv = vv at HQ ⊢
              by_cases hjs_d : j < n2
              · obtain ⟨b2_d, o2_d, rfl, hb2_d, hcl_d⟩ := H2.out (by omega)
                have hcs_d := hcl_d j hjs_d
                have hszq_d : Below W.heap.size W w5 := by
                  obtain ⟨_, _, _, hR, _⟩ := HQ.out
                  exact hR.size
                have hcq_d : w5.cell? ⟨b2_d, o2_d + j, none⟩ = some (.bool (l2 j)) := (hszq_d.cell hb2_d).trans hcs_d
                obtain ⟨bj_d, hbj_d⟩ : ∃ bj, l2 j = bj := ⟨_, rfl⟩
                rw [hbj_d] at hcq_d
                clear hcl_d hcs_d hb2_d hszq_d hbj_d
                cases bj_d with
                | false =>
                  go_wp2
                  go_roundg (gk - 1)
                  case measure => omega
                  case rel => exact ⟨j + 1, k, rfl, by go_num, by omega, HQ⟩
                | true =>
                  obtain ⟨dq_d, sq_d, vq_d, hRq_d, hEq_d, hGq_d, hgq_d, hskq_d, hwq_d, hlq_d⟩ := HQ.out
                  obtain ⟨gwq_d, cwq_d, hCq_d⟩ := hRq_d.sync (by omega)
                  have hGS_d := hGq_d.sync hgq_d
                  have hws_d := syncL_waits sq_d dq_d
                  have hls_d := syncL_len sq_d dq_d
                  obtain ⟨Aq_d, cq_d, hvq_d, _, _⟩ := own_shape hRq_d.row
                  subst hvq_d
                  have HEq_d := Lib.hid hEq_d
                  have HCq_d := Lib.hid hCq_d
                  have HGS_d := Lib.hid hGS_d
                  have hle_d := hEq_d.1
                  obtain ⟨⟨rq_d, sr_d, dr_d⟩, hrq_d⟩ : ∃ p, sq_d.sync dq_d = p := ⟨_, rfl⟩
                  rw [hrq_d] at HCq_d HGS_d hws_d hls_d
                  simp only at hws_d hls_d
                  obtain ⟨nq_d, hnq_d⟩ : ∃ nq, vq_d.length = nq := ⟨_, rfl⟩
                  rw [hnq_d]
                  clear hrq_d hRq_d hEq_d hGq_d hCq_d hGS_d hgq_d
                  go_wp2_with fail
                  refine HCq_d.out.mono ?_
                  rintro e wS_d ⟨rfl, hbS_d, _, grS_d, crS_d, hCS_d⟩
                  have HCS_d := Lib.hid (hCS_d _ (Below.refl _ _))
                  clear hCS_d HCq_d cwq_d hbS_d hcq_d
                  go_wp2_with fail
                  refine HCS_d.out.mono ?_
                  rintro e wT_d ⟨rfl, _, hRT_d⟩
                  have HRT_d := Lib.hid hRT_d
                  clear hRT_d HCS_d crS_d
                  rcases HGS_d.out with ⟨hG3_d, hrc3_d, ⟨rfl, hsf3_d, hgn3_d⟩ | ⟨hr3_d, hsf3_d⟩⟩
                  · have HN_d : Hid (SafeS W wT_d gp gd M (.slice Aq_d nq_d cq_d) (j + 1) nq_d) := by
                      rw [← hnq_d]
                      exact ⟨_, _, _, HRT_d.out, by rw [hrc3_d]; exact HEq_d.out, hG3_d, hgn3_d, by rw [hsf3_d]; exact hle_d.symm, by omega, by omega⟩
                    clear HRT_d HGS_d hG3_d hrc3_d hsf3_d hgn3_d
                    go_wp2
                    go_roundg (gk - 1)
                    case measure => omega
                    case rel => exact ⟨j + 1, nq_d, rfl, by go_num, by omega, HN_d⟩
                  · have HN_d : Hid (SafeE W wT_d gp gd M (.slice Aq_d nq_d cq_d) k) := by
                      rw [← hnq_d]
                      exact ⟨_, _, _, HRT_d.out, by rw [hrc3_d]; exact HEq_d.out, hG3_d, by rw [hsf3_d]; exact hskq_d, by omega, by omega⟩
                    have hrb_d : (rq_d != 0) = true := by simpa using hr3_d
                    clear HRT_d HGS_d hG3_d hrc3_d hsf3_d hr3_d
                    obtain ⟨d_dt, s_dt, vals_dt, hR_dt, hE_dt, hG_dt, hsk_dt, hw_dt, hl_dt⟩ := HN_d.out
                    obtain ⟨Av_dt, cv_dt, hvv_dt, hcv1_dt, hcv2_dt⟩ := own_shape hR_dt.row
                    injection hvv_dt with i1_dt i2_dt i3_dt
                    have i1_dt := i1_dt.symm
                    have i3_dt := i3_dt.symm
                    subst i1_dt i3_dt
                    obtain ⟨c0_dt, hC1_dt⟩ := hR_dt.crashes (by omega) A3 n3 c3 l3 (by omega) H3.out
                    have hcr_dt := hG_dt.crash l3
                    have hokc_dt := Dk.crash_ok hG_dt.ok l3
                    have hlc_dt := Dk.crash_len d_dt l3
                    have hrl_dt := hE_dt.1
                    have HEl_dt := Lib.hid hE_dt
                    have HC1_dt := Lib.hid hC1_dt
                    have hfit_dt := hG_dt.fits
                    have hcnt_dt := usedF_count s_dt.recs
                    have hby_dt : d_dt.bytes ≤ 40000 := by unfold Dk.bytes Dk.half halfN; omega
                    obtain ⟨L_dt, hL_dt⟩ : ∃ L, s_dt.recs = L := ⟨_, rfl⟩
                    rw [hL_dt] at HEl_dt hrl_dt hcnt_dt hfit_dt
                    obtain ⟨nv_dt, hnv_dt⟩ : ∃ nv, vals_dt.length = nv := ⟨_, rfl⟩
                    rw [hsk_dt] at hcr_dt
                    have hnl_dt : L_dt.length = nv_dt := by omega
                    have hnv4_dt : nv_dt ≤ 4000 := by omega
                    clear hR_dt hE_dt hG_dt hC1_dt hsk_dt hfit_dt hcnt_dt hby_dt hrl_dt hL_dt
                    rw [hnv_dt] at hcv1_dt
                    have i4_dt : nv_dt = nq_d := by rw [← hnv_dt]; exact i2_dt.symm
                    clear i2_dt
                    subst i4_dt
                    go_wp2_with fail
                    refine HC1_dt.out.mono ?_
                    rintro e wA_dt ⟨rfl, c2_dt, hC2_dt⟩
                    have HC2_dt := Lib.hid hC2_dt
                    clear hC2_dt HC1_dt c0_dt
                    go_wp2_with fail
                    refine HC2_dt.out.mono ?_
                    rintro e wB_dt ⟨rfl, hC3_dt⟩
                    have HC3_dt := Lib.hid hC3_dt
                    clear hC3_dt HC2_dt c2_dt
                    go_wp2_with fail
                    refine HC3_dt.out.mono ?_
                    rintro e wC_dt ⟨rfl, ⟨H_dt, hq_dt, hH_dt, hb_dt⟩, hrow_dt⟩
                    obtain ⟨dd_dt, hR2_dt⟩ := reopened2 hokc_dt (by omega) (Dk.crash_free _ _) hq_dt hH_dt hb_dt
                    have hgf_dt : (d_dt.crash l3).found.gone = false := rfl
                    have hsf_dt : (d_dt.crash l3).found.safe = (d_dt.crash l3).found.recs.length := rfl
                    generalize (d_dt.crash l3).found = sF_dt at *
                    have hLF_dt : sF_dt.tellL = sF_dt.recs := by unfold Lg.tellL; rw [hgf_dt]; rfl
                    have hNF_dt : sF_dt.tellN = sF_dt.recs.length := by unfold Lg.tellN; rw [hgf_dt, hsf_dt]; rfl
                    obtain ⟨gw_dt, gr_dt, c1_dt, c3_dt, ⟨Ar_dt, cr_dt, c2_dt, hcr1_dt, hcr2_dt, hPr_dt⟩, hrec_dt, _⟩ := hR2_dt.tell
                    rw [hLF_dt] at hrec_dt
                    rw [hnv_dt] at hrow_dt
                    have HR2_dt := Lib.hid hR2_dt
                    have HRow_dt := Lib.hid hrow_dt
                    have hSF_dt : ∀ x, RunP W x gp gd M dd_dt sF_dt → x.cell? ⟨gp, 1, none⟩ = some (.pointer (some ⟨gw_dt, 0, none⟩)) → Calls Try.prog 26 #[.pointer (some ⟨gw_dt, 0, none⟩)] x fun e w' => e = .returned (.int .i64 (sF_dt.recs.length : Nat)) ∧ x = w' := fun x hx hcx => by
                      obtain ⟨gw', gr', q1, _, _, _, q2⟩ := hx.tell
                      rw [hcx] at q1
                      injection q1 with q1
                      injection q1 with q1
                      injection q1 with q1
                      injection q1 with q1
                      subst q1
                      rw [hNF_dt] at q2
                      exact q2
                    obtain ⟨R_dt, hRR_dt⟩ : ∃ R, sF_dt.recs = R := ⟨_, rfl⟩
                    rw [hRR_dt] at hPr_dt hrec_dt hcr_dt c2_dt hcr1_dt hSF_dt
                    obtain ⟨nR_dt, hnR_dt⟩ : ∃ nR, R_dt.length = nR := ⟨_, rfl⟩
                    have HT_dt : Hid (∀ W0, ToldL R_dt W0 = fun e w' => ∃ A c vals, e = .returned (.slice A nR_dt c) ∧ w'.ownsRow W0.heap.size 40 1 (.slice A nR_dt c) nR_dt vals ∧ Fam w' W0.heap.size vals R_dt ∧ Below W0.heap.size W0 w') := fun W0 => by
                      show _ = _
                      unfold ToldL
                      rw [hnR_dt]
                    rw [hnR_dt] at hPr_dt hcr_dt c2_dt hcr1_dt hSF_dt
                    rw [HT_dt.out] at hrec_dt
                    have HSF_dt := Lib.hid hSF_dt
                    have HPr_dt := Lib.hid hPr_dt
                    have HC4_dt := Lib.hid hrec_dt
                    have hge_dt : (k : Int) ≤ (nR_dt : Int) := by omega
                    clear hrec_dt hR2_dt hPr_dt hq_dt hH_dt hb_dt hrow_dt HC3_dt hLF_dt hNF_dt hgf_dt hsf_dt hSF_dt hRR_dt hokc_dt
                    go_wp2_with fail
                    refine HC4_dt.out.mono ?_
                    rintro e wD_dt ⟨AD_dt, cD_dt, valsD_dt, rfl, hoD_dt, hfD_dt, hbD_dt⟩
                    have HR3_dt := Lib.hid (HR2_dt.out.below hbD_dt)
                    have HPn_dt : Hid (Parts wD_dt wD_dt.heap.size AD_dt nR_dt R_dt) := told_parts hnR_dt.symm hoD_dt hfD_dt
                    have HPr3_dt := Lib.hid (HPr_dt.out.below hbD_dt)
                    have hrow3_dt := own_below HRow_dt.out hbD_dt (fun k e => (HRow_dt.out.lt k e).2)
                    have HPa_dt : Hid (Parts wD_dt wD_dt.heap.size Av_dt nv_dt L_dt) := HEl_dt.out.parts HR3_dt.out.size (by rw [hnv_dt]; exact hrow3_dt) hnl_dt.symm
                    have e1_dt : wD_dt.cell? ⟨gp, 1, none⟩ = some (.pointer (some ⟨gw_dt, 0, none⟩)) := (hbD_dt.cell (World.block_lt_of_cell? _ _ c1_dt)).trans c1_dt
                    have e3_dt : wD_dt.cell? ⟨gp, 3, none⟩ = some (.pointer (some ⟨gr_dt, 0, none⟩)) := (hbD_dt.cell (World.block_lt_of_cell? _ _ c3_dt)).trans c3_dt
                    have e2_dt : wD_dt.cell? ⟨gr_dt, 2, none⟩ = some (.slice Ar_dt nR_dt cr_dt) := (hbD_dt.cell (World.block_lt_of_cell? _ _ c2_dt)).trans c2_dt
                    have hnR4_dt : nR_dt ≤ 9223372036854775807 := by unfold maxLen at hcr2_dt; omega
                    have hcv9_dt : cv_dt ≤ 9223372036854775807 := by unfold maxLen at hcv2_dt; exact hcv2_dt
                    have HS1_dt : Hid (∀ w', Below wD_dt.heap.size wD_dt w' → Calls Try.prog 25 #[.slice Ar_dt nR_dt cr_dt, .slice Av_dt nv_dt cv_dt] w' fun e w'' => e = .returned (.bool (beginsL R_dt L_dt)) ∧ ∃ q, w'.drewN q = w'') := fun w' hb => begins_any Ar_dt Av_dt nR_dt cr_dt nv_dt cv_dt _ _ R_dt L_dt w' hnR4_dt hcv1_dt hcv9_dt (HPr3_dt.out.below (hb.mono hbD_dt.size)) (HPa_dt.out.below hb)
                    have HS2_dt : Hid (∀ w', Below wD_dt.heap.size wD_dt w' → Calls Try.prog 25 #[.slice AD_dt nR_dt cD_dt, .slice Av_dt nv_dt cv_dt] w' fun e w'' => e = .returned (.bool (beginsL R_dt L_dt)) ∧ ∃ q, w'.drewN q = w'') := fun w' hb => begins_any AD_dt Av_dt nR_dt cD_dt nv_dt cv_dt _ _ R_dt L_dt w' hnR4_dt hcv1_dt hcv9_dt (HPn_dt.out.below hb) (HPa_dt.out.below hb)
                    have HK2_dt : Hid (∀ w', Below wD_dt.heap.size wD_dt w' → Calls Try.prog 9 #[] w' fun e w'' => e = .returned (.bool true) ∧ Below W.heap.size W w'') := fun w' hb => HKn.out w' (HR3_dt.out.below hb).size
                    have HSG_dt : Hid (∀ w', Below wD_dt.heap.size wD_dt w' → w'.cell? ⟨gp, 1, none⟩ = some (.pointer (some ⟨gw_dt, 0, none⟩)) ∧ Calls Try.prog 26 #[.pointer (some ⟨gw_dt, 0, none⟩)] w' fun e w'' => e = .returned (.int .i64 (nR_dt : Nat)) ∧ w' = w'') := fun w' hb => by
                      have hcx := (hb.cell (World.block_lt_of_cell? _ _ e1_dt)).trans e1_dt
                      exact ⟨hcx, HSF_dt.out w' (HR3_dt.out.below hb) hcx⟩
                    clear hoD_dt hfD_dt hbD_dt HC4_dt HR2_dt HPr_dt c1_dt c3_dt c2_dt hrow3_dt HRow_dt HSF_dt e1_dt
                    generalize beginsL R_dt L_dt = x_dt at *
                    go_wp2_with fail
                    refine (HS1_dt.out _ (Below.refl _ _)).mono ?_
                    rintro e wE_dt ⟨rfl, q5_dt, hq5_dt⟩
                    have HBE_dt : Hid (Below wD_dt.heap.size wD_dt wE_dt) := by rw [← hq5_dt]; exact bel_drewN (Below.refl _ _) q5_dt
                    clear hq5_dt
                    cases x_dt with
                    | false =>
                      go_wp2_with fail
                      refine (HK2_dt.out _ HBE_dt.out).mono ?_
                      rintro e w' ⟨rfl, hbf⟩
                      have HF := Lib.hid hbf
                      clear hbf
                      go_wp2
                      go_ret
                      exact ⟨rfl, HF.out⟩
                    | true =>
                      go_wp2_with fail
                      refine (HS2_dt.out _ HBE_dt.out).mono ?_
                      rintro e wF_dt ⟨rfl, q6_dt, hq6_dt⟩
                      have HBF_dt : Hid (Below wD_dt.heap.size wD_dt wF_dt) := by rw [← hq6_dt]; exact bel_drewN HBE_dt.out q6_dt
                      obtain ⟨f1_dt, hsg_dt⟩ := HSG_dt.out _ HBF_dt.out
                      have HG_dt := Lib.hid hsg_dt
                      clear hq6_dt hsg_dt
                      go_wp2_with fail
                      refine HG_dt.out.mono ?_
                      rintro e wG_dt ⟨rfl, rfl⟩
                      go_wp2_with fail
                      refine (HK2_dt.out _ HBF_dt.out).mono ?_
                      rintro e w' ⟨rfl, hbf⟩
                      have HF := Lib.hid hbf
                      clear hbf
                      go_wp2
                      go_ret
                      exact ⟨rfl, HF.out⟩
              · go_wp2
                go_roundg (gk - 1)
                case measure => omega
                case rel => exact ⟨j + 1, k, rfl, by go_num, by omega, HQ⟩
        · have HQ := Lib.hid (HS.out.done (by omega))
          obtain ⟨d_f, s_f, vals_f, hR_f, hE_f, hG_f, hsk_f, hw_f, hl_f⟩ := HQ.out
          obtain ⟨Av_f, cv_f, hvv_f, hcv1_f, hcv2_f⟩ := own_shape hR_f.row
          subst hvv_f
          obtain ⟨c0_f, hC1_f⟩ := hR_f.crashes (by omega) A3 n3 c3 l3 (by omega) H3.out
          have hcr_f := hG_f.crash l3
          have hokc_f := Dk.crash_ok hG_f.ok l3
          have hlc_f := Dk.crash_len d_f l3
          have hrl_f := hE_f.1
          have HEl_f := Lib.hid hE_f
          have HC1_f := Lib.hid hC1_f
          have hfit_f := hG_f.fits
          have hcnt_f := usedF_count s_f.recs
          have hby_f : d_f.bytes ≤ 40000 := by unfold Dk.bytes Dk.half halfN; omega
          obtain ⟨L_f, hL_f⟩ : ∃ L, s_f.recs = L := ⟨_, rfl⟩
          rw [hL_f] at HEl_f hrl_f hcnt_f hfit_f
          obtain ⟨nv_f, hnv_f⟩ : ∃ nv, vals_f.length = nv := ⟨_, rfl⟩
          rw [hsk_f] at hcr_f
          have hnl_f : L_f.length = nv_f := by omega
          have hnv4_f : nv_f ≤ 4000 := by omega
          clear hR_f hE_f hG_f hC1_f hsk_f hfit_f hcnt_f hby_f hrl_f hL_f
          rw [hnv_f]
          rw [hnv_f] at hcv1_f
          go_wp2_with fail
          refine HC1_f.out.mono ?_
          rintro e wA_f ⟨rfl, c2_f, hC2_f⟩
          have HC2_f := Lib.hid hC2_f
          clear hC2_f HC1_f c0_f
          go_wp2_with fail
          refine HC2_f.out.mono ?_
          rintro e wB_f ⟨rfl, hC3_f⟩
          have HC3_f := Lib.hid hC3_f
          clear hC3_f HC2_f c2_f
          go_wp2_with fail
          refine HC3_f.out.mono ?_
          rintro e wC_f ⟨rfl, ⟨H_f, hq_f, hH_f, hb_f⟩, hrow_f⟩
          obtain ⟨dd_f, hR2_f⟩ := reopened2 hokc_f (by omega) (Dk.crash_free _ _) hq_f hH_f hb_f
          have hgf_f : (d_f.crash l3).found.gone = false := rfl
          have hsf_f : (d_f.crash l3).found.safe = (d_f.crash l3).found.recs.length := rfl
          generalize (d_f.crash l3).found = sF_f at *
          have hLF_f : sF_f.tellL = sF_f.recs := by unfold Lg.tellL; rw [hgf_f]; rfl
          have hNF_f : sF_f.tellN = sF_f.recs.length := by unfold Lg.tellN; rw [hgf_f, hsf_f]; rfl
          obtain ⟨gw_f, gr_f, c1_f, c3_f, ⟨Ar_f, cr_f, c2_f, hcr1_f, hcr2_f, hPr_f⟩, hrec_f, _⟩ := hR2_f.tell
          rw [hLF_f] at hrec_f
          rw [hnv_f] at hrow_f
          have HR2_f := Lib.hid hR2_f
          have HRow_f := Lib.hid hrow_f
          have hSF_f : ∀ x, RunP W x gp gd M dd_f sF_f → x.cell? ⟨gp, 1, none⟩ = some (.pointer (some ⟨gw_f, 0, none⟩)) → Calls Try.prog 26 #[.pointer (some ⟨gw_f, 0, none⟩)] x fun e w' => e = .returned (.int .i64 (sF_f.recs.length : Nat)) ∧ x = w' := fun x hx hcx => by
            obtain ⟨gw', gr', q1, _, _, _, q2⟩ := hx.tell
            rw [hcx] at q1
            injection q1 with q1
            injection q1 with q1
            injection q1 with q1
            injection q1 with q1
            subst q1
            rw [hNF_f] at q2
            exact q2
          obtain ⟨R_f, hRR_f⟩ : ∃ R, sF_f.recs = R := ⟨_, rfl⟩
          rw [hRR_f] at hPr_f hrec_f hcr_f c2_f hcr1_f hSF_f
          obtain ⟨nR_f, hnR_f⟩ : ∃ nR, R_f.length = nR := ⟨_, rfl⟩
          have HT_f : Hid (∀ W0, ToldL R_f W0 = fun e w' => ∃ A c vals, e = .returned (.slice A nR_f c) ∧ w'.ownsRow W0.heap.size 40 1 (.slice A nR_f c) nR_f vals ∧ Fam w' W0.heap.size vals R_f ∧ Below W0.heap.size W0 w') := fun W0 => by
            show _ = _
            unfold ToldL
            rw [hnR_f]
          rw [hnR_f] at hPr_f hcr_f c2_f hcr1_f hSF_f
          rw [HT_f.out] at hrec_f
          have HSF_f := Lib.hid hSF_f
          have HPr_f := Lib.hid hPr_f
          have HC4_f := Lib.hid hrec_f
          have hge_f : (k : Int) ≤ (nR_f : Int) := by omega
          clear hrec_f hR2_f hPr_f hq_f hH_f hb_f hrow_f HC3_f hLF_f hNF_f hgf_f hsf_f hSF_f hRR_f hokc_f
          go_wp2_with fail
          refine HC4_f.out.mono ?_
          rintro e wD_f ⟨AD_f, cD_f, valsD_f, rfl, hoD_f, hfD_f, hbD_f⟩
          have HR3_f := Lib.hid (HR2_f.out.below hbD_f)
          have HPn_f : Hid (Parts wD_f wD_f.heap.size AD_f nR_f R_f) := told_parts hnR_f.symm hoD_f hfD_f
          have HPr3_f := Lib.hid (HPr_f.out.below hbD_f)
          have hrow3_f := own_below HRow_f.out hbD_f (fun k e => (HRow_f.out.lt k e).2)
          have HPa_f : Hid (Parts wD_f wD_f.heap.size Av_f nv_f L_f) := HEl_f.out.parts HR3_f.out.size (by rw [hnv_f]; exact hrow3_f) hnl_f.symm
          have e1_f : wD_f.cell? ⟨gp, 1, none⟩ = some (.pointer (some ⟨gw_f, 0, none⟩)) := (hbD_f.cell (World.block_lt_of_cell? _ _ c1_f)).trans c1_f
          have e3_f : wD_f.cell? ⟨gp, 3, none⟩ = some (.pointer (some ⟨gr_f, 0, none⟩)) := (hbD_f.cell (World.block_lt_of_cell? _ _ c3_f)).trans c3_f
          have e2_f : wD_f.cell? ⟨gr_f, 2, none⟩ = some (.slice Ar_f nR_f cr_f) := (hbD_f.cell (World.block_lt_of_cell? _ _ c2_f)).trans c2_f
          have hnR4_f : nR_f ≤ 9223372036854775807 := by unfold maxLen at hcr2_f; omega
          have hcv9_f : cv_f ≤ 9223372036854775807 := by unfold maxLen at hcv2_f; exact hcv2_f
          have HS1_f : Hid (∀ w', Below wD_f.heap.size wD_f w' → Calls Try.prog 25 #[.slice Ar_f nR_f cr_f, .slice Av_f nv_f cv_f] w' fun e w'' => e = .returned (.bool (beginsL R_f L_f)) ∧ ∃ q, w'.drewN q = w'') := fun w' hb => begins_any Ar_f Av_f nR_f cr_f nv_f cv_f _ _ R_f L_f w' hnR4_f hcv1_f hcv9_f (HPr3_f.out.below (hb.mono hbD_f.size)) (HPa_f.out.below hb)
          have HS2_f : Hid (∀ w', Below wD_f.heap.size wD_f w' → Calls Try.prog 25 #[.slice AD_f nR_f cD_f, .slice Av_f nv_f cv_f] w' fun e w'' => e = .returned (.bool (beginsL R_f L_f)) ∧ ∃ q, w'.drewN q = w'') := fun w' hb => begins_any AD_f Av_f nR_f cD_f nv_f cv_f _ _ R_f L_f w' hnR4_f hcv1_f hcv9_f (HPn_f.out.below hb) (HPa_f.out.below hb)
          have HK2_f : Hid (∀ w', Below wD_f.heap.size wD_f w' → Calls Try.prog 9 #[] w' fun e w'' => e = .returned (.bool true) ∧ Below W.heap.size W w'') := fun w' hb => HKn.out w' (HR3_f.out.below hb).size
          have HSG_f : Hid (∀ w', Below wD_f.heap.size wD_f w' → w'.cell? ⟨gp, 1, none⟩ = some (.pointer (some ⟨gw_f, 0, none⟩)) ∧ Calls Try.prog 26 #[.pointer (some ⟨gw_f, 0, none⟩)] w' fun e w'' => e = .returned (.int .i64 (nR_f : Nat)) ∧ w' = w'') := fun w' hb => by
            have hcx := (hb.cell (World.block_lt_of_cell? _ _ e1_f)).trans e1_f
            exact ⟨hcx, HSF_f.out w' (HR3_f.out.below hb) hcx⟩
          clear hoD_f hfD_f hbD_f HC4_f HR2_f HPr_f c1_f c3_f c2_f hrow3_f HRow_f HSF_f e1_f
          generalize beginsL R_f L_f = x_f at *
          go_wp2_with fail
          refine (HS1_f.out _ (Below.refl _ _)).mono ?_
          rintro e wE_f ⟨rfl, q5_f, hq5_f⟩
          have HBE_f : Hid (Below wD_f.heap.size wD_f wE_f) := by rw [← hq5_f]; exact bel_drewN (Below.refl _ _) q5_f
          clear hq5_f
          cases x_f with
          | false =>
            go_wp2_with fail
            refine (HK2_f.out _ HBE_f.out).mono ?_
            rintro e w' ⟨rfl, hbf⟩
            have HF := Lib.hid hbf
            clear hbf
            go_wp2
            go_ret
            exact ⟨rfl, HF.out⟩
          | true =>
            go_wp2_with fail
            refine (HS2_f.out _ HBE_f.out).mono ?_
            rintro e wF_f ⟨rfl, q6_f, hq6_f⟩
            have HBF_f : Hid (Below wD_f.heap.size wD_f wF_f) := by rw [← hq6_f]; exact bel_drewN HBE_f.out q6_f
            obtain ⟨f1_f, hsg_f⟩ := HSG_f.out _ HBF_f.out
            have HG_f := Lib.hid hsg_f
            clear hq6_f hsg_f
            go_wp2_with fail
            refine HG_f.out.mono ?_
            rintro e wG_f ⟨rfl, rfl⟩
            go_wp2_with fail
            refine (HK2_f.out _ HBF_f.out).mono ?_
            rintro e w' ⟨rfl, hbf⟩
            have HF := Lib.hid hbf
            clear hbf
            go_wp2
            go_ret
            exact ⟨rfl, HF.out⟩
namespace walSafe
set_option maxRecDepth 100000 in
theorem lifted (os : Os) (started : os.Started) (H : Type) (enc : TypeId × Value → H) :
    ReturnsInHanded {} Try.checked os 4 .any (Rows.walSafeSpec.pre6 enc Try.prog Try.f4 Rows.walSafeRow.domain false) (Rows.walSafeSpec.post enc Try.prog Try.f4 false true false false) := by
  refine law_lift started (by kernel_rfl) Try.func4
    (ChangeSpec.witness6 (enc := enc) (C := Try.checked) false ⟨#[], #[.slice none 0 0, .slice none 0 0, .int .i64 0, .slice none 0 0], []⟩ 8 (by kernel_rfl) (by kernel_rfl) (by kernel_rfl) (by kernel_rfl))
    rfl ?_ (by kernel_rfl) (by kernel_rfl) ?_
  · intro ds h
    match ds, h with
    | [_, _, _, _], _ => rfl
  intro W base args ds p g
  have hA := g.trod
  have hval := g.val
  rw [Try.params4] at hA hval
  obtain ⟨v0, vs0, d0, ds0, p0, q0, hargs, rfl, rfl, h0, r0⟩ := trodAll_cons hA
  obtain ⟨v1, vs1, d1, ds1, p1, q1, rfl, rfl, rfl, h1, r1⟩ := trodAll_cons r0
  obtain ⟨v2, vs2, d2, ds2, p2, q2, rfl, rfl, rfl, h2, r2⟩ := trodAll_cons r1
  obtain ⟨v3, vs3, d3, ds3, p3, q3, rfl, rfl, rfl, h3, r3⟩ := trodAll_cons r2
  obtain ⟨rfl, rfl, rfl⟩ := trodAll_nil r3
  obtain rfl : args = #[v0, v1, v2, v3] := by cases args; simp_all
  obtain ⟨A0, n0, c0, l0, rfl, hc0, hm0, hr0⟩ := given_lists (hval 0 28 v0 rfl rfl) h0
  obtain ⟨A1, n1, c1, l1, rfl, hc1, hm1, hr1⟩ := given_bools (hval 1 48 v1 rfl rfl) h1
  obtain ⟨a2, rfl, _, _, w2⟩ := open_int Try.underlying3 (hval 2 3 v2 rfl rfl) h2
  have b2 := bounds_i64 w2
  obtain ⟨A3, n3, c3, l3, rfl, hc3, hm3, hr3⟩ := given_ints (hval 3 29 v3 rfl rfl) h3
  exact walSafe_walk A0 n0 c0 l0 A1 n1 c1 l1 a2 A3 n3 c3 l3 W hc0 hm0 hr0 hc1 hm1 hr1 b2.1 b2.2 hc3 hm3 hr3

theorem over : Rows.walSafeRow.holds Try.pinned (OpenSpec.ofChange Rows.walSafeSpec) :=
  OpenClaim.holds_of_wide 4 Try.f4 rfl rfl rfl rfl rfl rfl rfl ⟨rfl, rfl, rfl, rfl, rfl⟩ rfl rfl rfl rfl rfl (by kernel_rfl) Try.func4 (by kernel_rfl)
    (of_decide_eq_true (by kernel_rfl)) (by unfold Func.isWrapper; first | (rw [if_pos (by decide +kernel)]; kernel_rfl) | (rw [if_neg (by decide +kernel)]; exact ⟨rfl, rfl⟩))
    (fun os started H enc _ => lifted os started H enc)
end walSafe

theorem WalSafe_proved : Rows.WalSafeSaid := walSafe.over
#print axioms WalSafe_proved
end Go.Proofs.Ytpfccbojllabjaa
