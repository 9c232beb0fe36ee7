/- WalTurns: whenever the power goes while a new log takes the old one's place, whatever is kept: behind it the log is the old one, or the new one, whole; the new one, if that was answered (where no torn bytes are a record by chance). Of all lists, acts and numbers kept: no condition. -/
import Derived.Test.YtpfccbojllabjaaM1WRun2
import Derived.Test.YtpfccbojllabjaaM1WalP6
namespace Go.Proofs.Ytpfccbojllabjaa
open Go.ChangeShapes Go.WideShapes Go.ChangeAt Go.RowKit

theorem start_pair {W w : World} {gp gd M n : Nat} {H : Nat → Prop} (h6 : 6 ≤ n) (h1 : Pq w H gp gd M (Dk.new n).openL.2.2 (Dk.new n).openL.2.1) (h2 : ∀ k, H k → W.heap.size ≤ k) (h3 : Below W.heap.size W w) : RunP W w gp gd M (Dk.new n) { epoch := 0, recs := [], safe := 0, gone := false } := by
  have hf := fresh_on n h6
  have ho := open_again hf rfl
  rw [hf.found] at ho
  rw [ho] at h1
  exact RunP.of h1 h2 h3
theorem reopened {W w : World} {gp gd M : Nat} {d : Dk} {H : Nat → Prop} (hok : d.Ok) (h6 : 6 ≤ d.safe.length) (hf : d.Free) (h1 : Pq w H gp gd M d.openL.2.2 d.openL.2.1) (h2 : ∀ k, H k → W.heap.size ≤ k) (h3 : Below W.heap.size W w) : ∃ d2, RunP W w gp gd M d2 d.found := by
  obtain ⟨d2, ho, _⟩ := open_free hok h6 hf
  rw [ho] at h1
  exact ⟨d2, RunP.of h1 h2 h3⟩

set_option maxRecDepth 100000 in
set_option maxHeartbeats 8000000 in
theorem walTurns_walk (A1 : Option Addr) (n1 c1 : Nat) (l1 : List (List UInt8)) (A2 : Option Addr) (n2 c2 : Nat) (l2 : List (List UInt8)) (at_ : Int) (A3 : Option Addr) (n3 c3 : Nat) (l3 : List Int) (W : World)
    (hc1 : n1 ≤ c1) (hm1 : c1 ≤ 9223372036854775807) (h1 : Parts W W.heap.size A1 n1 l1) (hc2 : n2 ≤ c2) (hm2 : c2 ≤ 9223372036854775807) (h2 : Parts W W.heap.size A2 n2 l2) (ha1 : -9223372036854775808 ≤ at_) (ha2 : at_ ≤ 9223372036854775807)
    (hc3 : n3 ≤ c3) (hm3 : c3 ≤ 9223372036854775807) (h3 : RdI W W.heap.size A3 n3 l3) :
    Calls Try.prog 5 #[.slice A1 n1 c1, .slice A2 n2 c2, .int .i64 at_, .slice A3 n3 c3] W fun e w' => e = .returned (.bool true) ∧ Below W.heap.size W w' := by
  have H1 := Lib.hid h1
  have H2 := Lib.hid h2
  have H3 := Lib.hid h3
  have HV1 := Lib.hid (heavy_any A1 n1 c1 _ l1 W (by omega) h1)
  have hl1 := h1.1
  clear h1 h2 h3
  have HKn : Hid (∀ w, Below W.heap.size W w → Calls Try.prog 9 #[] w fun e w' => e = .returned (.bool true) ∧ Below W.heap.size W w') := fun w hb => by
    refine (known_any w).mono ?_
    rintro e w' ⟨rfl, hb'⟩
    exact ⟨rfl, below_then hb hb'⟩
  go_enter Try.func5, Try.ntmps5
  go_wp2_with fail
  refine HV1.out.mono ?_
  rintro e w1 ⟨b1, rfl, _, q1, rfl⟩
  have HB1 : Hid (Below W.heap.size W (W.drewN q1)) := bel_drewN (Below.refl _ _) q1
  clear HV1
  cases b1 with
  | true =>
    go_wp2_with fail
    refine (HKn.out _ HB1.out).mono ?_
    rintro e w2 ⟨rfl, hb⟩
    have HF := Lib.hid hb
    clear hb
    go_wp2
    go_ret
    exact ⟨rfl, HF.out⟩
  | false =>
    have HV2 := Lib.hid (heavy_any A2 n2 c2 _ l2 (W.drewN q1) (by omega) (H2.out.below HB1.out))
    go_wp2_with fail
    refine HV2.out.mono ?_
    rintro e w2 ⟨b2, rfl, _, q2, rfl⟩
    have HB2 : Hid (Below W.heap.size W ((W.drewN q1).drewN q2)) := bel_drewN HB1.out q2
    generalize (W.drewN q1).drewN q2 = w2 at *
    clear HV2 HB1
    by_cases hbad : b2 = true ∨ at_ < 0
    · have hfin : b2 = true ∨ (b2 = false ∧ at_ < 0) := by
        cases b2 with
        | true => exact .inl rfl
        | false => exact .inr ⟨rfl, by simpa using hbad⟩
      clear hbad
      rcases hfin with rfl | ⟨rfl, hat⟩
      all_goals
        go_wp2_with fail
        refine (HKn.out _ HB2.out).mono ?_
        rintro e w3 ⟨rfl, hb⟩
        have HF := Lib.hid hb
        clear hb
        go_wp2
        go_ret
        exact ⟨rfl, HF.out⟩
    · have hb2 : b2 = false := by
        cases b2 with
        | true => exact absurd (.inl rfl) hbad
        | false => rfl
      subst hb2
      have hat : ¬ at_ < 0 := fun h => hbad (.inr h)
      have hat0 : 0 ≤ at_ := by omega
      clear hbad
      go_wp2_with fail
      refine (start_any 30 w2 (by omega) (by omega)).mono ?_
      rintro e w3 ⟨gp, gd, M, H, rfl, hq, hge, hb⟩
      have hR0 := start_pair (n := 30) (by omega) hq (fun k e => Nat.le_trans HB2.out.size (hge k e)) (below_then HB2.out hb)
      have hR := hR0.reset (by simp [Dk.new]) (by simp [Dk.new]) A1 n1 c1 l1 (by omega) H1.out
      have hfr := fresh_on 30 (by omega)
      obtain ⟨gw, cw, hC⟩ := hR
      have HC := Lib.hid hC
      have HB3 := Lib.hid hR0.size
      clear hq hge hb hR0 hC HB2
      by_cases hn : nextE (Dk.new 30).bytes 0 l1 = 0
      · obtain ⟨d1, hr1, on1, fr1, wt1, ln1⟩ := reset_on hfr (Dk.new_free 30) rfl (l := l1) hn
        have hr1' : ({ epoch := 0, recs := [], safe := 0, gone := false } : Lg).reset (Dk.new 30) l1 = _ := hr1
        rw [hr1'] at HC
        have Hon1 := Lib.hid on1
        have hln1 : d1.safe.length = 30 := by rw [ln1]; simp [Dk.new]
        clear hr1 hr1' on1 fr1 ln1 hfr hn
        go_wp2_with fail
        refine HC.out.mono ?_
        rintro e w4 ⟨rfl, hb4, gr, cr, hC2⟩
        have HC2 := Lib.hid hC2
        clear hC2 HC cw hb4
        go_wp2_with fail
        refine HC2.out.mono ?_
        rintro e w5 ⟨rfl, hR5⟩
        have HR5 := Lib.hid hR5
        have c05 := hR5.disks.cells.1
        clear hR5 HC2 cr
        have HArm : Hid (∀ nn, -9223372036854775808 ≤ nn → nn ≤ 9223372036854775807 → Calls Try.prog 29 #[.pointer (some ⟨gd, 0, none⟩), .int .i64 nn] w5 fun e w1 => e = .returned (.tuple #[]) ∧ w1.cell? ⟨gp, 2, none⟩ = some (.pointer (some ⟨M, 0, none⟩)) ∧ Below W.heap.size W w1 ∧
            Calls Try.prog 30 #[.pointer (some ⟨M, 0, none⟩), .int .i64 nn] w1 fun e w2 => e = .returned (.tuple #[]) ∧ RunP W w2 gp gd M (d1.arm nn) { epoch := 0 + 1, recs := l1, safe := l1.length, gone := false }) := fun nn q1 q2 => (HR5.out.arm nn q1 q2).2
        have hta : at_ % 30 = at_.tmod 30 := (Int.tmod_eq_emod_of_nonneg hat0).symm
        obtain ⟨nn, hnn⟩ : ∃ nn, at_ % 30 = nn := ⟨_, rfl⟩
        have hnb : -9223372036854775808 ≤ nn ∧ nn ≤ 9223372036854775807 := by omega
        have hA := HArm.out nn hnb.1 hnb.2
        have HA := Lib.hid hA
        clear hA HArm
        rw [← hnn] at HA
        go_wp2_with fail
        refine HA.out.mono ?_
        rintro e w6 ⟨rfl, c26, hb6, hC6⟩
        have HC6 := Lib.hid hC6
        clear hC6 HA c05 hb6
        go_wp2_with fail
        refine HC6.out.mono ?_
        rintro e w7 ⟨rfl, hR7⟩
        have Hon7 := Lib.hid (arm_on Hon1.out (at_ % 30))
        have hw7 : (d1.arm (at_ % 30)).waits = [] := wt1
        have hl7 : (d1.arm (at_ % 30)).safe.length = 30 := hln1
        generalize d1.arm (at_ % 30) = d7 at *
        obtain ⟨gw8, c18, hC8⟩ := hR7.reset (by rw [hw7]; simp) (by omega) A2 n2 c2 l2 (by omega) H2.out
        have HPl := Lib.hid (turns_on Hon7.out hw7 rfl l2 l3)
        have hwr := reset_waits { epoch := 0 + 1, recs := l1, safe := l1.length, gone := false } d7 l2 (by omega)
        have hlr := reset_len { epoch := 0 + 1, recs := l1, safe := l1.length, gone := false } d7 l2
        have HC8 := Lib.hid hC8
        clear hC8 HC6 c26 hR7 Hon7 Hon1
        obtain ⟨⟨r, s9, d9⟩, hr9⟩ : ∃ p, ({ epoch := 0 + 1, recs := l1, safe := l1.length, gone := false } : Lg).reset d7 l2 = p := ⟨_, rfl⟩
        rw [hr9] at HC8 HPl hwr hlr
        simp only at HPl hwr hlr
        clear hr9
        go_wp2_with fail
        refine HC8.out.mono ?_
        rintro e w8 ⟨rfl, hb8, gr8, c38, hC9⟩
        have HC9 := Lib.hid hC9
        clear hC9 HC8 c18 hb8
        go_wp2_with fail
        refine HC9.out.mono ?_
        rintro e w9 ⟨rfl, hR9⟩
        have hok9 := hR9.ok.1
        obtain ⟨c09, hC10⟩ := hR9.disks.crashes (by rw [hw7] at hwr; simp at hwr; omega) A3 n3 c3 l3 (by omega) H3.out
        have Hok9 := Lib.hid (Dk.crash_ok hok9 l3)
        have HC10 := Lib.hid hC10
        clear hC10 HC9 c38 hR9 hok9
        go_wp2_with fail
        refine HC10.out.mono ?_
        rintro e w10 ⟨rfl, c210, hC11⟩
        have HC11 := Lib.hid hC11
        clear hC11 HC10 c09
        go_wp2_with fail
        refine HC11.out.mono ?_
        rintro e w11 ⟨rfl, hC12⟩
        have HC12 := Lib.hid hC12
        clear hC12 HC11 c210
        go_wp2_with fail
        refine HC12.out.mono ?_
        rintro e w12 ⟨rfl, H12, hq12, hH12, hb12⟩
        obtain ⟨d12, hR12⟩ := reopened Hok9.out (by rw [Dk.crash_len]; omega) (Dk.crash_free _ _) hq12 hH12 hb12
        have hgf : (d9.crash l3).found.gone = false := rfl
        generalize (d9.crash l3).found = s12 at *
        have hL12 : s12.tellL = s12.recs := by unfold Lg.tellL; rw [hgf]; rfl
        obtain ⟨gw12, gr12, c112, c312, ⟨Ar, cr, c212, hcr1, hcr2, hPr⟩, hrec, _⟩ := hR12.tell
        rw [hL12] at hrec
        have HPr := Lib.hid hPr
        have HC13 := Lib.hid hrec
        have HR12 := Lib.hid hR12
        obtain ⟨R, hRR⟩ : ∃ R, s12.recs = R := ⟨_, rfl⟩
        rw [hRR] at HPr HC13 HPl c212 hcr1
        obtain ⟨nR, hnR⟩ : ∃ nR, R.length = nR := ⟨_, rfl⟩
        have HT : Hid (∀ W0, ToldL R W0 = fun e w' => ∃ A c vals, e = .returned (.slice A nR c) ∧ w'.ownsRow W0.heap.size 40 1 (.slice A nR c) nR vals ∧ Fam w' W0.heap.size vals R ∧ Below W0.heap.size W0 w') := fun W0 => by
          show _ = _
          unfold ToldL
          rw [hnR]
        rw [hnR] at HPr c212 hcr1
        rw [HT.out] at HC13
        clear hrec hR12 hPr hq12 hH12 hb12 HC12 hL12 hgf hRR Hok9
        go_wp2_with fail
        refine HC13.out.mono ?_
        rintro e w13 ⟨A13, c13, vals13, rfl, ho13, hf13, hb13⟩
        have HR13 := Lib.hid (HR12.out.below hb13)
        have HPn : Hid (Parts w13 w13.heap.size A13 nR R) := told_parts hnR.symm ho13 hf13
        have HPr13 := Lib.hid (HPr.out.below hb13)
        have d312 : w13.cell? ⟨gp, 3, none⟩ = some (.pointer (some ⟨gr12, 0, none⟩)) := (hb13.cell (World.block_lt_of_cell? _ _ c312)).trans c312
        have d212 : w13.cell? ⟨gr12, 2, none⟩ = some (.slice Ar nR cr) := (hb13.cell (World.block_lt_of_cell? _ _ c212)).trans c212
        have hnR4 : nR ≤ 9223372036854775807 := by unfold maxLen at hcr2; omega
        have HS1 : Hid (∀ w', Below w13.heap.size w13 w' → Calls Try.prog 31 #[.slice Ar nR cr, .slice A1 n1 c1] w' fun e w'' => e = .returned (.bool (R == l1)) ∧ ∃ q, w'.drewN q = w'') := fun w' hb => sameLists_any Ar A1 nR cr n1 c1 _ _ R l1 w' hnR4 (by omega) (HPr13.out.below (hb.mono hb13.size)) (H1.out.below (HR13.out.below hb).size)
        have HS2 : Hid (∀ w', Below w13.heap.size w13 w' → Calls Try.prog 31 #[.slice Ar nR cr, .slice A2 n2 c2] w' fun e w'' => e = .returned (.bool (R == l2)) ∧ ∃ q, w'.drewN q = w'') := fun w' hb => sameLists_any Ar A2 nR cr n2 c2 _ _ R l2 w' hnR4 (by omega) (HPr13.out.below (hb.mono hb13.size)) (H2.out.below (HR13.out.below hb).size)
        have HS3 : Hid (∀ w', Below w13.heap.size w13 w' → Calls Try.prog 31 #[.slice A13 nR c13, .slice A1 n1 c1] w' fun e w'' => e = .returned (.bool (R == l1)) ∧ ∃ q, w'.drewN q = w'') := fun w' hb => sameLists_any A13 A1 nR c13 n1 c1 _ _ R l1 w' hnR4 (by omega) (HPn.out.below hb) (H1.out.below (HR13.out.below hb).size)
        have HS4 : Hid (∀ w', Below w13.heap.size w13 w' → Calls Try.prog 31 #[.slice A13 nR c13, .slice A2 n2 c2] w' fun e w'' => e = .returned (.bool (R == l2)) ∧ ∃ q, w'.drewN q = w'') := fun w' hb => sameLists_any A13 A2 nR c13 n2 c2 _ _ R l2 w' hnR4 (by omega) (HPn.out.below hb) (H2.out.below (HR13.out.below hb).size)
        have HK2 : Hid (∀ w', Below w13.heap.size w13 w' → Calls Try.prog 9 #[] w' fun e w'' => e = .returned (.bool true) ∧ Below W.heap.size W w'') := fun w' hb => HKn.out w' (HR13.out.below hb).size
        clear ho13 hf13 hb13 HC13 HR12 HPr c112 c312 c212
        have HBB : Hid (∀ q, Below w13.heap.size w13 (w13.drewN q)) := fun q => bel_drewN (Below.refl _ _) q
        obtain ⟨x1, hx1⟩ : ∃ x1, (R == l1) = x1 := ⟨_, rfl⟩
        obtain ⟨x2, hx2⟩ : ∃ x2, (R == l2) = x2 := ⟨_, rfl⟩
        rw [hx1] at HS1 HS3
        rw [hx2] at HS2 HS4
        have Hx1 := Lib.hid hx1
        have Hx2 := Lib.hid hx2
        have HPH := Lib.hid HPl.out
        clear hx1 hx2 HPl HBB
        by_cases hr0 : r = 0
        · have e2 : x2 = true := by rw [← Hx2.out, HPH.out.1 hr0]; simp
          subst e2 hr0
          cases x1 with
          | true =>
            go_wp2_with fail
            refine (HS1.out _ (Below.refl _ _)).mono ?_
            rintro e v5 ⟨rfl, q5, hq5⟩
            have HB5 : Hid (Below w13.heap.size w13 v5) := by rw [← hq5]; exact bel_drewN (Below.refl _ _) q5
            clear hq5
            go_wp2_with fail
            refine (HS4.out _ HB5.out).mono ?_
            rintro e v6 ⟨rfl, q6, hq6⟩
            have HB6 : Hid (Below w13.heap.size w13 v6) := by rw [← hq6]; exact bel_drewN HB5.out q6
            clear hq6
            go_wp2_with fail
            refine (HK2.out _ HB6.out).mono ?_
            rintro e w' ⟨rfl, hbf⟩
            have HF := Lib.hid hbf
            clear hbf
            go_wp2
            go_ret
            exact ⟨rfl, HF.out⟩
          | false =>
            go_wp2_with fail
            refine (HS1.out _ (Below.refl _ _)).mono ?_
            rintro e v5 ⟨rfl, q5, hq5⟩
            have HB5 : Hid (Below w13.heap.size w13 v5) := by rw [← hq5]; exact bel_drewN (Below.refl _ _) q5
            clear hq5
            go_wp2_with fail
            refine (HS2.out _ HB5.out).mono ?_
            rintro e v6 ⟨rfl, q6, hq6⟩
            have HB6 : Hid (Below w13.heap.size w13 v6) := by rw [← hq6]; exact bel_drewN HB5.out q6
            clear hq6
            go_wp2_with fail
            refine (HS4.out _ HB6.out).mono ?_
            rintro e v7 ⟨rfl, q7, hq7⟩
            have HB7 : Hid (Below w13.heap.size w13 v7) := by rw [← hq7]; exact bel_drewN HB6.out q7
            clear hq7
            go_wp2_with fail
            refine (HK2.out _ HB7.out).mono ?_
            rintro e w' ⟨rfl, hbf⟩
            have HF := Lib.hid hbf
            clear hbf
            go_wp2
            go_ret
            exact ⟨rfl, HF.out⟩
        · have hrb : (r == 0) = false := by simpa using hr0
          cases x1 with
          | true =>
            clear hr0
            go_wp2_with fail
            refine (HS1.out _ (Below.refl _ _)).mono ?_
            rintro e v5 ⟨rfl, q5, hq5⟩
            have HB5 : Hid (Below w13.heap.size w13 v5) := by rw [← hq5]; exact bel_drewN (Below.refl _ _) q5
            clear hq5
            go_wp2_with fail
            refine (HS3.out _ HB5.out).mono ?_
            rintro e v6 ⟨rfl, q6, hq6⟩
            have HB6 : Hid (Below w13.heap.size w13 v6) := by rw [← hq6]; exact bel_drewN HB5.out q6
            clear hq6
            go_wp2_with fail
            refine (HK2.out _ HB6.out).mono ?_
            rintro e w' ⟨rfl, hbf⟩
            have HF := Lib.hid hbf
            clear hbf
            go_wp2
            go_ret
            exact ⟨rfl, HF.out⟩
          | false =>
            cases x2 with
            | false =>
              clear hr0
              go_wp2_with fail
              refine (HS1.out _ (Below.refl _ _)).mono ?_
              rintro e v5 ⟨rfl, q5, hq5⟩
              have HB5 : Hid (Below w13.heap.size w13 v5) := by rw [← hq5]; exact bel_drewN (Below.refl _ _) q5
              clear hq5
              go_wp2_with fail
              refine (HS2.out _ HB5.out).mono ?_
              rintro e v6 ⟨rfl, q6, hq6⟩
              have HB6 : Hid (Below w13.heap.size w13 v6) := by rw [← hq6]; exact bel_drewN HB5.out q6
              clear hq6
              go_wp2_with fail
              refine (HK2.out _ HB6.out).mono ?_
              rintro e w' ⟨rfl, hbf⟩
              have HF := Lib.hid hbf
              clear hbf
              go_wp2
              go_ret
              exact ⟨rfl, HF.out⟩
            | true =>
              have hr6 : r = 6 := Classical.byContradiction fun h => by
                have := HPH.out.2 hr0 h
                have h2 := Hx1.out
                rw [this] at h2
                simp at h2
              subst hr6
              clear hr0
              go_wp2_with fail
              refine (HS1.out _ (Below.refl _ _)).mono ?_
              rintro e v5 ⟨rfl, q5, hq5⟩
              have HB5 : Hid (Below w13.heap.size w13 v5) := by rw [← hq5]; exact bel_drewN (Below.refl _ _) q5
              clear hq5
              go_wp2_with fail
              refine (HS2.out _ HB5.out).mono ?_
              rintro e v6 ⟨rfl, q6, hq6⟩
              have HB6 : Hid (Below w13.heap.size w13 v6) := by rw [← hq6]; exact bel_drewN HB5.out q6
              clear hq6
              go_wp2_with fail
              refine (HS3.out _ HB6.out).mono ?_
              rintro e v7 ⟨rfl, q7, hq7⟩
              have HB7 : Hid (Below w13.heap.size w13 v7) := by rw [← hq7]; exact bel_drewN HB6.out q7
              clear hq7
              go_wp2_with fail
              refine (HS4.out _ HB7.out).mono ?_
              rintro e v8 ⟨rfl, q8, hq8⟩
              have HB8 : Hid (Below w13.heap.size w13 v8) := by rw [← hq8]; exact bel_drewN HB7.out q8
              clear hq8
              go_wp2_with fail
              refine (HK2.out _ HB8.out).mono ?_
              rintro e w' ⟨rfl, hbf⟩
              have HF := Lib.hid hbf
              clear hbf
              go_wp2
              go_ret
              exact ⟨rfl, HF.out⟩
      · have hr1 := reset_not (d := Dk.new 30) (s := { epoch := 0, recs := [], safe := 0, gone := false }) rfl (l := l1) hn
        rw [hr1] at HC
        have hn1 : 0 < n1 := by
          rcases Nat.eq_zero_or_pos n1 with h | h
          · exfalso
            have : l1 = [] := List.length_eq_zero_iff.1 (by omega)
            subst this
            apply hn
            unfold nextE
            rw [if_neg (by simp), if_neg]
            simp [usedF, framesF]
          · exact h
        have hnb : ((nextE (Dk.new 30).bytes 0 l1) != 0) = true := by simpa using hn
        obtain ⟨r, hr⟩ : ∃ r, nextE (Dk.new 30).bytes 0 l1 = r := ⟨_, rfl⟩
        rw [hr] at HC hnb
        have hni : (0 : Int) < (n1 : Int) := by omega
        clear hr1 hr hfr hn
        go_wp2_with fail
        refine HC.out.mono ?_
        rintro e w4 ⟨rfl, hb4, _⟩
        have HK4 := Lib.hid (HKn.out w4 hb4)
        clear hb4 HC cw
        go_wp2_with fail
        refine HK4.out.mono ?_
        rintro e w5 ⟨rfl, hb⟩
        have HF := Lib.hid hb
        clear hb HK4
        go_wp2
        go_ret
        exact ⟨rfl, HF.out⟩
namespace walTurns
set_option maxRecDepth 100000 in
theorem lifted (os : Os) (started : os.Started) (H : Type) (enc : TypeId × Value → H) :
    ReturnsInHanded {} Try.checked os 5 .any (Rows.walTurnsSpec.pre6 enc Try.prog Try.f5 Rows.walTurnsRow.domain false) (Rows.walTurnsSpec.post enc Try.prog Try.f5 false true false false) := by
  refine law_lift started (by kernel_rfl) Try.func5
    (ChangeSpec.witness6 (enc := enc) (C := Try.checked) false ⟨#[], #[.slice none 0 0, .slice none 0 0, .int .i64 0, .slice none 0 0], []⟩ 8 (by kernel_rfl) (by kernel_rfl) (by kernel_rfl) (by kernel_rfl))
    rfl ?_ (by kernel_rfl) (by kernel_rfl) ?_
  · intro ds h
    match ds, h with
    | [_, _, _, _], _ => rfl
  intro W base args ds p g
  have hA := g.trod
  have hval := g.val
  rw [Try.params5] at hA hval
  obtain ⟨v0, vs0, d0, ds0, p0, q0, hargs, rfl, rfl, h0, r0⟩ := trodAll_cons hA
  obtain ⟨v1, vs1, d1, ds1, p1, q1, rfl, rfl, rfl, h1, r1⟩ := trodAll_cons r0
  obtain ⟨v2, vs2, d2, ds2, p2, q2, rfl, rfl, rfl, h2, r2⟩ := trodAll_cons r1
  obtain ⟨v3, vs3, d3, ds3, p3, q3, rfl, rfl, rfl, h3, r3⟩ := trodAll_cons r2
  obtain ⟨rfl, rfl, rfl⟩ := trodAll_nil r3
  obtain rfl : args = #[v0, v1, v2, v3] := by cases args; simp_all
  obtain ⟨A0, n0, c0, l0, rfl, hc0, hm0, hr0⟩ := given_lists (hval 0 28 v0 rfl rfl) h0
  obtain ⟨A1, n1, c1, l1, rfl, hc1, hm1, hr1⟩ := given_lists (hval 1 28 v1 rfl rfl) h1
  obtain ⟨a2, rfl, _, _, w2⟩ := open_int Try.underlying3 (hval 2 3 v2 rfl rfl) h2
  have b2 := bounds_i64 w2
  obtain ⟨A3, n3, c3, l3, rfl, hc3, hm3, hr3⟩ := given_ints (hval 3 29 v3 rfl rfl) h3
  exact walTurns_walk A0 n0 c0 l0 A1 n1 c1 l1 a2 A3 n3 c3 l3 W hc0 hm0 hr0 hc1 hm1 hr1 b2.1 b2.2 hc3 hm3 hr3

theorem over : Rows.walTurnsRow.holds Try.pinned (OpenSpec.ofChange Rows.walTurnsSpec) :=
  OpenClaim.holds_of_wide 5 Try.f5 rfl rfl rfl rfl rfl rfl rfl ⟨rfl, rfl, rfl, rfl, rfl⟩ rfl rfl rfl rfl rfl (by kernel_rfl) Try.func5 (by kernel_rfl)
    (of_decide_eq_true (by kernel_rfl)) (by unfold Func.isWrapper; first | (rw [if_pos (by decide +kernel)]; kernel_rfl) | (rw [if_neg (by decide +kernel)]; exact ⟨rfl, rfl⟩))
    (fun os started H enc _ => lifted os started H enc)
end walTurns

theorem WalTurns_proved : Rows.WalTurnsSaid := walTurns.over
#print axioms WalTurns_proved
end Go.Proofs.Ytpfccbojllabjaa
