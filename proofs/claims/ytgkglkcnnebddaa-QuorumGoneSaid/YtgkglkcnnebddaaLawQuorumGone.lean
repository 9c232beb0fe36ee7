/- QuorumGone. -/
import Derived.Test.YtgkglkcnnebddaaQuG
import Derived.Test.YtgkglkcnnebddaaQuRC
import Derived.Test.YtgkglkcnnebddaaRows
namespace Go.Proofs.Ytgkglkcnnebddaa
open Go.ChangeShapes Go.WideShapes Go.ChangeAt Go.RowKit Go.Deep

theorem xor_max (g : Nat) (hg : g < 4294967296) : bits .xor .u32 IntKind.u32.max (g : Int) = ((4294967295 - g : Nat) : Int) := by
  rw [show IntKind.u32.max = ((4294967295 : Nat) : Int) from rfl, u32_xor_nat 4294967295 g (by decide) hg]
  congr 1
  apply Nat.eq_of_testBit_eq
  intro i
  rw [Nat.testBit_xor]
  by_cases hi : i < 32
  · rw [compl_bit g i hg hi, show (4294967295 : Nat) = 2 ^ 32 - 1 from rfl, all_bit, decide_eq_true hi]
    cases g.testBit i <;> rfl
  · have h2 : 2 ^ 32 ≤ 2 ^ i := Nat.pow_le_pow_right (by decide) (by omega)
    rw [Nat.testBit_lt_two_pow (show (4294967295 : Nat) < 2 ^ i by omega), Nat.testBit_lt_two_pow (show g < 2 ^ i by omega), Nat.testBit_lt_two_pow (show 4294967295 - g < 2 ^ i by omega)]
    rfl

set_option maxRecDepth 100000 in
set_option maxHeartbeats 8000000 in
theorem quorumGone_walk (q : Qm) (A : Option Addr) (n c : Nat) (more : Int) (g : Nat) (w : World) (hq : Qi w q A n c) (hm1 : -9223372036854775808 ≤ more) (hm2 : more ≤ 9223372036854775807) (hg : g < 4294967296) :
    Calls Try.prog 8 #[qV q (.slice A n c), .int .i64 more, .int .u32 (g : Int)] w fun e w' => e = .returned (.bool true) ∧ Below w.heap.size w w' := by
  obtain ⟨w1, HW1, HB1, HK1⟩ := boxed q.kind q.nodes q.one q.two A n c w
  have HM := Lib.hid (qmany_any q.kind q.nodes q.one q.two A n c w1)
  have HCells : Hid (∀ W2, Below w1.heap.size w1 W2 → _) := Lib.hid fun W2 hb => QB.cells q.kind q.nodes q.one q.two A n c (HK1.out.below hb HK1.out.lt)
  have HRE := Lib.hid (fun W (hb : Below w1.heap.size w1 W) => reach_any q more A n c W (hq.up (below_then HB1.out hb)))
  have HRE1 := Lib.hid (fun W (hb : Below w1.heap.size w1 W) => reach_any q (more + 1) A n c W (hq.up (below_then HB1.out hb)))
  have hgc : 4294967295 - g < 4294967296 := by omega
  have HCA := Lib.hid (fun W (hb : Below w1.heap.size w1 W) => can_any q (4294967295 - g) hgc A n c W (hq.up (below_then HB1.out hb)))
  have hxm := xor_max g hg
  have hsg : IntKind.u32.signed = false := rfl
  have hnx : q.right = 0 → 0 ≤ more → q.reach more = 4 → q.reach (more + 1) = 4 := fun hr h0 h => q.gone_none hr h0 h
  have hok : q.right = 0 → 0 ≤ more → q.reach more = 0 → (bitsN q.n g : Int) ≤ more → q.can (4294967295 - g) = true := fun hr h0 h hb => q.gone_ok hr h0 h hg hb
  have hva := q.right_vals
  have hrbq := q.reach_bad
  have hrvq := q.reach_vals
  have hn12 : 12 < q.nodes → q.right = 2 := fun h => by unfold Qm.right; rw [if_pos (.inr h)]
  have HCo := Lib.hid (fun (h : q.nodes ≤ 12) W => count08_any g q.nodes h W)
  have hqn : q.nodes.toNat = q.n := rfl
  rw [hqn] at HCo
  unfold qV at *
  obtain ⟨k0, k1, k2, k3, k4⟩ := HK1.out.cells
  rw [HW1.out] at k0 k1 k2 k3 k4
  generalize q.reach (more + 1) = r2 at *
  generalize hr1 : q.reach more = r1 at *
  generalize q.can (4294967295 - g) = z at *
  generalize 4294967295 - g = gc at *
  generalize q.right = r at *
  generalize bitsN q.n g = b at *
  have hrb : r ≠ 0 → r1 = r := fun h => by have := hrbq h more; omega
  have hrv : r = 0 → 0 ≤ more → r1 = 0 ∨ r1 = 4 := fun h h0 => by have := hrvq h more h0; omega
  clear hrbq hrvq hr1 hq HK1 hqn
  obtain ⟨kd, nd, on, tw, l⟩ := q
  dsimp only at *
  by_cases hmy : 40 < n
  · rw [decide_eq_true hmy] at HM
    clear hmy hnx hok hva hrb hrv hn12
    go_enter Try.func8, Try.ntmps8
    go_wp2_with fail
    rw [← HW1.out]
    refine HM.out.mono ?_
    rintro e w2 ⟨rfl, hb2⟩
    have HB12 := Lib.hid hb2
    clear k0 k1 k2 k3 k4
    obtain ⟨j0, j1, j2, j3, j4⟩ := HCells.out w2 hb2
    clear hb2
    go_wp2_with fail
    
    refine (known_any _).mono ?_
    rintro e w9 ⟨rfl, hb9⟩
    have HB9 := Lib.hid (below_then HB1.out (below_then HB12.out hb9))
    clear hb9
    go_wp2
    go_ret
    exact ⟨rfl, HB9.out⟩
  rw [decide_eq_false hmy] at HM
  clear hmy
  by_cases hm0 : more < 0
  · clear hnx hok hva hrb hrv hn12
    go_enter Try.func8, Try.ntmps8
    go_wp2_with fail
    rw [← HW1.out]
    refine HM.out.mono ?_
    rintro e w2 ⟨rfl, hb2⟩
    have HB12 := Lib.hid hb2
    clear k0 k1 k2 k3 k4
    obtain ⟨j0, j1, j2, j3, j4⟩ := HCells.out w2 hb2
    clear hb2
    go_wp2_with fail
    
    refine (known_any _).mono ?_
    rintro e w9 ⟨rfl, hb9⟩
    have HB9 := Lib.hid (below_then HB1.out (below_then HB12.out hb9))
    clear hb9
    go_wp2
    go_ret
    exact ⟨rfl, HB9.out⟩
  by_cases hm12 : 12 < more
  · clear hnx hok hva hrb hrv hn12
    go_enter Try.func8, Try.ntmps8
    go_wp2_with fail
    rw [← HW1.out]
    refine HM.out.mono ?_
    rintro e w2 ⟨rfl, hb2⟩
    have HB12 := Lib.hid hb2
    clear k0 k1 k2 k3 k4
    obtain ⟨j0, j1, j2, j3, j4⟩ := HCells.out w2 hb2
    clear hb2
    go_wp2_with fail
    
    refine (known_any _).mono ?_
    rintro e w9 ⟨rfl, hb9⟩
    have HB9 := Lib.hid (below_then HB1.out (below_then HB12.out hb9))
    clear hb9
    go_wp2
    go_ret
    exact ⟨rfl, HB9.out⟩
  by_cases hnd : 12 < nd
  · have hr2 : r1 = 2 := by have h1 := hn12 hnd; have h2 := hrb (by omega); omega
    subst hr2
    clear hnx hok hva hrb hrv hn12
    go_enter Try.func8, Try.ntmps8
    go_wp2_with fail
    rw [← HW1.out]
    refine HM.out.mono ?_
    rintro e w2 ⟨rfl, hb2⟩
    have HB12 := Lib.hid hb2
    clear k0 k1 k2 k3 k4
    obtain ⟨j0, j1, j2, j3, j4⟩ := HCells.out w2 hb2
    clear hb2
    go_wp2_with fail
    
    refine (HRE.out _ HB12.out).mono ?_
    rintro e w3 ⟨rfl, hbx⟩
    have HB13 := Lib.hid (below_then HB12.out hbx)
    clear j0 j1 j2 j3 j4
    obtain ⟨j0, j1, j2, j3, j4⟩ := HCells.out _ HB13.out
    clear hbx
    go_wp2_with fail
    
    refine (known_any _).mono ?_
    rintro e w9 ⟨rfl, hb9⟩
    have HB9 := Lib.hid (below_then HB1.out (below_then HB13.out hb9))
    clear hb9
    go_wp2
    go_ret
    exact ⟨rfl, HB9.out⟩
  replace HCo := Lib.hid (HCo.out (by omega))
  clear hn12
  by_cases hr : r = 0
  · rcases hrv hr (by omega) with h1 | h1
    · have hz : (b : Int) ≤ more → z = true := fun hb => hok hr (by omega) h1 hb
      subst h1
      clear hnx hok hva hrb hrv
      by_cases hbm : (b : Int) ≤ more
      · have hz1 := hz hbm
        subst hz1
        clear hz
        go_enter Try.func8, Try.ntmps8
        go_wp2_with fail
        rw [← HW1.out]
        refine HM.out.mono ?_
        rintro e w2 ⟨rfl, hb2⟩
        have HB12 := Lib.hid hb2
        clear k0 k1 k2 k3 k4
        obtain ⟨j0, j1, j2, j3, j4⟩ := HCells.out w2 hb2
        clear hb2
        go_wp2_with fail
        
        refine (HRE.out _ HB12.out).mono ?_
        rintro e w3 ⟨rfl, hbx⟩
        have HB13 := Lib.hid (below_then HB12.out hbx)
        clear j0 j1 j2 j3 j4
        obtain ⟨j0, j1, j2, j3, j4⟩ := HCells.out _ HB13.out
        clear hbx
        go_wp2_with fail
        
        refine (HCo.out _).mono ?_
        rintro e w' ⟨rfl, rfl⟩
        go_wp2_with fail
        
        refine (HCA.out _ HB13.out).mono ?_
        rintro e w4 ⟨rfl, hbx⟩
        have HB14 := Lib.hid (below_then HB13.out hbx)
        clear j0 j1 j2 j3 j4
        obtain ⟨j0, j1, j2, j3, j4⟩ := HCells.out _ HB14.out
        clear hbx
        go_wp2_with fail
        
        refine (known_any _).mono ?_
        rintro e w9 ⟨rfl, hb9⟩
        have HB9 := Lib.hid (below_then HB1.out (below_then HB14.out hb9))
        clear hb9
        go_wp2
        go_ret
        exact ⟨rfl, HB9.out⟩
      · clear hz
        go_enter Try.func8, Try.ntmps8
        go_wp2_with fail
        rw [← HW1.out]
        refine HM.out.mono ?_
        rintro e w2 ⟨rfl, hb2⟩
        have HB12 := Lib.hid hb2
        clear k0 k1 k2 k3 k4
        obtain ⟨j0, j1, j2, j3, j4⟩ := HCells.out w2 hb2
        clear hb2
        go_wp2_with fail
        
        refine (HRE.out _ HB12.out).mono ?_
        rintro e w3 ⟨rfl, hbx⟩
        have HB13 := Lib.hid (below_then HB12.out hbx)
        clear j0 j1 j2 j3 j4
        obtain ⟨j0, j1, j2, j3, j4⟩ := HCells.out _ HB13.out
        clear hbx
        go_wp2_with fail
        
        refine (HCo.out _).mono ?_
        rintro e w' ⟨rfl, rfl⟩
        go_wp2_with fail
        
        refine (known_any _).mono ?_
        rintro e w9 ⟨rfl, hb9⟩
        have HB9 := Lib.hid (below_then HB1.out (below_then HB13.out hb9))
        clear hb9
        go_wp2
        go_ret
        exact ⟨rfl, HB9.out⟩
    · have h2 := hnx hr (by omega) h1
      subst h1
      subst h2
      clear hnx hok hva hrb hrv
      go_enter Try.func8, Try.ntmps8
      go_wp2_with fail
      rw [← HW1.out]
      refine HM.out.mono ?_
      rintro e w2 ⟨rfl, hb2⟩
      have HB12 := Lib.hid hb2
      clear k0 k1 k2 k3 k4
      obtain ⟨j0, j1, j2, j3, j4⟩ := HCells.out w2 hb2
      clear hb2
      go_wp2_with fail
      
      refine (HRE.out _ HB12.out).mono ?_
      rintro e w3 ⟨rfl, hbx⟩
      have HB13 := Lib.hid (below_then HB12.out hbx)
      clear j0 j1 j2 j3 j4
      obtain ⟨j0, j1, j2, j3, j4⟩ := HCells.out _ HB13.out
      clear hbx
      go_wp2_with fail
      
      refine (HCo.out _).mono ?_
      rintro e w' ⟨rfl, rfl⟩
      go_wp2_with fail
      
      refine (HRE1.out _ HB13.out).mono ?_
      rintro e w4 ⟨rfl, hbx⟩
      have HB14 := Lib.hid (below_then HB13.out hbx)
      clear j0 j1 j2 j3 j4
      obtain ⟨j0, j1, j2, j3, j4⟩ := HCells.out _ HB14.out
      clear hbx
      go_wp2_with fail
      
      refine (known_any _).mono ?_
      rintro e w9 ⟨rfl, hb9⟩
      have HB9 := Lib.hid (below_then HB1.out (below_then HB14.out hb9))
      clear hb9
      go_wp2
      go_ret
      exact ⟨rfl, HB9.out⟩
  · have h1 : r1 = 2 ∨ r1 = 80 := by have := hrb hr; omega
    clear hnx hok hva hrb hrv
    rcases h1 with rfl | rfl
    · go_enter Try.func8, Try.ntmps8
      go_wp2_with fail
      rw [← HW1.out]
      refine HM.out.mono ?_
      rintro e w2 ⟨rfl, hb2⟩
      have HB12 := Lib.hid hb2
      clear k0 k1 k2 k3 k4
      obtain ⟨j0, j1, j2, j3, j4⟩ := HCells.out w2 hb2
      clear hb2
      go_wp2_with fail
      
      refine (HRE.out _ HB12.out).mono ?_
      rintro e w3 ⟨rfl, hbx⟩
      have HB13 := Lib.hid (below_then HB12.out hbx)
      clear j0 j1 j2 j3 j4
      obtain ⟨j0, j1, j2, j3, j4⟩ := HCells.out _ HB13.out
      clear hbx
      go_wp2_with fail
      
      refine (HCo.out _).mono ?_
      rintro e w' ⟨rfl, rfl⟩
      go_wp2_with fail
      
      refine (known_any _).mono ?_
      rintro e w9 ⟨rfl, hb9⟩
      have HB9 := Lib.hid (below_then HB1.out (below_then HB13.out hb9))
      clear hb9
      go_wp2
      go_ret
      exact ⟨rfl, HB9.out⟩
    · go_enter Try.func8, Try.ntmps8
      go_wp2_with fail
      rw [← HW1.out]
      refine HM.out.mono ?_
      rintro e w2 ⟨rfl, hb2⟩
      have HB12 := Lib.hid hb2
      clear k0 k1 k2 k3 k4
      obtain ⟨j0, j1, j2, j3, j4⟩ := HCells.out w2 hb2
      clear hb2
      go_wp2_with fail
      
      refine (HRE.out _ HB12.out).mono ?_
      rintro e w3 ⟨rfl, hbx⟩
      have HB13 := Lib.hid (below_then HB12.out hbx)
      clear j0 j1 j2 j3 j4
      obtain ⟨j0, j1, j2, j3, j4⟩ := HCells.out _ HB13.out
      clear hbx
      go_wp2_with fail
      
      refine (HCo.out _).mono ?_
      rintro e w' ⟨rfl, rfl⟩
      go_wp2_with fail
      
      refine (known_any _).mono ?_
      rintro e w9 ⟨rfl, hb9⟩
      have HB9 := Lib.hid (below_then HB1.out (below_then HB13.out hb9))
      clear hb9
      go_wp2
      go_ret
      exact ⟨rfl, HB9.out⟩

namespace quorumGone
set_option maxRecDepth 100000 in
theorem lifted (os : Os) (started : os.Started) (H : Type) (enc : TypeId × Value → H) :
    ReturnsInHanded {} Try.checked os 8 .any (Rows.quorumGoneSpec.pre6 enc Try.prog Try.f8 Rows.quorumGoneRow.domain false) (Rows.quorumGoneSpec.post enc Try.prog Try.f8 false true false false) := by
  refine law_lift started (by kernel_rfl) Try.func8
    (ChangeSpec.witness6 (enc := enc) (C := Try.checked) false ⟨#[], #[.agg #[.int .i64 0, .int .i64 0, .int .i64 0, .int .i64 0, .slice none 0 0], .int .i64 0, .int .u32 0], []⟩ 8 (by kernel_rfl) (by kernel_rfl) (by kernel_rfl) (by kernel_rfl))
    rfl ?_ (by kernel_rfl) (by kernel_rfl) ?_
  · intro ds h
    match ds, h with
    | [_, _, _], _ => rfl
  intro W base args ds p g
  have hA := g.trod
  have hval := g.val
  rw [Try.params8] at hA hval
  obtain ⟨v0, vs0, d0, ds0, p0, q0, hargs, rfl, rfl, h0, r0⟩ := trodAll_cons hA
  obtain ⟨v1, vs1, d1, ds1, p1, q1, rfl, rfl, rfl, h1, r1⟩ := trodAll_cons r0
  obtain ⟨v2, vs2, d2, ds2, p2, q2, rfl, rfl, rfl, h2, r2⟩ := trodAll_cons r1
  obtain ⟨rfl, rfl, rfl⟩ := trodAll_nil r2
  obtain rfl : args = #[v0, v1, v2] := by cases args; simp_all
  obtain ⟨x0, hx0, rfl⟩ := given_q (hval 0 24 v0 rfl rfl) h0
  obtain ⟨a1, rfl, _, _, w1⟩ := open_int Try.underlying3 (hval 1 3 v1 rfl rfl) h1
  have b1 := bounds_i64 w1
  obtain ⟨a2, rfl, _, _, w2⟩ := open_int Try.underlying29 (hval 2 29 v2 rfl rfl) h2
  have b2 := bounds_u32 w2
  obtain ⟨m2, rfl⟩ := Int.eq_ofNat_of_zero_le b2.1
  exact quorumGone_walk x0.q x0.A x0.n x0.c a1 m2 W hx0 b1.1 b1.2 (by omega)

theorem over : Rows.quorumGoneRow.holds Try.pinned (OpenSpec.ofChange Rows.quorumGoneSpec) :=
  OpenClaim.holds_of_wide 8 Try.f8 rfl rfl rfl rfl rfl rfl rfl ⟨rfl, rfl, rfl, rfl, rfl⟩ rfl rfl rfl rfl rfl (by kernel_rfl) Try.func8 (by kernel_rfl)
    (of_decide_eq_true (by kernel_rfl)) (by unfold Func.isWrapper; first | (rw [if_pos (by decide +kernel)]; kernel_rfl) | (rw [if_neg (by decide +kernel)]; exact ⟨rfl, rfl⟩))
    (fun os started H enc _ => lifted os started H enc)
end quorumGone

theorem QuorumGone_proved : Rows.QuorumGoneSaid := quorumGone.over
#print axioms QuorumGone_proved
end Go.Proofs.Ytgkglkcnnebddaa
