/- Layer 12, the program's row: where a slot's entry stands; what stands from a slot on; a run without a gap. -/
import Derived.Test.YtnomddhgcdoifaaRlM
import Derived.Deep.LoopGhost
import Derived.Deep.RegionLaw
import Derived.Deep.RegionHeld3
namespace Go.Proofs.Ytnomddhgcdoifaa
open Go.RowKit

def cmpI (a b : Nat) : Int := if a < b then -1 else if b < a then 1 else 0
set_option maxRecDepth 100000 in
theorem isNaN64_any (a : Nat) (w : World) : Calls Try.prog 47 #[.int .u64 (a : Int)] w fun e w' => e = .returned (.bool false) ∧ w = w' := by
  go_enter Try.func47, Try.ntmps47
  go_wp2
  go_ret
  exact ⟨by simp, rfl⟩
set_option maxRecDepth 100000 in
theorem compare64_any (a b : Nat) (w : World) : Calls Try.prog 43 #[.int .u64 (a : Int), .int .u64 (b : Int)] w fun e w' => e = .returned (.int .i64 (cmpI a b)) ∧ w = w' := by
  have HN := Lib.hid (fun k => isNaN64_any k w)
  unfold cmpI
  have hor : a < b ∨ (¬ a < b ∧ b < a) ∨ (¬ a < b ∧ ¬ b < a) := by omega
  rcases hor with h1 | ⟨h1, h2⟩ | ⟨h1, h2⟩
  · have m1 : (a : Int) < (b : Int) := by omega
    rw [if_pos h1]
    go_enter Try.func43, Try.ntmps43
    go_wp2_with fail
    refine (HN.out a).mono ?_
    rintro e w1 ⟨rfl, rfl⟩
    go_wp2_with fail
    refine (HN.out b).mono ?_
    rintro e w1 ⟨rfl, rfl⟩
    go_wp2
    go_ret
    exact ⟨rfl, rfl⟩
  · have m1 : ¬ (a : Int) < (b : Int) := by omega
    have m2 : (b : Int) < (a : Int) := by omega
    rw [if_neg h1, if_pos h2]
    go_enter Try.func43, Try.ntmps43
    go_wp2_with fail
    refine (HN.out a).mono ?_
    rintro e w1 ⟨rfl, rfl⟩
    go_wp2_with fail
    refine (HN.out b).mono ?_
    rintro e w1 ⟨rfl, rfl⟩
    go_wp2
    go_ret
    exact ⟨rfl, rfl⟩
  · have m1 : ¬ (a : Int) < (b : Int) := by omega
    have m2 : ¬ (b : Int) < (a : Int) := by omega
    rw [if_neg h1, if_neg h2]
    go_enter Try.func43, Try.ntmps43
    go_wp2_with fail
    refine (HN.out a).mono ?_
    rintro e w1 ⟨rfl, rfl⟩
    go_wp2_with fail
    refine (HN.out b).mono ?_
    rintro e w1 ⟨rfl, rfl⟩
    go_wp2
    go_ret
    exact ⟨rfl, rfl⟩

set_option maxRecDepth 100000 in
theorem efindF_any (e : En) (x : Sl3) (s : Nat) (w : World) : Calls Try.prog 42 #[enV e x, .int .u64 (s : Int)] w fun r w' => r = .returned (.int .i64 (cmpI e.slot s)) ∧ Below w.heap.size w w' := by
  obtain ⟨sl, l⟩ := e
  unfold enV
  dsimp only
  generalize s3W x = xv
  obtain ⟨w1, hw1⟩ : ∃ w1, w1 = w.alloc (.cells #[.int .u64 (sl : Int), xv] 45) := ⟨_, rfl⟩
  have hb1 : Below w.heap.size w w1 := by rw [hw1]; exact (Below.refl _ _).alloc (Nat.le_refl _) _
  have HC := Lib.hid (compare64_any sl s w1)
  have HW := Lib.hid hw1
  have HB := Lib.hid hb1
  clear hw1 hb1
  go_enter Try.func42, Try.ntmps42
  go_wp2_with fail
  rw [← HW.out]
  refine HC.out.mono ?_
  rintro e w2 ⟨rfl, rfl⟩
  go_wp2
  go_ret
  exact ⟨rfl, HB.out⟩
def BsE (s : Nat) (l : List En) (w : World) (e : Ending) (w' : World) : Prop := e = .returned (.tuple #[.int .i64 (findE s l : Int), .bool (hasE s l)]) ∧ Below w.heap.size w w'
theorem map_at (es : List Ene) (k : Nat) (hk : k < es.length) : (es.map (·.1))[k]'(by simpa using hk) = es[k].1 := by simp
set_option maxRecDepth 100000 in
set_option maxHeartbeats 2000000 in
theorem ebsearch_any {w : World} {F : Nat → Prop} {v : Value} {es : List Ene} (h : EnRow w F v es) (hs : Rise (es.map (·.1))) (hn : es.length ≤ 1000000) (s : Nat) :
    Calls Try.prog 41 #[v, .int .u64 (s : Int), .func (.func 42) #[] #[]] w (BsE s (es.map (·.1)) w) := by
  obtain ⟨A, c, hv, hc1, hc2⟩ := h.shape
  have HC : Hid (∀ W, Below w.heap.size w W → ∀ i (hi : i < es.length), ∃ R, A = some ⟨R, 0, none⟩ ∧ W.cell? ⟨R, i * 2, none⟩ = some (.int .u64 (es[i].1.slot : Int)) ∧ W.cell? ⟨R, i * 2 + 1, none⟩ = some (s3W es[i].2)) := Lib.hid fun W hb i hi => by
    obtain ⟨R, c', e, _, _, _, q0, q1⟩ := (h.below hb).cell i hi
    rw [hv] at e
    injection e with e _ _
    exact ⟨R, e, q0, q1⟩
  obtain ⟨N, hN⟩ : ∃ N, N = es.length := ⟨_, rfl⟩
  have HN := Lib.hid hN
  have HSr := Lib.hid hs
  rw [hv]
  rw [← hN] at hn hc1 ⊢
  obtain ⟨fv, hfv⟩ : ∃ fv, fv = findE s (es.map (·.1)) := ⟨_, rfl⟩
  have Hfv := Lib.hid hfv
  have HHas : Hid (fv = N → hasE s (es.map (·.1)) = false) := Lib.hid fun e => by
    unfold hasE
    rw [← hfv, e, List.getElem?_eq_none (by rw [List.length_map]; omega)]
    rfl
  have HHas2 : Hid (∀ hk : fv < es.length, hasE s (es.map (·.1)) = decide (es[fv].1.slot = s)) := Lib.hid fun hk => by
    unfold hasE
    rw [← hfv, List.getElem?_eq_getElem (by rw [List.length_map]; omega), map_at es fv hk]
    simp
  unfold BsE
  rw [← hfv]
  obtain ⟨hb, hhb⟩ : ∃ hb, hb = hasE s (es.map (·.1)) := ⟨_, rfl⟩
  rw [← hhb] at HHas HHas2 ⊢
  have HF : Hid (∀ (u : En) x W, Calls Try.prog 42 #[enV u x, .int .u64 (s : Int)] W fun e w' => e = .returned (.int .i64 (cmpI u.slot s)) ∧ Below W.heap.size W w') := Lib.hid fun u x W => efindF_any u x s W
  clear h hs hv hN hfv hhb
  go_enter Try.func41, Try.ntmps41
  go_wp2
  go_loopg [9, 10] N (fun gk a b wr => ∃ i j : Nat, a = .int .i64 (i : Int) ∧ b = .int .i64 (j : Int) ∧ i ≤ j ∧ j ≤ N ∧ i + gk = j ∧ Hid (∀ k (hk : k < es.length), k < i → es[k].1.slot < s) ∧ Hid (∀ k (hk : k < es.length), j ≤ k → s ≤ es[k].1.slot) ∧ Hid (Below w.heap.size w wr))
  case atStart => exact ⟨0, N, rfl, rfl, by omega, by omega, by omega, Lib.hid (fun k _ hk => by omega), Lib.hid (fun k hk hk2 => by rw [← HN.out] at hk; omega), Lib.hid (Below.refl _ _)⟩
  case round =>
    obtain ⟨i, j, rfl, rfl, hij, hjN, hg, HL, HU, HB⟩ := hrel
    by_cases hlt : i < j
    · have m1 : (i : Int) < (j : Int) := by omega
      obtain ⟨T, hT⟩ : ∃ T, T = i + j := ⟨_, rfl⟩
      obtain ⟨H, hH⟩ : ∃ H, H = T / 2 := ⟨_, rfl⟩
      have e1 : IntKind.i64.wrap ((i : Int) + (j : Int)) = (T : Int) := by rw [IntKind.wrap_i64]; omega
      have e2 : IntKind.u64.wrap (T : Int) = (T : Int) := by rw [IntKind.wrap_u64]; omega
      have e3 : (T : Int) / 2 = (H : Int) := by omega
      have e4 : IntKind.i64.wrap (H : Int) = (H : Int) := by rw [IntKind.wrap_i64]; omega
      have e5 : IntKind.i64.wrap ((H : Int) + 1) = ((H + 1 : Nat) : Int) := by rw [IntKind.wrap_i64]; omega
      have hHN : H < N := by omega
      have hHj : H < j := by omega
      have hiH : i ≤ H := by omega
      have b1 : (H : Int) < (N : Int) := by omega
      have b0 : ¬ (H : Int) < 0 := by omega
      have hHe : H < es.length := by rw [← HN.out]; exact hHN
      obtain ⟨R, rfl, q0, q1⟩ := HC.out wr HB.out H hHe
      have HQ := Lib.hid (HF.out es[H].1 es[H].2 wr)
      have HL2 : Hid (es[H].1.slot < s → ∀ k (hk : k < es.length), k < H + 1 → es[k].1.slot < s) := Lib.hid fun hlt k hk hk2 => by
        by_cases e : k = H
        · subst e; exact hlt
        · have h0 := HSr.out.at (i := k) (j := H) (by simpa using hk) (by simpa using hHe) (by omega)
          rw [map_at es k hk, map_at es H hHe] at h0
          omega
      have HU2 : Hid (¬ es[H].1.slot < s → ∀ k (hk : k < es.length), H ≤ k → s ≤ es[k].1.slot) := Lib.hid fun hlt k hk hk2 => by
        by_cases e : k = H
        · subst e; omega
        · have h0 := HSr.out.at (i := H) (j := k) (by simpa using hHe) (by simpa using hk) (by omega)
          rw [map_at es k hk, map_at es H hHe] at h0
          omega
      generalize es[H] = eH at *
      obtain ⟨⟨sl, l⟩, x⟩ := eH
      unfold enV at HQ
      dsimp only at q0 q1 HQ HL2 HU2
      generalize s3W x = xv at *
      have Hhj := Lib.hid (And.intro hHj hiH)
      have Hg := Lib.hid hg
      clear hT hH hHe hij hg
      unfold cmpI at HQ
      by_cases hs1 : sl < s
      · rw [if_pos hs1] at HQ
        have HL3 := Lib.hid (HL2.out hs1)
        clear HL2 HU2
        go_wp2_with fail
        refine HQ.out.mono ?_
        rintro e w2 ⟨rfl, hb2⟩
        have HB2 := Lib.hid (HB.out.trans (hb2.mono HB.out.size))
        clear hb2 q0 q1 HQ
        go_wp2
        go_roundg (j - (H + 1))
        case measure => have := Hhj.out; have := Hg.out; omega
        case rel => exact ⟨H + 1, j, rfl, rfl, by have := Hhj.out; omega, hjN, by have := Hhj.out; omega, HL3, HU, HB2⟩
      · have HU3 := Lib.hid (HU2.out hs1)
        rw [if_neg hs1] at HQ
        clear HL2 HU2
        by_cases hs2 : s < sl
        · rw [if_pos hs2] at HQ
          go_wp2_with fail
          refine HQ.out.mono ?_
          rintro e w2 ⟨rfl, hb2⟩
          have HB2 := Lib.hid (HB.out.trans (hb2.mono HB.out.size))
          clear hb2 q0 q1 HQ
          go_wp2
          go_roundg (H - i)
          case measure => have := Hhj.out; have := Hg.out; omega
          case rel => exact ⟨i, H, rfl, rfl, by have := Hhj.out; omega, by omega, by have := Hhj.out; omega, HL, HU3, HB2⟩
        · rw [if_neg hs2] at HQ
          go_wp2_with fail
          refine HQ.out.mono ?_
          rintro e w2 ⟨rfl, hb2⟩
          have HB2 := Lib.hid (HB.out.trans (hb2.mono HB.out.size))
          clear hb2 q0 q1 HQ
          go_wp2
          go_roundg (H - i)
          case measure => have := Hhj.out; have := Hg.out; omega
          case rel => exact ⟨i, H, rfl, rfl, by have := Hhj.out; omega, by omega, by have := Hhj.out; omega, HL, HU3, HB2⟩
    · obtain rfl : i = j := by omega
      have m1 : ¬ (i : Int) < (i : Int) := by omega
      have hfi : i = fv := by
        rw [Hfv.out]
        refine findE_unique HSr.out (by rw [List.length_map, ← HN.out]; exact hjN) (fun k hk hk2 => ?_) (fun k hk hk2 => ?_)
        · rw [List.length_map] at hk
          rw [map_at es k hk]
          exact HL.out k hk hk2
        · rw [List.length_map] at hk
          rw [map_at es k hk]
          exact HU.out k hk hk2
      subst hfi
      by_cases hiN : i < N
      · have b1 : (i : Int) < (N : Int) := by omega
        have b0 : ¬ (i : Int) < 0 := by omega
        have hie : i < es.length := by rw [← HN.out]; exact hiN
        obtain ⟨R, rfl, q0, q1⟩ := HC.out wr HB.out i hie
        have HQ := Lib.hid (HF.out es[i].1 es[i].2 wr)
        have hq := HHas2.out hie
        generalize es[i] = eH at *
        obtain ⟨⟨sl, l⟩, x⟩ := eH
        unfold enV at HQ
        dsimp only at q0 q1 HQ hq
        generalize s3W x = xv at *
        subst hq
        unfold cmpI at HQ
        clear hij HHas HHas2
        by_cases h1 : sl < s
        · rw [if_pos h1] at HQ
          go_wp2_with fail
          refine HQ.out.mono ?_
          rintro e w2 ⟨rfl, hb2⟩
          have HB2 := Lib.hid (HB.out.trans (hb2.mono HB.out.size))
          clear hb2 q0 q1 HQ
          go_wp2
          go_ret2
          exact ⟨by rw [decide_eq_false (by omega)]; rfl, HB2.out⟩
        · rw [if_neg h1] at HQ
          by_cases h2 : s < sl
          · rw [if_pos h2] at HQ
            go_wp2_with fail
            refine HQ.out.mono ?_
            rintro e w2 ⟨rfl, hb2⟩
            have HB2 := Lib.hid (HB.out.trans (hb2.mono HB.out.size))
            clear hb2 q0 q1 HQ
            go_wp2
            go_ret2
            exact ⟨by rw [decide_eq_false (by omega)]; rfl, HB2.out⟩
          · rw [if_neg h2] at HQ
            go_wp2_with fail
            refine HQ.out.mono ?_
            rintro e w2 ⟨rfl, hb2⟩
            have HB2 := Lib.hid (HB.out.trans (hb2.mono HB.out.size))
            clear hb2 q0 q1 HQ
            go_wp2
            go_ret2
            exact ⟨by rw [decide_eq_true (by omega)]; rfl, HB2.out⟩
      · have b1 : ¬ (i : Int) < (N : Int) := by omega
        have hq := HHas.out (by omega)
        subst hq
        go_wp2
        go_ret2
        exact ⟨rfl, HB.out⟩
set_option maxRecDepth 100000 in
theorem efind_any {w : World} {F : Nat → Prop} {v : Value} {es : List Ene} (h : EnRow w F v es) (hs : Rise (es.map (·.1))) (hn : es.length ≤ 1000000) (s : Nat) :
    Calls Try.prog 34 #[v, .int .u64 (s : Int)] w (BsE s (es.map (·.1)) w) := by
  have HB := Lib.hid (ebsearch_any h hs hn s)
  unfold BsE at HB ⊢
  generalize findE s (es.map (·.1)) = fv at *
  generalize hasE s (es.map (·.1)) = hv at *
  clear h hs hn
  go_enter Try.func34, Try.ntmps34
  go_wp2_with fail
  refine HB.out.mono ?_
  rintro e w2 ⟨rfl, hb2⟩
  have HB2 := Lib.hid hb2
  clear hb2
  go_wp2
  go_ret2
  exact ⟨rfl, HB2.out⟩
end Go.Proofs.Ytnomddhgcdoifaa
