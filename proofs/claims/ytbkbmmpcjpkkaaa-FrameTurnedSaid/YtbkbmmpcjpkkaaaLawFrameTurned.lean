/- FrameTurned is true at every kind, every body, every number. Conditions: none. -/
import Derived.Test.YtbkbmmpcjpkkaaaLaw
import Derived.Test.YtbkbmmpcjpkkaaaPutAny
import Derived.Test.YtbkbmmpcjpkkaaaLent2
import Derived.Laws.BitsAllLaws
import Derived.StillTailTactics
namespace Go.Proofs.Ytbkbmmpcjpkkaaa
open Go.ChangeShapes Go.WideShapes Go.ChangeAt Go.RowKit

theorem turn_nat (x : UInt8) (k : Nat) (hk : k < 8) : (x ^^^ (1 <<< UInt8.ofNat k)).toNat = x.toNat ^^^ 2 ^ k := by
  have : ∀ k : Fin 8, ∀ x : Fin 256, (UInt8.ofNat x.val ^^^ (1 <<< UInt8.ofNat k.val)).toNat = (UInt8.ofNat x.val).toNat ^^^ 2 ^ k.val := by decide +kernel
  have h := this ⟨k, hk⟩ ⟨x.toNat, x.toNat_lt⟩
  simpa using h

set_option maxHeartbeats 1000000 in
set_option maxRecDepth 100000 in
theorem frameTurned_walk (kd : UInt8) (A : Option Addr) (n c : Nat) (l : List UInt8) (m : Nat) (w : World) (hc : n ≤ c) (hm : c ≤ 9223372036854775807) (h : Rd w w.heap.size A n l) (hm1 : m < 18446744073709551616) :
    Calls Try.prog 7 #[.int .u8 (kd.toNat : Int), .slice A n c, .int .u64 (m : Int)] w fun e w' => e = .returned (.bool true) ∧ Below w.heap.size w w' := by
  have cp := framePut_any kd A n c l w hc hm h
  have hl := h.1
  unfold putA at cp
  by_cases hbig : l.length ≤ 1024
  · rw [if_pos hbig] at cp
    simp only [putF_len] at cp
    have Cp := Lib.hid cp
    rw [hl] at Cp hbig
    have Hl := Lib.hid hl
    clear cp h hl
    have hp : 0 < 8 * (n + 4) := by omega
    have hN : m % (8 * (n + 4)) < 8 * (n + 4) := Nat.mod_lt _ hp
    have hmod : ((m : Int) % (8 * ((n : Int) + 4))) = ((m % (8 * (n + 4)) : Nat) : Int) := by push_cast; rfl
    go_enter Try.func7, Try.ntmps7
    go_wp2_with fail
    refine Cp.out.mono ?_
    rintro e w1 ⟨v, rfl, ho, hb⟩
    obtain ⟨g, cap, rfl, hcap, hcapm⟩ : ∃ g cap, v = .slice (some ⟨g, 0, none⟩) (10 + n) cap ∧ 10 + n ≤ cap ∧ cap ≤ 9223372036854775807 := by
      rcases ho.2 with ⟨_, h0⟩ | ⟨g, cap, cur, hv, _, _, h1, h2, _⟩
      · omega
      · exact ⟨g, cap, hv, h1, by unfold maxLen at h2; omega⟩
    have Hmod := Lib.hid hmod
    have HN := Lib.hid hN
    clear hmod hN hp
    go_wp2_with fail
    rw [Hmod.out]
    have hN := HN.out
    clear Hmod HN
    generalize m % (8 * (n + 4)) = N at *
    have hNb : N < 8224 := by omega
    clear hm1
    have hlen : (putF (kd, l)).length = 10 + n := by rw [putF_len]; simp only; rw [Hl.out]
    obtain ⟨j, k, hj, hk, rfl⟩ : ∃ j k, j < n + 4 ∧ k < 8 ∧ N = 8 * j + k := ⟨N / 8, N % 8, by omega, by omega, by omega⟩
    have hx := ho.cells (g := g) rfl (6 + j) _ (u8s_at _ (6 + j) (by omega))
    rw [Addr.add_lit, Nat.zero_add] at hx
    have hfr := ho.frozenAt (6 + j)
    obtain ⟨NN, hNN⟩ : ∃ NN : Int, ((8 * j + k : Nat) : Int) = NN := ⟨_, rfl⟩
    have hw : wrap64 NN = NN := by simp [wrap64]; omega
    have q1 : NN / 8 = (j : Int) := by omega
    have q2 : NN % 8 = (k : Int) := by omega
    have q3 : NN.tdiv 8 = (j : Int) := by rw [Int.tdiv_eq_ediv_of_nonneg (by omega)]; exact q1
    have q4 : NN.tmod 8 = (k : Int) := by rw [Int.tmod_eq_emod_of_nonneg (by omega)]; exact q2
    have w1' : IntKind.i64.wrap (j : Int) = j := by rw [IntKind.wrap_i64]; omega
    have w2' : IntKind.i64.wrap (6 + (j : Int)) = 6 + (j : Int) := by rw [IntKind.wrap_i64]; omega
    have w3' : (6 + (j : Int)).toNat = 6 + j := by omega
    have w4' : (0 : Int) ≤ 6 + (j : Int) := by omega
    have w5' : 6 + (j : Int) < 10 + (n : Int) := by omega
    have w6' : 6 + j < 10 + n := by omega
    have w7' : IntKind.i64.wrap (k : Int) = k := by rw [IntKind.wrap_i64]; omega
    have w8' : ¬ ((k : Int) < 0) := by omega
    have w9' : ¬ (6 + (j : Int) < 0) := by omega
    have w10' : ¬ (10 + n ≤ 6 + j) := by omega
    generalize hxe : (putF (kd, l))[6 + j]'(by omega) = x at *
    go_wp2_with fail
    try rw [hNN]
    try rw [hw]
    go_still_tail 14, (by kernel_rfl)
    change wpList _ _ _ _ _ w1.drew
    have hx' : w1.drew.cell? ⟨g, 6 + j, none⟩ = some (.int .u8 (x.toNat : Int)) := hx
    have hfr' : w1.drew.frozen? ⟨g, 6 + j, none⟩ = false := hfr
    have hod : w1.drew.ownsRow w.heap.size 5 1 (.slice (some ⟨g, 0, none⟩) (10 + n) cap) (10 + n) (u8s (putF (kd, l))) := ho
    have hbd : Below w.heap.size w w1.drew := hb.drew
    generalize w1.drew = w2 at *
    have hpow : 2 ^ k < 256 := Nat.lt_of_lt_of_le (Nat.pow_lt_pow_right (by decide) hk) (by decide : 2 ^ 8 ≤ 256)
    have hbits : bits .xor .u8 (x.toNat : Int) ((2 : Int) ^ k % 256) = ((x ^^^ (1 <<< UInt8.ofNat k)).toNat : Int) := by
      have e : (2 : Int) ^ k % 256 = ((2 ^ k : Nat) : Int) := by
        have : ((2 ^ k : Nat) : Int) = (2 : Int) ^ k := by push_cast; rfl
        rw [← this]
        exact Int.emod_eq_of_lt (Int.natCast_nonneg _) (by exact_mod_cast hpow)
      rw [e, u8_xor_nat _ _ x.toNat_lt hpow, turn_nat x k hk]
    obtain ⟨hst, hgr⟩ := hod.stored (6 + j) (.int .u8 ((x ^^^ (1 <<< UInt8.ofNat k)).toNat : Int))
    rw [u8s_set] at hst
    have hget := getF_turned (kd, l) j k (by show l.length ≤ 1024; rw [Hl.out]; exact hbig) (by show j < l.length + 4; rw [Hl.out]; exact hj) hk
    have hgd : (putF (kd, l)).getD (6 + j) 0 = x := by rw [← hxe]; simp [List.getD, List.getElem?_eq_getElem (show 6 + j < (putF (kd, l)).length by omega)]
    rw [hgd] at hget
    have hb3 : Below w.heap.size w (w2.setCell ⟨g, 6 + j, none⟩ (.int .u8 ((x ^^^ (1 <<< UInt8.ofNat k)).toNat : Int))) := hbd.setCell ((hod.lt g rfl).1) _
    have hgA : getA ((putF (kd, l)).set (6 + j) (x ^^^ (1 <<< UInt8.ofNat k))) 0 = (0, [], 0, 21) := getA_err (k := 0) (Nat.zero_le _) hget
    have hG := frameGet_any (some ⟨g, 0, none⟩) (10 + n) cap 0 _ _ hcap (by omega) hcapm (Rd.of_own hst)
    rw [hgA] at hG
    have HG := Lib.hid hG
    have HB3 := Lib.hid hb3
    have Hbits := Lib.hid hbits
    clear hx hfr hb hst hgr hget hgd hb3 hgA hG ho hbits hxe hw q1 q2 q3 q4 w1' w2' w3' w4' w5' w6' w7' w8' w9' w10' hod hbd hNN hlen
    go_wp2_with fail
    rw [Hbits.out]
    refine HG.out.mono ?_
    rintro e w3 ⟨v, rfl, ho3, hb3⟩
    obtain ⟨Av, cv, rfl, _⟩ := own_shape ho3
    have hbk : Bk (w3.alloc (.cells #[.int .u8 ((0 : UInt8).toNat : Int), .slice Av ([] : List UInt8).length cv] 37)) w3.heap.size 37 #[.int .u8 ((0 : UInt8).toNat : Int), .slice Av ([] : List UInt8).length cv] := Bk.new _ _ _
    have d0 := hbk.cell 0
    have d1 := hbk.cell 1
    simp only [List.getElem?_toArray, List.getElem?_cons_zero, List.getElem?_cons_succ] at d0 d1
    have HB4 := Lib.hid ((HB3.out.trans (hb3.mono HB3.out.size)).alloc (Nat.le_trans HB3.out.size hb3.size) (.cells #[.int .u8 ((0 : UInt8).toNat : Int), .slice Av ([] : List UInt8).length cv] 37))
    have KN := Lib.hid (known_any (w3.alloc (.cells #[.int .u8 ((0 : UInt8).toNat : Int), .slice Av ([] : List UInt8).length cv] 37)))
    clear hb3 ho3 HB3 hbk
    go_wp2_with fail
    refine KN.out.mono ?_
    rintro e w5 ⟨rfl, hk5⟩
    have HB5 := Lib.hid (below_then HB4.out hk5)
    clear hk5
    go_wp2
    go_ret
    exact ⟨rfl, HB5.out⟩
  · rw [if_neg hbig] at cp
    have Cp := Lib.hid cp
    rw [hl] at hbig
    clear cp h hl
    go_enter Try.func7, Try.ntmps7
    go_wp2_with fail
    refine Cp.out.mono ?_
    rintro e w1 ⟨v, rfl, ho, hb⟩
    obtain ⟨Av, cv, rfl, _⟩ := own_shape ho
    have Hb := Lib.hid hb
    have KN := Lib.hid (known_any w1)
    clear ho hb
    go_wp2_with fail
    refine KN.out.mono ?_
    rintro e w2 ⟨rfl, hk⟩
    have Hb2 := Lib.hid (below_then Hb.out hk)
    clear hk
    go_wp2
    go_ret
    exact ⟨rfl, Hb2.out⟩

namespace frameTurned
set_option maxRecDepth 100000 in
theorem lifted (os : Os) (started : os.Started) (H : Type) (enc : TypeId × Value → H) :
    ReturnsInHanded {} Try.checked os 7 .any (Rows.frameTurnedSpec.pre6 enc Try.prog Try.f7 Rows.frameTurnedRow.domain false) (Rows.frameTurnedSpec.post enc Try.prog Try.f7 false true false false) := by
  refine law_lift started (by kernel_rfl) Try.func7
    (ChangeSpec.witness6 (enc := enc) (C := Try.checked) false ⟨#[], #[.int .u8 0, .slice none 0 0, .int .u64 0], []⟩ 8 (by kernel_rfl) (by kernel_rfl) (by kernel_rfl) (by kernel_rfl))
    rfl ?_ (by kernel_rfl) (by kernel_rfl) ?_
  · intro ds h
    match ds, h with
    | [_, _, _], _ => rfl
  intro W base args ds p g
  have hA := g.trod
  have hval := g.val
  rw [Try.params7] at hA hval
  obtain ⟨v0, vs0, d0, ds0, p0, q0, hargs, rfl, rfl, h0, r0⟩ := trodAll_cons hA
  obtain ⟨v1, vs1, d1, ds1, p1, q1, rfl, rfl, rfl, h1, r1⟩ := trodAll_cons r0
  obtain ⟨v2, vs2, d2, ds2, p2, q2, rfl, rfl, rfl, h2, r2⟩ := trodAll_cons r1
  obtain ⟨rfl, rfl, rfl⟩ := trodAll_nil r2
  obtain rfl : args = #[v0, v1, v2] := by cases args; simp_all
  obtain ⟨a0, rfl, _, _, w0⟩ := open_int Try.underlying5 (hval 0 5 v0 rfl rfl) h0
  have b0 := bounds_u8 w0
  obtain ⟨m0, rfl⟩ := Int.eq_ofNat_of_zero_le b0.1
  obtain ⟨k0, rfl⟩ : ∃ k : UInt8, m0 = k.toNat := ⟨UInt8.ofNat m0, by rw [UInt8.toNat_ofNat']; omega⟩
  obtain ⟨A1, n1, c1, l1, rfl, hc1, hm1, hr1⟩ := given_bytes (hval 1 22 v1 rfl rfl) h1
  obtain ⟨a2, rfl, _, _, w2⟩ := open_int Try.underlying54 (hval 2 54 v2 rfl rfl) h2
  have b2 := bounds_u64 w2
  obtain ⟨m2, rfl⟩ := Int.eq_ofNat_of_zero_le b2.1
  exact frameTurned_walk k0 A1 n1 c1 l1 m2 W hc1 hm1 hr1 (by omega)

theorem over : Rows.frameTurnedRow.holds Try.pinned (OpenSpec.ofChange Rows.frameTurnedSpec) :=
  OpenClaim.holds_of_wide 7 Try.f7 rfl rfl rfl rfl rfl rfl rfl ⟨rfl, rfl, rfl, rfl, rfl⟩ rfl rfl rfl rfl rfl (by kernel_rfl) Try.func7 (by kernel_rfl)
    (of_decide_eq_true (by kernel_rfl)) (by unfold Func.isWrapper; first | (rw [if_pos (by decide +kernel)]; kernel_rfl) | (rw [if_neg (by decide +kernel)]; exact ⟨rfl, rfl⟩))
    (fun os started H enc _ => lifted os started H enc)
end frameTurned

theorem FrameTurned_proved : Rows.FrameTurnedSaid := frameTurned.over
#print axioms FrameTurned_proved
end Go.Proofs.Ytbkbmmpcjpkkaaa
