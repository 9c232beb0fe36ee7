/- Of the proofs of layer 4, merged: Concat, FramePut, FramePlace. -/
import Derived.Test.YtfghbhjljbdlmaaMFrameP
import Derived.Test.YtfghbhjljbdlmaaMRefFrameGet
import Derived.Lib.AppendZeros

/- slices.Grow of nothing, slices.Concat of some texts. -/
namespace Go.Proofs.Ytfghbhjljbdlmaa
open Go.RowKit

set_option maxRecDepth 100000 in
set_option maxHeartbeats 400000 in
theorem grow_any (N : Nat) (w : World) (hN : N ≤ 140737488355328) :
    Calls Try.prog 102 #[.slice none 0 0, .int .i64 (N : Int)] w fun e w' => ∃ v, e = .returned v ∧ w'.ownsRow w.heap.size 5 1 v 0 [] ∧ Below w.heap.size w w' := by
  obtain ⟨i0, hi0, hz0, hz1, hz2⟩ := info_parts Try.infoU8
  rcases Nat.eq_zero_or_pos N with hN0 | hN0
  · subst hN0
    go_enter Try.func102, Try.ntmps102
    go_wp2
    go_ret
    exact ⟨_, rfl, World.ownsRow_nil _ _ _ _, Below.refl _ _⟩
  · have hr := Lib.run_append_nil_zeros (P := Try.prog) w 32 3 32 5 i0 (.int .u8 0) .i64 .i64 Try.underlying32 Try.underlying3 hi0 hz0 N hN0 (by omega) (by omega) (by rw [hz2]; omega)
    have hcap := grownCap_ge w N 0 5
    have hle := grownCap_le_maxLen w N 0 5 (by unfold maxLen; omega)
    have hsz : (Builtin.zeroCells (Value.int .u8 0).cells N ++ Builtin.zeroCells (Value.int .u8 0).cells (grownCap w N 0 5 - N)).size = grownCap w N 0 5 * 1 := by
      rw [Array.size_append, size_zeroCells, size_zeroCells]
      show N * 1 + (grownCap w N 0 5 - N) * 1 = _
      omega
    generalize Builtin.zeroCells (Value.int .u8 0).cells N ++ Builtin.zeroCells (Value.int .u8 0).cells (grownCap w N 0 5 - N) = cs at *
    generalize grownCap w N 0 5 = cap at *
    go_enter Try.func102, Try.ntmps102
    go_wp2_with (at_builtin; refine Lib.wpList_append_run _ rfl _ _ 32 3 rfl _ _ rfl rfl _ _ hr ?_)
    go_wp2
    go_ret
    refine ⟨_, rfl, ⟨rfl, .inr ⟨w.heap.size, cap, cs, rfl, Nat.le_refl _, heap_alloc_new w.drew _, Nat.zero_le _, hle, hsz, rfl⟩⟩, ?_⟩
    exact ((Below.refl _ _).drew).alloc (Nat.le_refl _) _

theorem flatten_take_succ (ls : List (List UInt8)) (j : Nat) (h : j < ls.length) : (ls.take (j + 1)).flatten = (ls.take j).flatten ++ ls[j] := by
  rw [List.take_succ_eq_append_getElem h, List.flatten_append]
  simp
theorem flatten_take_le (ls : List (List UInt8)) (j : Nat) : (ls.take j).flatten.length ≤ ls.flatten.length := by
  have : ls.flatten = (ls.take j).flatten ++ (ls.drop j).flatten := by rw [← List.flatten_append, List.take_append_drop]
  rw [this, List.length_append]
  omega

set_option maxRecDepth 100000 in
set_option maxHeartbeats 400000 in
theorem concat_any (A : Option Addr) (n c : Nat) (ls : List (List UInt8)) (w : World) (hn : n ≤ 140737488355328) (hL : ls.flatten.length ≤ 140737488355328) (h : Parts w w.heap.size A n ls) :
    Calls Try.prog 78 #[.slice A n c] w fun e w' => ∃ v, e = .returned v ∧ w'.ownsRow w.heap.size 5 1 v ls.flatten.length (u8s ls.flatten) ∧ Below w.heap.size w w' := by
  obtain ⟨i0, hi0, hz0, hz1, hz2⟩ := info_parts Try.infoU8
  have Hl := Lib.hid h.1
  have Hp := Lib.hid h.2
  have HP := Lib.hid h
  obtain ⟨L, hLe⟩ : ∃ L, ls.flatten.length = L := ⟨_, rfl⟩
  have hL' : L ≤ 140737488355328 := by omega
  have Hg := Lib.hid (grow_any L w hL')
  clear h
  go_enter Try.func78, Try.ntmps78
  go_wp2
  go_loopg [3, 11] n (fun g r i wr => ∃ (k : Nat), i = .int .i64 k ∧ k + g = n ∧ r = .int .i64 ((ls.take k).flatten.length : Nat) ∧ w = wr)
  case atStart => exact ⟨0, rfl, by omega, rfl, rfl⟩
  case round =>
    obtain ⟨k, rfl, hk, rfl, rfl⟩ := hrel
    by_cases hkn : k < n
    · obtain ⟨b, o, A', n', c', rfl, _, hcell, hn', hc', hrd⟩ := Hp.out k (by rw [Hl.out]; exact hkn)
      have Hnext := Lib.hid (flatten_take_succ ls k (by rw [Hl.out]; exact hkn))
      have hle := flatten_take_le ls (k + 1)
      have hlen := congrArg List.length Hnext.out
      rw [List.length_append, hrd.1] at hlen
      clear hrd
      generalize hge : (ls.take k).flatten.length = m at *
      go_wp2
      go_roundg (gk - 1)
      case measure => omega
      case rel => exact ⟨k + 1, by go_num, by omega, by rw [hlen]; go_num, rfl⟩
    · have hk2 : k = n := by omega
      subst hk2
      have hf : ls.take k = ls := List.take_of_length_le (by rw [Hl.out]; omega)
      rw [hf]
      have HLe : Hid (ls.flatten.length = L) := Lib.hid hLe
      rw [hLe]
      clear hf
      go_wp2_with fail
      refine (Hg.out).mono ?_
      rintro e w1 ⟨v, rfl, hown, hb⟩
      have Ho := Lib.hid hown
      have Hb := Lib.hid hb
      clear hown hb Hg
      go_wp2
      go_loopg [6, 27] k (fun g v i wr => ∃ (j : Nat), i = .int .i64 j ∧ j + g = k ∧ Hid (wr.ownsRow w.heap.size 5 1 v (ls.take j).flatten.length (u8s (ls.take j).flatten)) ∧ Hid (Below w.heap.size w wr))
      case atStart => exact ⟨0, rfl, by omega, Ho, Hb⟩
      case round =>
        obtain ⟨j, rfl, hj, Hj, Bj⟩ := hrel
        by_cases hjk : j < k
        · obtain ⟨b, o, A', n', c', rfl, _, hcell, hn', hc', hrd⟩ := (HP.out.below Bj.out).2 j (by rw [Hl.out]; exact hjk)
          have Hnext := Lib.hid (flatten_take_succ ls j (by rw [Hl.out]; exact hjk))
          have hle := flatten_take_le ls (j + 1)
          generalize hxe : ls[j]'(by rw [Hl.out]; exact hjk) = lj at Hnext hrd
          have hlen := congrArg List.length Hnext.out
          rw [List.length_append, hrd.1] at hlen
          have Hlen := Lib.hid hlen
          have hsz := Bj.out.size
          have hA' := hrd.none_zero
          have Hr := Lib.hid hrd
          have hm1 : (ls.take j).flatten.length + n' ≤ 140737488355328 := by omega
          clear hrd hle
          obtain ⟨Aj, cj, rfl, _⟩ := own_shape Hj.out
          generalize hge : (ls.take j).flatten.length = m at *
          go_wp2_with (at_builtin; (refine wpList_append_app _ rfl _ _ 32 rfl w.heap.size 5 i0 (.int .u8 0) 1 1 Try.underlying32 hi0 hz0 hz1 hz2 rfl _ _ _ rfl Hj.out A' n' c' (u8s lj) rfl (by rw [u8s_len, Hr.out.1, Nat.mul_one]) hA' Hr.out.cells (u8s_one _) (by unfold maxLen; omega) (by omega) hsz ?_))
          intro v' w2 ha
          have Ho2 : Hid (w2.ownsRow w.heap.size 5 1 v' (ls.take (j + 1)).flatten.length (u8s (ls.take (j + 1)).flatten)) := Lib.hid (by
            have := ha.own
            rw [← u8s_append, ← Hnext.out, ← hlen] at this
            exact this)
          have Hb2 := Lib.hid (ha.below Bj.out hsz (own_block_ge Hj.out))
          clear ha
          go_wp2
          go_roundg (gk - 1)
          case measure => omega
          case rel => exact ⟨j + 1, by go_num, by omega, Ho2, Hb2⟩
        · have hj2 : j = k := by omega
          subst hj2
          have hf : ls.take j = ls := List.take_of_length_le (by rw [Hl.out]; omega)
          rw [hf] at Hj
          go_wp2
          go_ret
          exact ⟨_, rfl, Hj.out, Bj.out⟩
end Go.Proofs.Ytfghbhjljbdlmaa

/- frame.Put answers the plain frame. -/
namespace Go.Proofs.Ytfghbhjljbdlmaa
open Go.RowKit

/-- Parts that are written out. -/
theorem Parts.lit {w : World} {t k g : Nat} (vs : List (Option Addr × Nat × Nat)) (ls : List (List UInt8)) (hv : vs.length = k) (hl : ls.length = k) (hg : g = w.heap.size) {cs : Array Value} (hcs : cs = (vs.map fun v => Value.slice v.1 v.2.1 v.2.2).toArray)
    (h : ∀ i (h1 : i < vs.length) (h2 : i < ls.length), vs[i].2.1 ≤ vs[i].2.2 ∧ vs[i].2.2 ≤ 9223372036854775807 ∧ Rd w w.heap.size vs[i].1 vs[i].2.1 ls[i]) :
    Parts (w.alloc (.cells cs t)) (g + 1) (some ⟨g, 0, none⟩) k ls := by
  subst hg hcs
  refine ⟨hl, fun i hi => ?_⟩
  obtain ⟨h1, h2, h3⟩ := h i (by omega) hi
  refine ⟨w.heap.size, 0, vs[i].1, vs[i].2.1, vs[i].2.2, rfl, by omega, ?_, h1, h2, (h3.alloc (Nat.le_refl _) _).more (by omega)⟩
  have hb : Bk (w.alloc (.cells (vs.map fun v => Value.slice v.1 v.2.1 v.2.2).toArray t)) w.heap.size t (vs.map fun v => Value.slice v.1 v.2.1 v.2.2).toArray := Bk.new _ _ _
  rw [hb.cell, Nat.zero_add]
  simp [List.getElem?_map, List.getElem?_eq_getElem (show i < vs.length by omega)]

set_option maxRecDepth 100000 in
set_option maxHeartbeats 400000 in
theorem framePut_long (kind : Int) (A : Option Addr) (n c : Nat) (w : World) (hn : 1024 < n) (_hm : n ≤ 9223372036854775807) :
    Calls Try.prog 77 #[.int .u8 kind, .slice A n c] w fun e w' => e = .returned (.tuple #[.slice none 0 0, .int .i64 3]) ∧ w = w' := by
  go_enter Try.func77, Try.ntmps77
  go_wp2
  go_ret2
  exact ⟨rfl, rfl⟩

set_option maxHeartbeats 1000000 in
set_option maxRecDepth 100000 in
theorem framePut_ok (kind : UInt8) (A : Option Addr) (n c : Nat) (l : List UInt8) (w : World) (hn : n ≤ 1024) (hc : n ≤ c) (hm : c ≤ 9223372036854775807) (h : Rd w w.heap.size A n l) :
    Calls Try.prog 77 #[.int .u8 (kind.toNat : Int), .slice A n c] w fun e w' => ∃ v, e = .returned (.tuple #[v, .int .i64 0]) ∧ w'.ownsRow w.heap.size 5 1 v (10 + n) (u8s (putF (kind, l))) ∧ Below w.heap.size w w' := by
  have Cn : Hid (∀ w, Calls Try.prog 100 #[.int .u32 n] w fun e w' => ∃ v, e = .returned v ∧ w'.ownsRow w.heap.size 5 1 v 4 (u8s (fixed4 n)) ∧ Below w.heap.size w w') := fun w => binPutFixed_any n w (by omega)
  have Cs : Hid (∀ w, Calls Try.prog 100 #[.int .u32 (crcSum (headF (kind, l)))] w fun e w' => ∃ v, e = .returned v ∧ w'.ownsRow w.heap.size 5 1 v 4 (u8s (fixed4 (crcSum (headF (kind, l))))) ∧ Below w.heap.size w w') := fun w => binPutFixed_any _ w (crcSum_lt _)
  have Hl := Lib.hid h.1
  have H := Lib.hid h
  clear h
  go_enter Try.func77, Try.ntmps77
  go_wp2_with fail
  refine (Cn.out _).mono ?_
  rintro e w1 ⟨v1, rfl, ho1, hb1⟩
  have B1 : Hid (Below w.heap.size w w1) := ((Below.refl w.heap.size w).alloc (Nat.le_refl _) _).trans (hb1.mono (by simp))
  have R0 : Hid (Rd w1 w1.heap.size (some ⟨w.heap.size, 0, none⟩) 2 [167, kind]) := Lib.hid (Rd.of_own (own_below (own_lit w 5 [.int .u8 167, .int .u8 (kind.toNat : Int)] 2 rfl (by simp [maxLen])) hb1 (fun k hk => by injection hk with hk; subst hk; simp)))
  obtain ⟨A1, c1, rfl, k1⟩ := own_shape ho1
  have R1 := Lib.hid (Rd.of_own ho1)
  have R2 : Hid (Rd w1 w1.heap.size A n l) := Lib.hid ((H.out.below B1.out).more B1.out.size)
  have hk1 : 4 ≤ c1 ∧ c1 ≤ 9223372036854775807 := by unfold maxLen at k1; omega
  have P1 : Hid (Parts (w1.alloc (.cells #[.slice (some ⟨w.heap.size, 0, none⟩) 2 2, .slice A1 4 c1, .slice A n c] 32)) (w1.heap.size + 1) (some ⟨w1.heap.size, 0, none⟩) 3 [[167, kind], fixed4 n, l]) := Lib.hid (by
    refine Parts.lit [(some ⟨w.heap.size, 0, none⟩, 2, 2), (A1, 4, c1), (A, n, c)] _ rfl rfl rfl rfl ?_
    intro i h1 h2
    match i, h1, h2 with
    | 0, _, _ => exact ⟨Nat.le_refl 2, show 2 ≤ 9223372036854775807 by decide, R0.out⟩
    | 1, _, _ => exact ⟨hk1.1, hk1.2, R1.out⟩
    | 2, _, _ => exact ⟨hc, hm, R2.out⟩)
  have Su := Lib.hid (sum_any (some ⟨w1.heap.size, 0, none⟩) 3 3 (w1.heap.size + 1) _ _ (by decide) P1.out)
  have B1' := Lib.hid (B1.out.alloc B1.out.size (.cells #[.slice (some ⟨w.heap.size, 0, none⟩) 2 2, .slice A1 4 c1, .slice A n c] 32))
  clear ho1 hb1 k1 Cn P1
  have e1 : [[167, kind], fixed4 n, l].flatten = headF (kind, l) := by
    rw [← Hl.out]
    simp [headF]
  rw [e1] at Su
  go_wp2_with fail
  refine Su.out.mono ?_
  rintro e w' ⟨rfl, rfl⟩
  go_wp2_with fail
  refine (Cs.out _).mono ?_
  rintro e w2 ⟨v2, rfl, ho2, hb2⟩
  have B2 := Lib.hid (B1'.out.trans (hb2.mono B1'.out.size))
  have hz1 : w1.heap.size ≤ w2.heap.size := by have := hb2.size; simp at this; omega
  have R0' : Hid (Rd w2 w2.heap.size (some ⟨w.heap.size, 0, none⟩) 2 [167, kind]) := Lib.hid (((R0.out.alloc (Nat.le_refl _) _).below (hb2.mono (by simp))).more hz1)
  have R1' : Hid (Rd w2 w2.heap.size A1 4 (fixed4 n)) := Lib.hid (((R1.out.alloc (Nat.le_refl _) _).below (hb2.mono (by simp))).more hz1)
  have R2' : Hid (Rd w2 w2.heap.size A n l) := Lib.hid (((R2.out.alloc (Nat.le_refl _) _).below (hb2.mono (by simp))).more hz1)
  obtain ⟨A2, c2, rfl, k2⟩ := own_shape ho2
  have R3 := Lib.hid (Rd.of_own ho2)
  have hk2 : 4 ≤ c2 ∧ c2 ≤ 9223372036854775807 := by unfold maxLen at k2; omega
  have P2 : Hid (Parts (w2.alloc (.cells #[.slice (some ⟨w.heap.size, 0, none⟩) 2 2, .slice A1 4 c1, .slice A n c, .slice A2 4 c2] 32)) (w2.heap.size + 1) (some ⟨w2.heap.size, 0, none⟩) 4 [[167, kind], fixed4 n, l, fixed4 (crcSum (headF (kind, l)))]) := Lib.hid (by
    refine Parts.lit [(some ⟨w.heap.size, 0, none⟩, 2, 2), (A1, 4, c1), (A, n, c), (A2, 4, c2)] _ rfl rfl rfl rfl ?_
    intro i h1 h2
    match i, h1, h2 with
    | 0, _, _ => exact ⟨Nat.le_refl 2, show 2 ≤ 9223372036854775807 by decide, R0'.out⟩
    | 1, _, _ => exact ⟨hk1.1, hk1.2, R1'.out⟩
    | 2, _, _ => exact ⟨hc, hm, R2'.out⟩
    | 3, _, _ => exact ⟨hk2.1, hk2.2, R3.out⟩)
  have e2 : [[167, kind], fixed4 n, l, fixed4 (crcSum (headF (kind, l)))].flatten = putF (kind, l) := by
    rw [← Hl.out]
    simp [putF, headF]
  have elen : (putF (kind, l)).length = 10 + n := by rw [putF_len]; simp only; rw [Hl.out]
  have Cc := concat_any (some ⟨w2.heap.size, 0, none⟩) 4 4 _ (w2.alloc (.cells #[.slice (some ⟨w.heap.size, 0, none⟩) 2 2, .slice A1 4 c1, .slice A n c, .slice A2 4 c2] 32)) (by decide) (by rw [e2, elen]; omega) (by
    have e : (w2.alloc (.cells #[.slice (some ⟨w.heap.size, 0, none⟩) 2 2, .slice A1 4 c1, .slice A n c, .slice A2 4 c2] 32)).heap.size = w2.heap.size + 1 := by simp
    rw [e]
    exact P2.out)
  rw [e2, elen] at Cc
  have CC := Lib.hid Cc
  have B2' := Lib.hid (B2.out.alloc B2.out.size (.cells #[.slice (some ⟨w.heap.size, 0, none⟩) 2 2, .slice A1 4 c1, .slice A n c, .slice A2 4 c2] 32))
  clear ho2 hb2 k2 P2 Cc e2 elen e1 Su R0 R1 R2 R0' R1' R2' R3
  go_wp2_with fail
  refine CC.out.mono ?_
  rintro e w3 ⟨v3, rfl, ho3, hb3⟩
  have Ho := Lib.hid (own_mono ho3 B2'.out.size)
  have Hb := Lib.hid (B2'.out.trans (hb3.mono B2'.out.size))
  clear ho3 hb3 CC
  go_wp2
  go_ret2
  exact ⟨_, rfl, Ho.out, Hb.out⟩
end Go.Proofs.Ytfghbhjljbdlmaa

/- frame.bodyPlace: from where to where the body of the frame at a place lies. -/
namespace Go.Proofs.Ytfghbhjljbdlmaa
open Go.RowKit

/-- From where to where a frame's body lies, or the error. -/
def plF (l : List UInt8) (a : Int) : Int × Int × Int :=
  if a < 0 ∨ (l.length : Int) < a then (0, 0, 2)
  else if (l.drop a.toNat).length = 0 then (0, 0, 10)
  else if (l.drop a.toNat).getD 0 0 ≠ 167 then (0, 0, 20)
  else if (l.drop a.toNat).length < 6 then (0, 0, 10)
  else if 1024 < be (((l.drop a.toNat).drop 2).take 4) then (0, 0, 3)
  else if (l.drop a.toNat).length < 6 + be (((l.drop a.toNat).drop 2).take 4) then (0, 0, 10)
  else (a + 6, a + 6 + (be (((l.drop a.toNat).drop 2).take 4) : Nat), 0)

set_option maxHeartbeats 1000000 in
set_option maxRecDepth 100000 in
theorem place_any (A : Option Addr) (n c B : Nat) (at_ : Int) (l : List UInt8) (w : World) (hc : n ≤ c) (hn : n ≤ 140737488355328) (hm : c ≤ 9223372036854775807) (h : Rd w B A n l) :
    Calls Try.prog 106 #[.slice A n c, .int .i64 at_] w fun e w' => e = .returned (.tuple #[.int .i64 (plF l at_).1, .int .i64 (plF l at_).2.1, .int .i64 (plF l at_).2.2]) ∧ w = w' := by
  have hl := h.1
  unfold plF
  rw [hl]
  by_cases h1 : at_ < 0 ∨ (n : Int) < at_
  · rw [if_pos h1]
    clear h hl
    by_cases h2 : at_ < 0
    all_goals
      go_enter Try.func106, Try.ntmps106
      go_wp2
      go_ret3
      exact ⟨rfl, rfl⟩
  · rw [if_neg h1]
    obtain ⟨a, rfl⟩ := Int.eq_ofNat_of_zero_le (show 0 ≤ at_ by omega)
    rw [Int.toNat_natCast]
    have ha : a ≤ n := by omega
    clear h1
    have hdl : (l.drop a).length = n - a := by rw [List.length_drop, hl]
    rw [hdl]
    by_cases h2 : n - a = 0
    · rw [if_pos h2]
      have : a = n := by omega
      subst this
      clear h hl hdl
      go_enter Try.func106, Try.ntmps106
      go_wp2
      go_ret3
      exact ⟨rfl, rfl⟩
    · rw [if_neg h2]
      obtain ⟨b, o, rfl, _, hcell⟩ := h.2 (by omega)
      have hx := hcell a (by omega)
      have hx0 : (l.drop a).getD 0 0 = l[a]'(by omega) := by simp [List.getD, List.getElem?_eq_getElem (show a < l.length by omega)]
      rw [hx0]
      have HL := Lib.hid hl
      generalize hxe : l[a]'(by omega) = x at *
      by_cases h3 : x ≠ 167
      · rw [if_pos h3]
        have hx3 : ((x.toNat : Int) != 167) = true := by
          simp
          intro e
          exact h3 (UInt8.toNat_inj.1 (by show x.toNat = 167; omega))
        clear hxe hcell h hdl
        go_enter Try.func106, Try.ntmps106
        go_wp2
        go_ret3
        exact ⟨rfl, rfl⟩
      · rw [if_neg h3]
        have hx3 : x = 167 := by simpa using h3
        subst hx3
        clear h3
        have F0 := binFixed_any (some ⟨b, o, none⟩) n c B ((a : Int) + 2) l w hc hm h
        unfold fixAt at F0
        rw [hl] at F0
        by_cases h4 : n - a < 6
        · rw [if_pos h4]
          by_cases h5 : n - a < 2
          · clear hxe hcell h hdl F0
            go_enter Try.func106, Try.ntmps106
            go_wp2
            go_ret3
            exact ⟨rfl, rfl⟩
          · rw [if_neg (by omega), if_pos (by omega)] at F0
            have HF := Lib.hid F0
            clear hxe hcell h hdl F0
            go_enter Try.func106, Try.ntmps106
            go_wp2_with fail
            refine HF.out.mono ?_
            rintro e w' ⟨rfl, rfl⟩
            go_wp2
            go_ret3
            exact ⟨rfl, rfl⟩
        · rw [if_neg h4]
          rw [if_neg (by omega), if_neg (by omega), show ((a : Int) + 2).toNat = a + 2 by omega, show (a : Int) + 2 + 4 = (a : Int) + 6 by omega] at F0
          rw [List.drop_drop]
          have hN := be_lt ((l.drop (a + 2)).take 4)
          have hN4 : ((l.drop (a + 2)).take 4).length = 4 := by rw [List.length_take, List.length_drop, hl]; omega
          rw [hN4] at hN
          generalize hNe : be ((l.drop (a + 2)).take 4) = N at *
          have HF := Lib.hid F0
          clear hxe hcell h hdl F0 hN4 hNe
          by_cases h5 : 1024 < N
          · rw [if_pos h5]
            go_enter Try.func106, Try.ntmps106
            go_wp2_with fail
            refine HF.out.mono ?_
            rintro e w' ⟨rfl, rfl⟩
            go_wp2
            go_ret3
            exact ⟨rfl, rfl⟩
          · rw [if_neg h5]
            by_cases h6 : n - a < 6 + N
            · rw [if_pos h6]
              go_enter Try.func106, Try.ntmps106
              go_wp2_with fail
              refine HF.out.mono ?_
              rintro e w' ⟨rfl, rfl⟩
              go_wp2
              go_ret3
              exact ⟨rfl, rfl⟩
            · rw [if_neg h6]
              go_enter Try.func106, Try.ntmps106
              go_wp2_with fail
              refine HF.out.mono ?_
              rintro e w' ⟨rfl, rfl⟩
              go_wp2
              go_ret3
              exact ⟨rfl, rfl⟩
end Go.Proofs.Ytfghbhjljbdlmaa
