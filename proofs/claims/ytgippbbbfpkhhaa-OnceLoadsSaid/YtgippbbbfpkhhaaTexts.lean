/- bytes.Clone, PutBytes and Bytes, the program's and the document's. -/
import Derived.Test.YtgippbbbfpkhhaaBinPut
import Derived.Test.YtgippbbbfpkhhaaInts
import Derived.Test.YtgippbbbfpkhhaaLent
import Derived.WalkSpells
namespace Go.Proofs.Ytgippbbbfpkhhaa
open Go.RowKit

theorem Rd.none_zero {w : World} {B n : Nat} {A : Option Addr} {l : List UInt8} (h : Rd w B A n l) : A = none → n = 0 := by
  intro e
  rcases Nat.eq_zero_or_pos n with h0 | h0
  · exact h0
  · obtain ⟨b, o, e', _⟩ := h.2 h0; rw [e] at e'; cases e'

set_option maxHeartbeats 1000000 in
set_option maxRecDepth 100000 in
theorem clone_any (A : Option Addr) (n c B : Nat) (l : List UInt8) (w : World) (hn : n ≤ 140737488355328) (hB : B ≤ w.heap.size) (h : Rd w B A n l) :
    Calls Try.prog 35 #[.slice A n c] w fun e w' => ∃ v, e = .returned v ∧ w'.ownsRow w.heap.size 5 1 v n (u8s l) ∧ Below w.heap.size w w' := by
  obtain ⟨i0, hi0, hz0, hz1, hz2⟩ := info_parts Try.infoU8
  have q := fun (w : World) (a : Option Addr) (n c n' c' : Nat) => Lib.run_eql_slice_nil (P := Try.prog) w 33 5 a n c n' c' Try.underlying33
  have hA := h.none_zero
  cases A with
  | none =>
    have hn0 := hA rfl
    subst hn0
    have hl : l = [] := List.eq_nil_of_length_eq_zero h.1
    subst hl
    clear h hA
    go_enter Try.func35, Try.ntmps35
    go_wp2
    go_ret
    exact ⟨_, rfl, World.ownsRow_nil _ _ _ _, Below.refl _ _⟩
  | some a =>
    have hb0 := (Below.refl w.heap.size w).alloc (Nat.le_refl _) (.cells #[] 5)
    have h' := h.below (hb0.mono hB)
    go_enter Try.func35, Try.ntmps35
    go_wp2_with (at_builtin; refine wpList_append_app _ rfl _ _ 33 rfl w.heap.size 5 i0 (.int .u8 0) 1 1 Try.underlying33 hi0 hz0 hz1 hz2 rfl _ 0 [] rfl (World.ownsRow_made w #[] 0 (Nat.le_refl _) (Nat.zero_le _) rfl) (some a) n c (u8s l) rfl (by rw [u8s_len, h.1, Nat.mul_one]) (by intro e; cases e) h'.cells (u8s_one l) (by unfold maxLen; omega) (by omega) (by simp) ?_)
    intro v' w1 ha
    have hb1 := ha.below hb0 (by simp) (by intro k hk; simp [Value.ownBlock] at hk; omega)
    have ho := ha.own
    rw [Nat.zero_add, List.nil_append] at ho
    go_wp2
    go_ret
    exact ⟨v', rfl, ho, hb1⟩

/-- What PutBytes makes of bytes. -/
def putB (l : List UInt8) : List UInt8 := Lib.uvarint l.length ++ l

set_option maxHeartbeats 1000000 in
set_option maxRecDepth 100000 in
theorem binPutBytes_any (A : Option Addr) (n c : Nat) (l : List UInt8) (w : World) (hn : n ≤ 140737488355000) (h : Rd w w.heap.size A n l) :
    Calls Try.prog 60 #[.slice A n c] w fun e w' => ∃ v, e = .returned v ∧ w'.ownsRow w.heap.size 5 1 v (putB l).length (u8s (putB l)) ∧ Below w.heap.size w w' := by
  obtain ⟨i0, hi0, hz0, hz1, hz2⟩ := info_parts Try.infoU8
  have hl := h.1
  have hlen := Lib.uvarint_length64 (show n < 18446744073709551616 by omega)
  have hA := h.none_zero
  have Hc := Lib.hid (binPut_any n w (by omega))
  have Hl := Lib.hid hl
  clear hl
  go_enter Try.func60, Try.ntmps60
  go_wp2_with fail
  refine Hc.out.mono ?_
  rintro e w1 ⟨v, rfl, hown, hb⟩
  have hsz := hb.size
  clear Hc
  go_wp2_with (at_builtin; refine wpList_append_app _ rfl _ _ 33 rfl w.heap.size 5 i0 (.int .u8 0) 1 1 Try.underlying33 hi0 hz0 hz1 hz2 rfl _ _ _ rfl hown A n c (u8s l) rfl (by rw [u8s_len, Hl.out, Nat.mul_one]) hA (h.below hb).cells (u8s_one l) (by unfold maxLen; omega) (by omega) hsz ?_)
  intro v' w2 ha
  have hb2 := ha.below hb hsz (own_block_ge hown)
  go_wp2
  go_ret
  refine ⟨v', rfl, ?_, hb2⟩
  have ho := ha.own
  unfold putB
  rw [List.length_append, u8s_append, Hl.out]
  exact ho

set_option maxHeartbeats 1000000 in
set_option maxRecDepth 100000 in
theorem refPutBytes_any (A : Option Addr) (n c : Nat) (l : List UInt8) (w : World) (hn : n ≤ 140737488355000) (h : Rd w w.heap.size A n l) :
    Calls Try.prog 42 #[.slice A n c] w fun e w' => ∃ v, e = .returned v ∧ w'.ownsRow w.heap.size 5 1 v (putB l).length (u8s (putB l)) ∧ Below w.heap.size w w' := by
  obtain ⟨i0, hi0, hz0, hz1, hz2⟩ := info_parts Try.infoU8
  have hl := h.1
  have hlen := Lib.uvarint_length64 (show n < 18446744073709551616 by omega)
  have hA := h.none_zero
  have Hc := Lib.hid (refPut_any n w (by omega))
  have Hl := Lib.hid hl
  clear hl
  go_enter Try.func42, Try.ntmps42
  go_wp2_with fail
  refine Hc.out.mono ?_
  rintro e w1 ⟨v, rfl, hown, hb⟩
  have hsz := hb.size
  clear Hc
  go_wp2_with (at_builtin; refine wpList_append_app _ rfl _ _ 33 rfl w.heap.size 5 i0 (.int .u8 0) 1 1 Try.underlying33 hi0 hz0 hz1 hz2 rfl _ _ _ rfl hown A n c (u8s l) rfl (by rw [u8s_len, Hl.out, Nat.mul_one]) hA (h.below hb).cells (u8s_one l) (by unfold maxLen; omega) (by omega) hsz ?_)
  intro v' w2 ha
  have hb2 := ha.below hb hsz (own_block_ge hown)
  go_wp2
  go_ret
  refine ⟨v', rfl, ?_, hb2⟩
  have ho := ha.own
  unfold putB
  rw [List.length_append, u8s_append, Hl.out]
  exact ho

/-- The text that stands at a place: its bytes, the place behind it, the error. -/
def txtAt (l : List UInt8) (a most : Int) : List UInt8 × Int × Int :=
  if (uintAt l a).2.2 ≠ 0 then ([], 0, (uintAt l a).2.2)
  else if max most 0 < (uintAt l a).1 then ([], 0, 3)
  else if (l.length : Int) - (uintAt l a).2.1 < (uintAt l a).1 then ([], 0, 10)
  else ((l.drop (uintAt l a).2.1.toNat).take (uintAt l a).1.toNat, (uintAt l a).2.1 + (uintAt l a).1, 0)

/-- A part of a slice reads as the part of its bytes. -/
theorem Rd.part {w : World} {B n i k : Nat} {b o : Nat} {l : List UInt8} (h : Rd w B (some ⟨b, o, none⟩) n l) (hik : i + k ≤ n) : Rd w B (some ⟨b, o + i, none⟩) k ((l.drop i).take k) := by
  refine ⟨by rw [List.length_take, List.length_drop, h.1]; omega, fun hk => ?_⟩
  obtain ⟨b', o', he, hb, hc⟩ := h.2 (by omega)
  simp only [Option.some.injEq, Addr.mk.injEq, and_true] at he
  obtain ⟨rfl, rfl⟩ := he
  refine ⟨b, o + i, rfl, hb, fun j hj => ?_⟩
  have hj' : j < k := by rw [List.length_take] at hj; omega
  rw [Nat.add_assoc, hc (i + j) (by have := h.1; omega)]
  simp [List.getElem_take, List.getElem_drop]

set_option maxHeartbeats 4000000 in
set_option maxRecDepth 100000 in
theorem binBytes_any (A : Option Addr) (n c : Nat) (at_ most : Int) (l : List UInt8) (w : World) (hc : n ≤ c) (hn : n ≤ 140737488355328) (hm : c ≤ 9223372036854775807) (hm1 : -9223372036854775808 ≤ most) (hm2 : most ≤ 9223372036854775807) (h : Rd w w.heap.size A n l) :
    Calls Try.prog 71 #[.slice A n c, .int .i64 at_, .int .i64 most] w fun e w' =>
      ∃ v, e = .returned (.tuple #[v, .int .i64 (txtAt l at_ most).2.1, .int .i64 (txtAt l at_ most).2.2]) ∧ w'.ownsRow w.heap.size 5 1 v (txtAt l at_ most).1.length (u8s (txtAt l at_ most).1) ∧ Below w.heap.size w w' := by
  have c1 := binUint_any A n c w.heap.size at_ l w hc (by omega) h
  obtain ⟨v, to, e, hu, hv, hto, he⟩ := uintAt_form l at_ (by rw [h.1]; omega)
  unfold txtAt
  rw [hu] at c1 ⊢
  have Hc := Lib.hid c1
  have hl := h.1
  clear c1 hu
  by_cases he0 : e = 0
  · subst he0
    have hat : 0 ≤ at_ ∧ at_ < to := by omega
    rw [if_neg (by simp)]
    by_cases h1 : max most 0 < (v : Int)
    · rw [if_pos h1]
      clear he hat hto h hl
      go_enter Try.func71, Try.ntmps71
      go_wp2_with fail
      refine Hc.out.mono ?_
      rintro e' w' ⟨rfl, rfl⟩
      clear Hc
      go_wp2
      go_ret3
      exact ⟨_, rfl, World.ownsRow_nil _ _ _ _, Below.refl _ _⟩
    · rw [if_neg h1]
      by_cases h2 : (l.length : Int) - (to : Int) < (v : Int)
      · rw [if_pos h2]
        rw [hl] at h2
        have hto' : to ≤ n := by omega
        clear he hat hto h hl
        go_enter Try.func71, Try.ntmps71
        go_wp2_with fail
        refine Hc.out.mono ?_
        rintro e' w' ⟨rfl, rfl⟩
        clear Hc
        go_wp2
        go_ret3
        exact ⟨_, rfl, World.ownsRow_nil _ _ _ _, Below.refl _ _⟩
      · rw [if_neg h2]
        rw [hl] at h2
        have hto' : to + v ≤ n := by omega
        obtain ⟨b, o, rfl, _, _⟩ := h.2 (by omega)
        have hp := h.part (i := to) (k := v) hto'
        have hpl := hp.1
        by_cases hct : c = to
        · -- an empty text at the very end of the slice's room: Go keeps the address
          subst hct
          have hv0 : v = 0 := by omega
          subst hv0
          have Hcl := Lib.hid (clone_any (some ⟨b, o, none⟩) 0 0 w.heap.size [] w (by omega) (Nat.le_refl _) (Rd.nil _ _ _))
          clear he hat hto h hl hp hpl
          go_enter Try.func71, Try.ntmps71
          go_wp2_with fail
          refine Hc.out.mono ?_
          rintro e' w' ⟨rfl, rfl⟩
          clear Hc
          go_wp2_with fail
          refine Hcl.out.mono ?_
          rintro e' w1 ⟨v1, rfl, hown, hb⟩
          go_wp2
          go_ret3
          refine ⟨v1, by simp, by simpa using hown, hb⟩
        · have Hcl := Lib.hid (clone_any (some ⟨b, o + to, none⟩) v (c - to) w.heap.size _ w (by omega) (Nat.le_refl _) hp)
          clear he hat hto h hl
          go_enter Try.func71, Try.ntmps71
          go_wp2_with fail
          refine Hc.out.mono ?_
          rintro e' w' ⟨rfl, rfl⟩
          clear Hc
          go_wp2_with fail
          refine Hcl.out.mono ?_
          rintro e' w1 ⟨v1, rfl, hown, hb⟩
          have Ho := Lib.hid hown
          clear hown hp Hcl
          go_wp2
          go_ret3
          refine ⟨v1, rfl, ?_, hb⟩
          have := Ho.out
          simp only [Int.toNat_natCast]
          rw [hpl]
          exact this
  · have hv0 : v = 0 ∧ to = 0 := by omega
    obtain ⟨rfl, rfl⟩ := hv0
    rw [if_pos (by simp; omega)]
    have hne : ((e : Int) != 0) = true := by simp; omega
    clear he he0 h hl
    go_enter Try.func71, Try.ntmps71
    go_wp2_with fail
    refine Hc.out.mono ?_
    rintro e' w' ⟨rfl, rfl⟩
    clear Hc
    go_wp2
    go_ret3
    exact ⟨_, rfl, World.ownsRow_nil _ _ _ _, Below.refl _ _⟩

set_option maxHeartbeats 4000000 in
set_option maxRecDepth 100000 in
theorem refBytes_any (A : Option Addr) (n c : Nat) (at_ most : Int) (l : List UInt8) (w : World) (hc : n ≤ c) (hn : n ≤ 140737488355328) (hm : c ≤ 9223372036854775807) (hm1 : -9223372036854775808 ≤ most) (hm2 : most ≤ 9223372036854775807) (h : Rd w w.heap.size A n l) :
    Calls Try.prog 66 #[.slice A n c, .int .i64 at_, .int .i64 most] w fun e w' =>
      ∃ v, e = .returned (.tuple #[v, .int .i64 (txtAt l at_ most).2.1, .int .i64 (txtAt l at_ most).2.2]) ∧ w'.ownsRow w.heap.size 5 1 v (txtAt l at_ most).1.length (u8s (txtAt l at_ most).1) ∧ Below w.heap.size w w' := by
  obtain ⟨i0, hi0, hz0, hz1, hz2⟩ := info_parts Try.infoU8
  have c1 := refUint_any A n c w.heap.size at_ l w hc (by omega) h
  obtain ⟨v, to, e, hu, hv, hto, he⟩ := uintAt_form l at_ (by rw [h.1]; omega)
  unfold txtAt
  rw [hu] at c1 ⊢
  have Hc := Lib.hid c1
  have hl := h.1
  clear c1 hu
  by_cases he0 : e = 0
  · subst he0
    have hat : 0 ≤ at_ ∧ at_ < to := by omega
    rw [if_neg (by simp)]
    by_cases h1 : max most 0 < (v : Int)
    · rw [if_pos h1]
      clear he hat hto h hl
      by_cases h0 : most < 0
      all_goals
        go_enter Try.func66, Try.ntmps66
        go_wp2_with fail
        refine Hc.out.mono ?_
        rintro e' w' ⟨rfl, rfl⟩
        clear Hc
        go_wp2
        go_ret3
        exact ⟨_, rfl, World.ownsRow_nil _ _ _ _, Below.refl _ _⟩
    · rw [if_neg h1]
      by_cases h2 : (l.length : Int) - (to : Int) < (v : Int)
      · rw [if_pos h2]
        rw [hl] at h2
        have hto' : to ≤ n := by omega
        clear he hat hto h hl
        by_cases h0 : most < 0
        all_goals
          go_enter Try.func66, Try.ntmps66
          go_wp2_with fail
          refine Hc.out.mono ?_
          rintro e' w' ⟨rfl, rfl⟩
          clear Hc
          go_wp2
          all_goals go_ret3
          all_goals exact ⟨_, rfl, World.ownsRow_nil _ _ _ _, Below.refl _ _⟩
      · rw [if_neg h2]
        rw [hl] at h2
        have hto' : to + v ≤ n := by omega
        obtain ⟨b, o, rfl, _, _⟩ := h.2 (by omega)
        have hp := h.part (i := to) (k := v) hto'
        have hpl := hp.1
        by_cases hct : c = to
        · subst hct
          have hv0 : v = 0 := by omega
          subst hv0
          clear he hat hto h hl hp hpl
          by_cases h0 : most < 0
          all_goals
            go_enter Try.func66, Try.ntmps66
            go_wp2_with fail
            refine Hc.out.mono ?_
            rintro e' w' ⟨rfl, rfl⟩
            clear Hc
            go_wp2_with (at_builtin; refine wpList_append_app _ rfl _ _ 33 rfl w.heap.size 5 i0 (.int .u8 0) 1 1 Try.underlying33 hi0 hz0 hz1 hz2 rfl _ 0 [] rfl (World.ownsRow_nil _ _ _ _) (some ⟨b, o, none⟩) 0 0 [] rfl rfl (by intro e; cases e) (by intro a ha j u hu; simp at hu) (by intro u hu; cases hu) (by unfold maxLen; omega) (by omega) (Nat.le_refl _) ?_)
            intro v' w1 ha
            have hb1 := ha.below (Below.refl w.heap.size w) (Nat.le_refl _) (by simp [Value.ownBlock])
            have ho := ha.own
            go_wp2
            go_ret3
            exact ⟨v', by simp, by simpa [u8s_nil] using ho, hb1⟩
        · have Hp := Lib.hid hp
          have Hsub : Hid (to + v - to = v) := Nat.add_sub_cancel_left to v
          clear he hat hto h hl hp
          by_cases h0 : most < 0
          all_goals
            go_enter Try.func66, Try.ntmps66
            go_wp2_with fail
            refine Hc.out.mono ?_
            rintro e' w' ⟨rfl, rfl⟩
            clear Hc
            go_wp2_with (at_builtin; refine wpList_append_app _ rfl _ _ 33 rfl w.heap.size 5 i0 (.int .u8 0) 1 1 Try.underlying33 hi0 hz0 hz1 hz2 rfl _ 0 [] rfl (World.ownsRow_nil _ _ _ _) (some ⟨b, o + to, none⟩) (to + v - to) (c - to) (u8s ((l.drop to).take v)) rfl (by rw [u8s_len, Hp.out.1, Hsub.out, Nat.mul_one]) (by intro e; cases e) Hp.out.cells (u8s_one _) (by unfold maxLen; omega) (by omega) (Nat.le_refl _) ?_)
            intro v' w1 ha
            have hb1 := ha.below (Below.refl w.heap.size w) (Nat.le_refl _) (by simp [Value.ownBlock])
            have ho := ha.own
            rw [Nat.zero_add, List.nil_append] at ho
            have Ho := Lib.hid ho
            have Hpl := Lib.hid hpl
            clear ho ha Hp hpl
            go_wp2
            go_ret3
            refine ⟨v', rfl, ?_, hb1⟩
            have := Ho.out
            simp only [Int.toNat_natCast]
            rw [Hpl.out]
            exact this
  · have hv0 : v = 0 ∧ to = 0 := by omega
    obtain ⟨rfl, rfl⟩ := hv0
    rw [if_pos (by simp; omega)]
    have hne : ((e : Int) != 0) = true := by simp; omega
    clear he he0 h hl
    go_enter Try.func66, Try.ntmps66
    go_wp2_with fail
    refine Hc.out.mono ?_
    rintro e' w' ⟨rfl, rfl⟩
    clear Hc
    go_wp2
    go_ret3
    exact ⟨_, rfl, World.ownsRow_nil _ _ _ _, Below.refl _ _⟩
end Go.Proofs.Ytgippbbbfpkhhaa
