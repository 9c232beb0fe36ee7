/- Of the proofs of layer 4, merged: RWal2. -/
import Derived.Test.YtfepjgafamaegaaGreatM1RWal
import Derived.Test.YtfepjgafamaegaaGreatMKnown2

/- The document's log: an area's bytes; the frames of records. -/
namespace Go.Proofs.YtfepjgafamaegaaGreat
open Go.RowKit

theorem secsFrom_len {d : Dk} (h : d.Ok) (base k : Nat) (hb : base + k ≤ d.safe.length) : (secsFrom d base k).length = k * 32 := by
  induction k with
  | zero => simp [secsFrom]
  | succ k ih => rw [secsFrom, List.length_append, ih (by omega), Dk.sec_len h (by omega)]; omega
theorem Dk.base_le {d : Dk} (h6 : 6 ≤ d.safe.length) (e : Nat) : 2 ≤ d.base e ∧ d.base e + d.half ≤ d.safe.length ∧ 2 ≤ d.half := by
  unfold Dk.base baseOf Dk.half halfN
  have := Nat.mod_lt e (show 0 < 2 by omega)
  generalize d.safe.length = n at *
  rcases (show e % 2 = 0 ∨ e % 2 = 1 by omega) with h | h <;> rw [h] <;> omega
theorem Dk.area_len {d : Dk} (h : d.Ok) (h6 : 6 ≤ d.safe.length) (e : Nat) : (d.area e).length = d.bytes := secsFrom_len h _ _ (Dk.base_le h6 e).2.1

def RowB (l : List UInt8) (w : World) (e : Ending) (w' : World) : Prop := ∃ A c, e = .returned (.slice A l.length c) ∧ w'.ownsRow w.heap.size 5 1 (.slice A l.length c) l.length (u8s l) ∧ Below w.heap.size w w'
set_option maxRecDepth 100000 in
set_option maxHeartbeats 1000000 in
theorem rbytes_meth (M : Nat) (d : Dk) (F : Nat → Prop) (e : Nat) (w : World) (he : e < 18446744073709551616) (hwl : d.waits.length ≤ 1000000000) (hd : d.down = false) (h6 : 6 ≤ d.safe.length) (h : RD w F M d) :
    Calls Tryz.prog 135 #[.pointer (some ⟨M, 0, none⟩), .int .u64 e] w (RowB (d.area e) w) := by
  obtain ⟨i0, hi0, hz0, hz1, hz2⟩ := info_parts Tryz.infoU8
  have hlen := h.len
  have hok := h.ok
  obtain ⟨hb1, hb2, hb3⟩ := Dk.base_le h6 e
  have HH : Hid (∀ W, Below w.heap.size w W → Calls Tryz.prog 122 #[.pointer (some ⟨M, 0, none⟩)] W fun x w' => x = .returned (.int .i64 d.half) ∧ W = w') := fun W hW => rhalf_meth M d F W h6 (h.below hW)
  have HF : Hid (∀ W, Below w.heap.size w W → Calls Tryz.prog 132 #[.pointer (some ⟨M, 0, none⟩), .int .u64 e] W fun x w' => x = .returned (.int .i64 (d.base e)) ∧ W = w') := fun W hW => rfirst_any M d F e W he h6 (h.below hW)
  have HS : Hid (∀ W i, Below w.heap.size w W → i < d.half → Calls Tryz.prog 157 #[.pointer (some ⟨M, 0, none⟩), .int .i64 ((d.base e : Int) + (i : Int))] W (Sec32 (d.sec (d.base e + i)) W)) := fun W i hW hi => by
    have := rsec_meth M d F (d.base e + i) W hwl hd (by omega) (h.below hW)
    rwa [show ((d.base e + i : Nat) : Int) = (d.base e : Int) + (i : Int) by omega] at this
  have HL : Hid (∀ k, k ≤ d.half → (secsFrom d (d.base e) k).length = k * 32) := fun k hk => secsFrom_len hok _ _ (by omega)
  have HA : Hid (d.area e = secsFrom d (d.base e) d.half) := rfl
  have HN : Hid (∀ k, secsFrom d (d.base e) (k + 1) = secsFrom d (d.base e) k ++ d.sec (d.base e + k)) := fun k => rfl
  have HS2 : Hid (∀ k, k < d.half → (d.sec (d.base e + k)).length = 32) := fun k hk => Dk.sec_len hok (by omega)
  have hh : d.half ≤ 1024 := by unfold Dk.half halfN; omega
  clear h hok
  generalize d.half = H at *
  generalize d.base e = B at *
  go_enter Tryz.func135, Tryz.ntmps135
  go_wp2
  go_loopg [5, 6] H (fun g v i wr => ∃ k : Nat, i = .int .i64 k ∧ k + g = H ∧ Hid (wr.ownsRow w.heap.size 5 1 v (k * 32) (u8s (secsFrom d B k)) ∧ Below w.heap.size w wr))
  case atStart => exact ⟨0, rfl, by omega, ⟨World.ownsRow_nil _ _ _ _, Below.refl _ _⟩⟩
  case round =>
    obtain ⟨k, rfl, hk, HR⟩ := hrel
    obtain ⟨hown, hb⟩ := HR.out
    have HC1 := Lib.hid (HH.out _ hb)
    obtain ⟨Av, cv, rfl, _⟩ := own_shape hown
    by_cases hkn : k < H
    · have HC2 := Lib.hid (HF.out _ hb)
      have HC3 := Lib.hid (HS.out _ k hb hkn)
      have Hown := Lib.hid hown
      have Hb := Lib.hid hb
      have Hsl := Lib.hid (HS2.out k hkn)
      have HNk := Lib.hid (HN.out k)
      clear hown hb HR
      go_wp2_with fail
      refine HC1.out.mono ?_
      rintro x w' ⟨rfl, rfl⟩
      go_wp2_with fail
      refine HC2.out.mono ?_
      rintro x w' ⟨rfl, rfl⟩
      go_wp2_with fail
      refine HC3.out.mono ?_
      rintro x w2 ⟨A, c, rfl, hr, hc1, hc2, hbl⟩
      have Hr := Lib.hid hr
      have Hbl := Lib.hid hbl
      have hown2 := own_below Hown.out hbl (fun q hq => (Hown.out.lt q hq).2)
      have hb2 := Hb.out.trans (hbl.mono Hb.out.size)
      generalize d.sec (B + k) = s at *
      clear hr hbl HC1 HC2 HC3
      go_wp2_with (at_builtin; go_loud (refine wpList_append_app _ rfl _ _ 23 rfl w.heap.size 5 i0 (.int .u8 0) 1 1 Tryz.underlying23 hi0 hz0 hz1 hz2 rfl _ _ _ rfl hown2 A 32 c (u8s s) rfl (by rw [u8s_len, Hsl.out]) (by intro e; obtain ⟨_, _, e', _⟩ := Hr.out.2 (by omega); rw [e] at e'; cases e') Hr.out.cells (u8s_one s) (by unfold maxLen; omega) (by omega) hb2.size ?_))
      intro v' w3 ha
      have HFin : Hid (w3.ownsRow w.heap.size 5 1 v' ((k + 1) * 32) (u8s (secsFrom d B (k + 1))) ∧ Below w.heap.size w w3) := by
        refine ⟨?_, ha.below hb2 hb2.size (own_block_ge hown2)⟩
        rw [HNk.out, u8s_append, Nat.succ_mul]
        exact ha.own
      clear ha hown2 hb2
      go_wp2
      go_roundg (gk - 1)
      case measure => omega
      case rel => exact ⟨k + 1, by go_num, by omega, HFin.out⟩
    · obtain rfl : k = H := by omega
      have HFin : Hid (wr.ownsRow w.heap.size 5 1 (.slice Av (k * 32) cv) (k * 32) (u8s (secsFrom d B k)) ∧ Below w.heap.size w wr) := ⟨hown, hb⟩
      have hl := HL.out k (Nat.le_refl _)
      have Hl := Lib.hid hl
      clear hown hb HR hl
      go_wp2_with fail
      refine HC1.out.mono ?_
      rintro x w' ⟨rfl, rfl⟩
      go_wp2
      go_ret
      refine (⟨Av, cv, ?_, ?_, HFin.out.2⟩ : RowB _ w _ _)
      · rw [HA.out, Hl.out]; rfl
      · rw [HA.out, Hl.out]; exact HFin.out.1

/-- The frames of records, or the error. -/
def framesA (ls : List (List UInt8)) : List UInt8 × Nat := if ∃ b ∈ ls, 1024 < b.length then ([], 3) else if 65536 < usedF ls then ([], 5) else (framesF ls, 0)
theorem framesF_take (ls : List (List UInt8)) (k : Nat) (h : k < ls.length) : framesF (ls.take (k + 1)) = framesF (ls.take k) ++ putF (2, ls[k]) := by
  rw [List.take_succ_eq_append_getElem h, framesF_app, framesF_one]
theorem usedF_take (ls : List (List UInt8)) (k : Nat) (h : k < ls.length) : usedF (ls.take (k + 1)) = usedF (ls.take k) + (10 + ls[k].length) := by
  rw [List.take_succ_eq_append_getElem h, usedF_app, usedF_one]
theorem usedF_take_le (ls : List (List UInt8)) (k : Nat) : usedF (ls.take k) ≤ usedF ls := by
  have : usedF ls = usedF (ls.take k) + usedF (ls.drop k) := by rw [← usedF_app, List.take_append_drop]
  omega
theorem framesA_long {ls : List (List UInt8)} (k : Nat) (h : k < ls.length) (h1 : 1024 < ls[k].length) : framesA ls = ([], 3) := if_pos ⟨_, List.getElem_mem h, h1⟩
theorem framesA_full {ls : List (List UInt8)} (h : ∀ b ∈ ls, b.length ≤ 1024) (h1 : 65536 < usedF ls) : framesA ls = ([], 5) := by
  unfold framesA
  rw [if_neg, if_pos h1]
  rintro ⟨b, hb, hl⟩
  have := h b hb
  omega
theorem framesA_ok {ls : List (List UInt8)} (h : ∀ b ∈ ls, b.length ≤ 1024) (h1 : usedF ls ≤ 65536) : framesA ls = (framesF ls, 0) := by
  unfold framesA
  rw [if_neg, if_neg (by omega)]
  rintro ⟨b, hb, hl⟩
  have := h b hb
  omega
theorem all_take {ls : List (List UInt8)} {k : Nat} (h : k < ls.length) (h1 : ∀ b ∈ ls.take k, b.length ≤ 1024) (h2 : ls[k].length ≤ 1024) : ∀ b ∈ ls.take (k + 1), b.length ≤ 1024 := by
  rw [List.take_succ_eq_append_getElem h]
  intro b hb
  rcases List.mem_append.1 hb with hb | hb
  · exact h1 b hb
  · simp only [List.mem_singleton] at hb; subst hb; exact h2

def FramesR (ls : List (List UInt8)) (w : World) (e : Ending) (w' : World) : Prop := ∃ A c, e = .returned (.tuple #[.slice A (framesA ls).1.length c, .int .i64 ((framesA ls).2 : Nat)]) ∧ w'.ownsRow w.heap.size 5 1 (.slice A (framesA ls).1.length c) (framesA ls).1.length (u8s (framesA ls).1) ∧ Below w.heap.size w w'
set_option maxRecDepth 100000 in
set_option maxHeartbeats 2000000 in
theorem rframes_any (A : Option Addr) (n c : Nat) (ls : List (List UInt8)) (w : World) (hn : n ≤ 9223372036854775807) (h : Parts w w.heap.size A n ls) :
    Calls Tryz.prog 121 #[.slice A n c] w (FramesR ls w) := by
  obtain ⟨i0, hi0, hz0, hz1, hz2⟩ := info_parts Tryz.infoU8
  have Hl := Lib.hid h.1
  have HP := Lib.hid h
  have Hi0 := Lib.hid hi0
  have Hz0 := Lib.hid hz0
  have Hz1 := Lib.hid hz1
  have Hz2 := Lib.hid hz2
  clear h hi0 hz0 hz1 hz2
  go_enter Tryz.func121, Tryz.ntmps121
  go_wp2
  go_loopg [5] n (fun g i wr => ∃ k : Nat, i = .int .i64 k ∧ k + g = n ∧ Hid (∀ b ∈ ls.take k, b.length ≤ 1024) ∧ w = wr)
  case atStart => exact ⟨0, rfl, by omega, Lib.hid (by simp), rfl⟩
  case round =>
    obtain ⟨k, rfl, hk, Hs, rfl⟩ := hrel
    by_cases hkn : k < n
    · have hkl : k < ls.length := by rw [Hl.out]; exact hkn
      obtain ⟨b, o, A', n', c', rfl, hbw, hcell, hn', hc', hrd⟩ := HP.out.2 k hkl
      have hrl := hrd.1
      have Hkl := Lib.hid hkl
      have Hrl := Lib.hid hrl
      clear hrd hrl
      by_cases hlong : 1024 < n'
      · have HA := Lib.hid (framesA_long k Hkl.out (by rw [Hrl.out]; exact hlong))
        go_wp2
        go_ret2
        refine (⟨none, 0, ?_, ?_, Below.refl _ _⟩ : FramesR ls w _ _)
        · rw [HA.out]; rfl
        · rw [HA.out]; exact World.ownsRow_nil _ _ _ _
      · have Hs2 := Lib.hid (all_take Hkl.out Hs.out (by rw [Hrl.out]; omega))
        go_wp2
        go_roundg (gk - 1)
        case measure => omega
        case rel => exact ⟨k + 1, by go_num, by omega, Hs2, rfl⟩
    · obtain rfl : k = n := by omega
      have HS : Hid (∀ b ∈ ls, b.length ≤ 1024) := by
        have := Hs.out
        rwa [List.take_of_length_le (by rw [Hl.out]; exact Nat.le_refl _)] at this
      clear Hs
      go_wp2
      go_loopg [4, 6] k (fun g v i wr => ∃ j : Nat, i = .int .i64 j ∧ j + g = k ∧ Hid (wr.ownsRow w.heap.size 5 1 v (usedF (ls.take j)) (u8s (framesF (ls.take j))) ∧ Below w.heap.size w wr ∧ usedF (ls.take j) ≤ 65536))
      case atStart => exact ⟨0, rfl, by omega, ⟨by rw [List.take_zero]; exact World.ownsRow_nil _ _ _ _, Below.refl _ _, by rw [List.take_zero]; exact Nat.zero_le _⟩⟩
      case round =>
        obtain ⟨j, rfl, hj, HR⟩ := hrel
        obtain ⟨hown, hb, hle⟩ := HR.out
        obtain ⟨Av, cv, rfl, _⟩ := own_shape hown
        by_cases hjn : j < k
        · have hjl : j < ls.length := by rw [Hl.out]; exact hjn
          obtain ⟨b, o, A', n', c', rfl, hbw, hcell, hn', hc', hrd⟩ := (HP.out.below hb).2 j hjl
          have hrl := hrd.1
          have hsm : n' ≤ 1024 := by rw [← hrl]; exact HS.out _ (List.getElem_mem hjl)
          have HC := Lib.hid (refPutF_ok 2 A' n' c' ls[j] wr hsm (hrd.more hb.size))
          have HT := Lib.hid (framesF_take ls j hjl)
          have hut := usedF_take ls j hjl
          have HU := Lib.hid hut
          have Hle := Lib.hid (usedF_take_le ls (j + 1))
          have Hown := Lib.hid hown
          have Hb := Lib.hid hb
          rw [hrl] at hut
          rw [hut]at Hle
          have Hut := Lib.hid hut
          generalize ls[j] = body at *
          generalize usedF (ls.take j) = u at *
          clear hown hb hrd HR hrl hut hjl
          go_wp2_with fail
          refine HC.out.mono ?_
          rintro x w2 ⟨v, rfl, ho, hbl⟩
          obtain ⟨Af, cf, rfl, _⟩ := own_shape ho
          have hown2 := own_below Hown.out hbl (fun q hq => (Hown.out.lt q hq).2)
          have hb2 := Hb.out.trans (hbl.mono Hb.out.size)
          have hrf := Rd.of_own ho
          have Hrf := Lib.hid hrf
          have hpl : (u8s (putF (2, body))).length = 10 + n' := hrf.1 ▸ (u8s_len _)
          clear ho hbl HC hrf
          go_wp2_with (at_builtin; go_loud (refine wpList_append_app _ rfl _ _ 23 rfl w.heap.size 5 i0 (.int .u8 0) 1 1 Tryz.underlying23 Hi0.out Hz0.out Hz1.out Hz2.out rfl _ _ _ rfl hown2 Af (10 + n') cf (u8s (putF (2, body))) rfl (by rw [hpl, Nat.mul_one]) (by intro e; obtain ⟨_, _, e', _⟩ := Hrf.out.2 (by omega); rw [e] at e'; cases e') Hrf.out.cells (u8s_one _) (by unfold maxLen; omega) (by omega) hb2.size ?_))
          intro v' w3 ha
          obtain ⟨A3, c3, rfl, _⟩ := own_shape ha.own
          have HFin : Hid (w3.ownsRow w.heap.size 5 1 (.slice A3 (u + (10 + n')) c3) (usedF (ls.take (j + 1))) (u8s (framesF (ls.take (j + 1)))) ∧ Below w.heap.size w w3) := by
            refine ⟨?_, ha.below hb2 hb2.size (own_block_ge hown2)⟩
            rw [HT.out, u8s_append, Hut.out]
            exact ha.own
          clear ha hown2 hb2 hpl
          by_cases hfull : 65536 < u + (10 + n')
          · have HA := Lib.hid (framesA_full HS.out (by have := Hle.out; omega))
            have HB := Lib.hid HFin.out.2
            go_wp2
            go_ret2
            refine (⟨none, 0, ?_, ?_, HB.out⟩ : FramesR ls w _ _)
            · rw [HA.out]; rfl
            · rw [HA.out]; exact World.ownsRow_nil _ _ _ _
          · go_wp2
            go_roundg (gk - 1)
            case measure => omega
            case rel => exact ⟨j + 1, by go_num, by omega, ⟨HFin.out.1, HFin.out.2, by rw [Hut.out]; omega⟩⟩
        · obtain rfl : j = k := by omega
          have hall : ls.take j = ls := List.take_of_length_le (by rw [Hl.out]; exact Nat.le_refl _)
          rw [hall] at hown hle
          have HA := Lib.hid (framesA_ok HS.out hle)
          have HFin : Hid (wr.ownsRow w.heap.size 5 1 (.slice Av (usedF ls) cv) (usedF ls) (u8s (framesF ls)) ∧ Below w.heap.size w wr) := ⟨hown, hb⟩
          have Hall := Lib.hid hall
          clear hown hb HR hle hall
          go_wp2
          go_ret2
          refine (⟨Av, cv, ?_, ?_, HFin.out.2⟩ : FramesR ls w _ _)
          · rw [HA.out, Hall.out]; rfl
          · rw [HA.out]; exact HFin.out.1
end Go.Proofs.YtfepjgafamaegaaGreat
