/- Of the proofs of layer 4, merged: RefFrameGet, RefFrameGet2. -/
import Derived.Test.YtfghbhjljbdlmaaMRefFramePut
import Derived.Test.YtfghbhjljbdlmaaMWords
import Derived.Handy

/- ref02.Get answers the plain frame at a place: where it is refused ahead of its sum (the rest is under way). -/
namespace Go.Proofs.Ytfghbhjljbdlmaa
open Go.RowKit

/-- The frame at a place: its kind, its body, the place behind it, the error. -/
def getA (l : List UInt8) (a : Int) : UInt8 × List UInt8 × Int × Int :=
  if a < 0 ∨ (l.length : Int) < a then (0, [], 0, 2)
  else match getF (l.drop a.toNat) with
    | .error e => (0, [], 0, e)
    | .ok (f, k) => (f.1, f.2, a + k, 0)

set_option maxHeartbeats 4000000 in
set_option maxRecDepth 100000 in
theorem refGetF_head (A : Option Addr) (n c : Nat) (at_ : Int) (l : List UInt8) (w : World) (hc : n ≤ c) (hn : n ≤ 140737488355328) (hm : c ≤ 9223372036854775807) (h : Rd w w.heap.size A n l) (hbad : ∀ f k, getF (l.drop at_.toNat) ≠ .ok (f, k) ∧ getF (l.drop at_.toNat) ≠ .error 21) :
    Calls Try.prog 88 #[.slice A n c, .int .i64 at_] w fun e w' =>
      ∃ v, e = .returned (.tuple #[.agg #[.int .u8 ((getA l at_).1.toNat : Int), v], .int .i64 (getA l at_).2.2.1, .int .i64 (getA l at_).2.2.2]) ∧ w'.ownsRow w.heap.size 5 1 v (getA l at_).2.1.length (u8s (getA l at_).2.1) ∧ Below w.heap.size w w' := by
  have hl := h.1
  unfold getA
  rw [hl]
  by_cases h1 : at_ < 0 ∨ (n : Int) < at_
  · rw [if_pos h1]
    clear h hl hbad
    by_cases h2 : at_ < 0
    all_goals
      go_enter Try.func88, Try.ntmps88
      go_wp2
      go_returns
      exact ⟨_, rfl, World.ownsRow_nil _ _ _ _, (Below.refl _ _).alloc (Nat.le_refl _) _⟩
  · rw [if_neg h1]
    obtain ⟨a, rfl⟩ := Int.eq_ofNat_of_zero_le (show 0 ≤ at_ by omega)
    rw [Int.toNat_natCast] at hbad ⊢
    have ha : a ≤ n := by omega
    clear h1
    have hdl : (l.drop a).length = n - a := by rw [List.length_drop, hl]
    unfold getF at hbad ⊢
    rw [hdl] at hbad ⊢
    by_cases h2 : n - a = 0
    · rw [if_pos h2]
      have : a = n := by omega
      subst this
      clear h hl hdl hbad
      go_enter Try.func88, Try.ntmps88
      go_wp2
      go_returns
      exact ⟨_, rfl, World.ownsRow_nil _ _ _ _, (Below.refl _ _).alloc (Nat.le_refl _) _⟩
    · rw [if_neg h2] at hbad ⊢
      obtain ⟨b, o, rfl, _, hcell⟩ := h.2 (by omega)
      have hx := hcell a (by omega)
      have hx0 : (l.drop a).getD 0 0 = l[a]'(by omega) := by simp [List.getD, List.getElem?_eq_getElem (show a < l.length by omega)]
      rw [hx0] at hbad ⊢
      have HL := Lib.hid hl
      generalize hxe : l[a]'(by omega) = x at *
      by_cases h3 : x ≠ 167
      · rw [if_pos h3]
        have hx3 : ((x.toNat : Int) != 167) = true := by
          simp
          intro e
          exact h3 (UInt8.toNat_inj.1 (by show x.toNat = 167; omega))
        clear hbad hxe hcell h hdl
        go_enter Try.func88, Try.ntmps88
        go_wp2
        go_returns
        exact ⟨_, rfl, World.ownsRow_nil _ _ _ _, (Below.refl _ _).alloc (Nat.le_refl _) _⟩
      · rw [if_neg h3] at hbad ⊢
        have hx3 : x = 167 := by simpa using h3
        subst hx3
        clear h3
        by_cases h4 : n - a < 6
        · rw [if_pos h4]
          clear hbad hxe hcell h hdl
          go_enter Try.func88, Try.ntmps88
          go_wp2
          go_returns
          exact ⟨_, rfl, World.ownsRow_nil _ _ _ _, (Below.refl _ _).alloc (Nat.le_refl _) _⟩
        · rw [if_neg h4] at hbad ⊢
          have F1 : ∀ W, Rd W w.heap.size (some ⟨b, o, none⟩) n l → Calls Try.prog 110 #[.slice (some ⟨b, o, none⟩) n c, .int .i64 ((a : Int) + 2)] W fun e w' => e = .returned (.tuple #[.int .u32 (be (((l.drop a).drop 2).take 4) : Nat), .int .i64 ((a : Int) + 6), .int .i64 0]) ∧ ∃ q, W.drewN q = w' := by
            intro W hW
            have := refFixed_any (some ⟨b, o, none⟩) n c w.heap.size ((a : Int) + 2) l W hc hm hW
            have e : fixAt l ((a : Int) + 2) = (((be (((l.drop a).drop 2).take 4) : Nat) : Int), (a : Int) + 6, 0) := by
              unfold fixAt
              rw [if_neg (by omega), if_neg (by omega), show ((a : Int) + 2).toNat = a + 2 by omega, List.drop_drop]
              exact Prod.ext rfl (Prod.ext (by show (a : Int) + 2 + 4 = (a : Int) + 6; omega) rfl)
            rwa [e] at this
          have hN := be_lt (((l.drop a).drop 2).take 4)
          have hN4 : (((l.drop a).drop 2).take 4).length = 4 := by rw [List.length_take, List.length_drop, hdl]; omega
          rw [hN4] at hN
          generalize hNe : be (((l.drop a).drop 2).take 4) = N at *
          have HF1 := Lib.hid F1
          have Hh := Lib.hid h
          by_cases h5 : 1024 < N
          · rw [if_pos h5]
            clear hbad hxe hcell h hdl F1 hN4 hNe
            go_enter Try.func88, Try.ntmps88
            go_wp2_with fail
            refine (HF1.out _ (Hh.out.alloc (Nat.le_refl _) _)).mono ?_
            rintro e w' ⟨rfl, q, rfl⟩
            go_wp2
            go_returns
            exact ⟨_, rfl, World.ownsRow_nil _ _ _ _, ((bel_drewN ((Below.refl _ _).alloc (Nat.le_refl _) _) q).setCell (Nat.le_refl _) _).setCell (Nat.le_refl _) _⟩
          · rw [if_neg h5] at hbad ⊢
            by_cases h6 : n - a < 10 + N
            · rw [if_pos h6]
              clear hbad hxe hcell h hdl F1 hN4 hNe
              go_enter Try.func88, Try.ntmps88
              go_wp2_with fail
              refine (HF1.out _ (Hh.out.alloc (Nat.le_refl _) _)).mono ?_
              rintro e w' ⟨rfl, q, rfl⟩
              go_wp2
              go_returns
              exact ⟨_, rfl, World.ownsRow_nil _ _ _ _, ((bel_drewN ((Below.refl _ _).alloc (Nat.le_refl _) _) q).setCell (Nat.le_refl _) _).setCell (Nat.le_refl _) _⟩
            · rw [if_neg h6] at hbad ⊢
              by_cases h7 : be (((l.drop a).drop (6 + N)).take 4) ≠ crcSum ((l.drop a).take (6 + N))
              · rw [if_pos h7] at hbad
                exact absurd rfl (hbad (0, []) 0).2
              · rw [if_neg h7] at hbad
                exact absurd rfl (hbad _ _).1
end Go.Proofs.Ytfghbhjljbdlmaa

/- ref02.Get answers the plain frame at a place. -/
namespace Go.Proofs.Ytfghbhjljbdlmaa
open Go.RowKit

set_option maxHeartbeats 400000 in
set_option maxRecDepth 100000 in
theorem refGetF_sum (b o n c a N S S' : Nat) (l p : List UInt8) (w : World) (_hn : n ≤ 140737488355328) (hc : n ≤ c) (hm : c ≤ 9223372036854775807) (hN : N ≤ 1024) (ha : a + (10 + N) ≤ n)
    (hx : w.cell? ⟨b, o + a, none⟩ = some (.int .u8 167)) (hB : b < w.heap.size)
    (HR : Hid (Rd w w.heap.size (some ⟨b, o, none⟩) n l)) 
    (HP : Hid (Rd w w.heap.size (some ⟨b, o + a, none⟩) (6 + N) p)) 
    (F1 : Hid (∀ W, Rd W w.heap.size (some ⟨b, o, none⟩) n l → Calls Try.prog 110 #[.slice (some ⟨b, o, none⟩) n c, .int .i64 ((a : Int) + 2)] W fun e w' => e = .returned (.tuple #[.int .u32 (N : Int), .int .i64 ((a : Int) + 6), .int .i64 0]) ∧ ∃ q, W.drewN q = w'))
    (F2 : Hid (∀ W, Rd W w.heap.size (some ⟨b, o, none⟩) n l → Calls Try.prog 110 #[.slice (some ⟨b, o, none⟩) n c, .int .i64 ((a : Int) + 6 + (N : Int))] W fun e w' => e = .returned (.tuple #[.int .u32 (S' : Int), .int .i64 ((a : Int) + (10 + (N : Int))), .int .i64 0]) ∧ ∃ q, W.drewN q = w'))
    (F3 : Hid (∀ W, Rd W w.heap.size (some ⟨b, o + a, none⟩) (6 + N) p → Calls Try.prog 105 #[.slice (some ⟨b, o + a, none⟩) (6 + N) (c - a)] W fun e w' => e = .returned (.int .u32 (S : Int)) ∧ W = w'))
    (hS : S' ≠ S) :
    Calls Try.prog 88 #[.slice (some ⟨b, o, none⟩) n c, .int .i64 (a : Int)] w fun e w' =>
      ∃ v, e = .returned (.tuple #[.agg #[.int .u8 0, v], .int .i64 0, .int .i64 21]) ∧ w'.ownsRow w.heap.size 5 1 v 0 [] ∧ Below w.heap.size w w' := by
  go_enter Try.func88, Try.ntmps88
  go_wp2_with fail
  refine (F1.out _ (HR.out.alloc (Nat.le_refl _) _)).mono ?_
  rintro e w' ⟨rfl, q, rfl⟩
  go_wp2_with fail
  refine (F2.out _ ((HR.out.alloc (Nat.le_refl _) _).drewN q)).mono ?_
  rintro e w' ⟨rfl, q', rfl⟩
  have hE : ((a : Int) + 6 + (N : Int)) = ((a + 6 + N : Nat) : Int) := by omega
  have hE2 : a + (6 + N) = a + 6 + N := by omega
  rw [hE]
  generalize hEE : a + 6 + N = E
  go_wp2_with fail
  rw [show E - a = 6 + N by omega]
  refine (F3.out _ ((HP.out.alloc (Nat.le_refl _) _).drewN (q + q'))).mono ?_
  rintro e w' ⟨rfl, rfl⟩
  have hS3 : ((S' : Int) != (S : Int)) = true := by simp; omega
  clear F1 F2 F3 HR HP hx
  go_wp2
  go_returns
  exact ⟨_, rfl, World.ownsRow_nil _ _ _ _, ((bel_drewN ((Below.refl _ _).alloc (Nat.le_refl _) _) (q + q')).setCell (Nat.le_refl _) _).setCell (Nat.le_refl _) _⟩
set_option maxHeartbeats 400000 in
set_option maxRecDepth 100000 in
theorem refGetF_good (b o n c a N S S' : Nat) (l p : List UInt8) (w : World) (_hn : n ≤ 140737488355328) (hc : n ≤ c) (hm : c ≤ 9223372036854775807) (hN : N ≤ 1024) (ha : a + (10 + N) ≤ n)
    (K : UInt8) (body : List UInt8) (hK : w.cell? ⟨b, o + (a + 1), none⟩ = some (.int .u8 (K.toNat : Int)))
    (hx : w.cell? ⟨b, o + a, none⟩ = some (.int .u8 167)) (hB : b < w.heap.size)
    (HR : Hid (Rd w w.heap.size (some ⟨b, o, none⟩) n l)) 
    (HP : Hid (Rd w w.heap.size (some ⟨b, o + a, none⟩) (6 + N) p)) 
    (F1 : Hid (∀ W, Rd W w.heap.size (some ⟨b, o, none⟩) n l → Calls Try.prog 110 #[.slice (some ⟨b, o, none⟩) n c, .int .i64 ((a : Int) + 2)] W fun e w' => e = .returned (.tuple #[.int .u32 (N : Int), .int .i64 ((a : Int) + 6), .int .i64 0]) ∧ ∃ q, W.drewN q = w'))
    (F2 : Hid (∀ W, Rd W w.heap.size (some ⟨b, o, none⟩) n l → Calls Try.prog 110 #[.slice (some ⟨b, o, none⟩) n c, .int .i64 ((a : Int) + 6 + (N : Int))] W fun e w' => e = .returned (.tuple #[.int .u32 (S' : Int), .int .i64 ((a : Int) + (10 + (N : Int))), .int .i64 0]) ∧ ∃ q, W.drewN q = w'))
    (F3 : Hid (∀ W, Rd W w.heap.size (some ⟨b, o + a, none⟩) (6 + N) p → Calls Try.prog 105 #[.slice (some ⟨b, o + a, none⟩) (6 + N) (c - a)] W fun e w' => e = .returned (.int .u32 (S : Int)) ∧ W = w'))
    (hS : S' = S)
    (HB : Hid (Rd w w.heap.size (some ⟨b, o + (a + 6), none⟩) N body)) :
    Calls Try.prog 88 #[.slice (some ⟨b, o, none⟩) n c, .int .i64 (a : Int)] w fun e w' =>
      ∃ v, e = .returned (.tuple #[.agg #[.int .u8 (K.toNat : Int), v], .int .i64 ((a : Int) + (10 + (N : Int))), .int .i64 0]) ∧ w'.ownsRow w.heap.size 5 1 v N (u8s body) ∧ Below w.heap.size w w' := by
  go_enter Try.func88, Try.ntmps88
  go_wp2_with fail
  refine (F1.out _ (HR.out.alloc (Nat.le_refl _) _)).mono ?_
  rintro e w' ⟨rfl, q, rfl⟩
  go_wp2_with fail
  refine (F2.out _ ((HR.out.alloc (Nat.le_refl _) _).drewN q)).mono ?_
  rintro e w' ⟨rfl, q', rfl⟩
  have hE : ((a : Int) + 6 + (N : Int)) = ((a + 6 + N : Nat) : Int) := by omega
  have hE2 : a + (6 + N) = a + 6 + N := by omega
  rw [hE]
  generalize hEE : a + 6 + N = E
  go_wp2_with fail
  rw [show E - a = 6 + N by omega]
  refine (F3.out _ ((HP.out.alloc (Nat.le_refl _) _).drewN (q + q'))).mono ?_
  rintro e w' ⟨rfl, rfl⟩
  subst hS
  obtain ⟨i0, hi0, hz0, hz1, hz2⟩ := info_parts Try.infoU8
  clear F1 F2 F3 HR HP hx
  go_wp2_with (at_builtin; refine wpList_append_app _ rfl _ _ 32 rfl (w.heap.size + 1) 5 i0 (.int .u8 0) 1 1 Try.underlying32 hi0 hz0 hz1 hz2 rfl _ 0 [] rfl (World.ownsRow_nil _ _ _ _) (some ⟨b, o + (a + 6), none⟩) (E - (a + 6)) (c - (a + 6)) (u8s body) rfl (by rw [u8s_len, HB.out.1]; omega) (by intro e; cases e) ((HB.out.alloc (Nat.le_refl _) _).drewN (q + q')).cells (u8s_one _) (by unfold maxLen; omega) (by omega) (by simp) ?_)
  intro va w2 happ
  have hbel := happ.below (bel_drewN ((Below.refl _ _).alloc (Nat.le_refl _) (.cells #[.int .u8 0, .slice none 0 0] 132)) (q + q')) (by simp) (by simp [Value.ownBlock])
  have hown := happ.own
  have hK2 : w2.cell? ⟨b, o + (a + 1), none⟩ = some (.int .u8 (K.toNat : Int)) := by rw [hbel.cell (by exact hB)]; exact hK
  rw [Nat.zero_add, List.nil_append, show E - (a + 6) = N by omega] at hown
  obtain ⟨Av, cv, rfl, _⟩ := own_shape hown
  have Ho := Lib.hid hown
  have Hb := Lib.hid hbel
  have hbk : Bk w2 w.heap.size 132 #[.int .u8 0, .slice none 0 0] := (show Bk ((w.alloc (.cells #[.int .u8 0, .slice none 0 0] 132)).drewN (q + q')) w.heap.size 132 #[.int .u8 0, .slice none 0 0] from Bk.new ..).grown happ.grow (by simp [Value.ownBlock])
  have hf0 := hbk.frozen 0
  have hf1 := hbk.frozen 1
  have hc0 := hbk.cell 0
  have hc1 := hbk.cell 1
  simp at hc0 hc1
  clear hown hbel happ HB
  go_wp2
  have hs0 := hbk.set_ 0 (.int .u8 (K.toNat : Int))
  have e0 : (w2.setCell ⟨w.heap.size, 0, none⟩ (.int .u8 (K.toNat : Int))).cell? ⟨w.heap.size, 0, none⟩ = some (.int .u8 (K.toNat : Int)) := by rw [hs0.cell]; rfl
  have e1 : ((w2.setCell ⟨w.heap.size, 0, none⟩ (.int .u8 (K.toNat : Int))).setCell ⟨w.heap.size, 1, none⟩ (.slice Av N cv)).cell? ⟨w.heap.size, 1, none⟩ = some (.slice Av N cv) := by rw [(hs0.set_ 1 _).cell]; rfl
  refine bodyPost_ret (by simp [results, Try.results88, go_sem, e0, e1]; try rfl) rfl ?_
  refine ⟨_, rfl, ?_, (Hb.out.setCell (Nat.le_refl _) _).setCell (Nat.le_refl _) _⟩
  exact own_mono (own_grown (own_grown Ho.out (grown_set _ _ _ _) (by omega)) (grown_set _ _ _ _) (by omega)) (by omega)

/-- What stands there where only the sum is left to be asked. -/
theorem getF_whole {l : List UInt8} (h : getF l = .error 21 ∨ ∃ f k, getF l = .ok (f, k)) :
    ∃ N, N = be ((l.drop 2).take 4) ∧ N ≤ 1024 ∧ 10 + N ≤ l.length ∧ l.getD 0 0 = 167 ∧
      getF l = if be ((l.drop (6 + N)).take 4) ≠ crcSum (l.take (6 + N)) then .error 21 else .ok ((l.getD 1 0, (l.drop 6).take N), 10 + N) := by
  refine ⟨_, rfl, ?_⟩
  unfold getF at h ⊢
  by_cases h1 : l.length = 0
  · rw [if_pos h1] at h; simp at h
  rw [if_neg h1] at h ⊢
  by_cases h2 : l.getD 0 0 ≠ 167
  · rw [if_pos h2] at h; simp at h
  rw [if_neg h2] at h ⊢
  by_cases h3 : l.length < 6
  · rw [if_pos h3] at h; simp at h
  rw [if_neg h3] at h ⊢
  by_cases h4 : 1024 < be ((l.drop 2).take 4)
  · rw [if_pos h4] at h; simp at h
  rw [if_neg h4] at h ⊢
  by_cases h5 : l.length < 10 + be ((l.drop 2).take 4)
  · rw [if_pos h5] at h; simp at h
  rw [if_neg h5]
  exact ⟨by omega, by omega, by simpa using h2, rfl⟩

set_option maxHeartbeats 400000 in
set_option maxRecDepth 100000 in
theorem refGetF_out (A : Option Addr) (n c : Nat) (at_ : Int) (l : List UInt8) (w : World) (_hc : n ≤ c) (_hn : n ≤ 140737488355328) (_hm : c ≤ 9223372036854775807) (h : Rd w w.heap.size A n l) (h1 : at_ < 0 ∨ (l.length : Int) < at_) :
    Calls Try.prog 88 #[.slice A n c, .int .i64 at_] w fun e w' =>
      ∃ v, e = .returned (.tuple #[.agg #[.int .u8 ((getA l at_).1.toNat : Int), v], .int .i64 (getA l at_).2.2.1, .int .i64 (getA l at_).2.2.2]) ∧ w'.ownsRow w.heap.size 5 1 v (getA l at_).2.1.length (u8s (getA l at_).2.1) ∧ Below w.heap.size w w' := by
  have hl := h.1
  unfold getA
  rw [if_pos h1]
  rw [hl] at h1
  clear h hl
  by_cases h2 : at_ < 0
  all_goals
    go_enter Try.func88, Try.ntmps88
    go_wp2
    go_returns
    exact ⟨_, rfl, World.ownsRow_nil _ _ _ _, (Below.refl _ _).alloc (Nat.le_refl _) _⟩

set_option maxRecDepth 100000 in
theorem refGetF_any (A : Option Addr) (n c : Nat) (at_ : Int) (l : List UInt8) (w : World) (hc : n ≤ c) (hn : n ≤ 140737488355328) (hm : c ≤ 9223372036854775807) (h : Rd w w.heap.size A n l) :
    Calls Try.prog 88 #[.slice A n c, .int .i64 at_] w fun e w' =>
      ∃ v, e = .returned (.tuple #[.agg #[.int .u8 ((getA l at_).1.toNat : Int), v], .int .i64 (getA l at_).2.2.1, .int .i64 (getA l at_).2.2.2]) ∧ w'.ownsRow w.heap.size 5 1 v (getA l at_).2.1.length (u8s (getA l at_).2.1) ∧ Below w.heap.size w w' := by
  by_cases hw : getF (l.drop at_.toNat) = .error 21 ∨ ∃ f k, getF (l.drop at_.toNat) = .ok (f, k)
  · by_cases h1 : at_ < 0 ∨ (l.length : Int) < at_
    · -- no place at all: what would stand there is not asked
      have h2 := refGetF_out A n c at_ l w hc hn hm h h1
      exact h2
    obtain ⟨N, hN, hN1, hN2, h0, hg⟩ := getF_whole hw
    have hl := h.1
    obtain ⟨a, rfl⟩ := Int.eq_ofNat_of_zero_le (show 0 ≤ at_ by omega)
    rw [Int.toNat_natCast] at hN hN2 h0 hg
    rw [List.length_drop, hl] at hN2
    obtain ⟨b, o, rfl, hB, hcell⟩ := h.2 (by omega)
    have hx := hcell a (by omega)
    have hK := hcell (a + 1) (by omega)
    have hx0 : (l.drop a).getD 0 0 = l[a]'(by omega) := by simp [List.getD, List.getElem?_eq_getElem (show a < l.length by omega)]
    have hx1 : (l.drop a).getD 1 0 = l[a + 1]'(by omega) := by simp [List.getD, List.getElem?_eq_getElem (show a + 1 < l.length by omega)]
    rw [← hx0, h0] at hx
    rw [← hx1] at hK
    have hP := h.part (i := a) (k := 6 + N) (by omega)
    have hBd := h.part (i := a + 6) (k := N) (by omega)
    have hS1 := be_lt (((l.drop a).drop (6 + N)).take 4)
    have F1 : ∀ W, Rd W w.heap.size (some ⟨b, o, none⟩) n l → Calls Try.prog 110 #[.slice (some ⟨b, o, none⟩) n c, .int .i64 ((a : Int) + 2)] W fun e w' => e = .returned (.tuple #[.int .u32 (N : Int), .int .i64 ((a : Int) + 6), .int .i64 0]) ∧ ∃ q, W.drewN q = w' := by
      intro W hW
      have := refFixed_any (some ⟨b, o, none⟩) n c w.heap.size ((a : Int) + 2) l W hc hm hW
      have e : fixAt l ((a : Int) + 2) = ((N : Int), (a : Int) + 6, 0) := by
        unfold fixAt
        rw [if_neg (by omega), if_neg (by omega), show ((a : Int) + 2).toNat = a + 2 by omega, hN, List.drop_drop]
        exact Prod.ext rfl (Prod.ext (by show (a : Int) + 2 + 4 = (a : Int) + 6; omega) rfl)
      rwa [e] at this
    have F2 : ∀ W, Rd W w.heap.size (some ⟨b, o, none⟩) n l → Calls Try.prog 110 #[.slice (some ⟨b, o, none⟩) n c, .int .i64 ((a : Int) + 6 + (N : Int))] W fun e w' => e = .returned (.tuple #[.int .u32 ((be (((l.drop a).drop (6 + N)).take 4) : Nat) : Int), .int .i64 ((a : Int) + (10 + (N : Int))), .int .i64 0]) ∧ ∃ q, W.drewN q = w' := by
      intro W hW
      have := refFixed_any (some ⟨b, o, none⟩) n c w.heap.size ((a : Int) + 6 + (N : Int)) l W hc hm hW
      have e : fixAt l ((a : Int) + 6 + (N : Int)) = (((be (((l.drop a).drop (6 + N)).take 4) : Nat) : Int), (a : Int) + (10 + (N : Int)), 0) := by
        unfold fixAt
        rw [if_neg (by omega), if_neg (by omega), show ((a : Int) + 6 + (N : Int)).toNat = a + (6 + N) by omega, List.drop_drop]
        exact Prod.ext rfl (Prod.ext (by show (a : Int) + 6 + (N : Int) + 4 = (a : Int) + (10 + (N : Int)); omega) rfl)
      rwa [e] at this
    have F3 : ∀ W, Rd W w.heap.size (some ⟨b, o + a, none⟩) (6 + N) ((l.drop a).take (6 + N)) → Calls Try.prog 105 #[.slice (some ⟨b, o + a, none⟩) (6 + N) (c - a)] W fun e w' => e = .returned (.int .u32 (crcSum ((l.drop a).take (6 + N)) : Int)) ∧ W = w' :=
      fun W hW => refSum_any _ _ _ _ _ W (by omega) (by omega) hW
    unfold getA
    rw [if_neg h1, Int.toNat_natCast]
    by_cases hs : be (((l.drop a).drop (6 + N)).take 4) ≠ crcSum ((l.drop a).take (6 + N))
    · rw [hg, if_pos hs]
      exact refGetF_sum b o n c a N _ _ l _ w hn hc hm hN1 (by omega) hx hB (Lib.hid h) (Lib.hid hP) (Lib.hid F1) (Lib.hid F2) (Lib.hid F3) hs
    · rw [hg, if_neg hs]
      have hs' : be (((l.drop a).drop (6 + N)).take 4) = crcSum ((l.drop a).take (6 + N)) := by simpa using hs
      have hlen : (((l.drop a).drop 6).take N).length = N := by rw [List.length_take, List.length_drop, List.length_drop]; omega
      have := refGetF_good b o n c a N _ _ l _ w hn hc hm hN1 (by omega) _ (((l.drop a).drop 6).take N) hK hx hB (Lib.hid h) (Lib.hid hP) (Lib.hid F1) (Lib.hid F2) (Lib.hid F3) hs' (Lib.hid (by rw [List.drop_drop]; exact hBd))
      simp only [hlen]
      exact this
  · refine refGetF_head A n c at_ l w hc hn hm h fun f k => ⟨fun e => hw (.inr ⟨f, k, e⟩), fun e => hw (.inl e)⟩
end Go.Proofs.Ytfghbhjljbdlmaa
