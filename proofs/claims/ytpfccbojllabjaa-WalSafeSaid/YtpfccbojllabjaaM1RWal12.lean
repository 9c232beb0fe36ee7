/- Of the proofs of layer 4, merged: RWal12. -/
import Derived.Test.YtpfccbojllabjaaMRWal9

/- The document's log: Append of any bytes, also of none that lie anywhere. -/
namespace Go.Proofs.Ytpfccbojllabjaa
open Go.RowKit

set_option maxRecDepth 100000 in
set_option maxHeartbeats 8000000 in
theorem rappend_free (g M : Nat) (d : Dk) (s : Lg) (H : Nat → Prop) (A : Option Addr) (nb cb : Nat) (b : List UInt8) (w : World) (hwl : d.waits.length ≤ 800000000) (h6 : 6 ≤ d.safe.length)
    (hnb : nb ≤ 140737488355328) (hb : Rd w w.heap.size A nb b) (hbH : 0 < nb → ∀ ad, A = some ad → ¬ H ad.block) (h : RB w H g M d s) :
    Calls Try.prog 20 #[.pointer (some ⟨g, 0, none⟩), .slice A nb cb] w (RActed w H g M (s.append d b)) := by
  obtain ⟨F, G, v, vals, hp, hw, hFG, hFH, hGH, hH, hdn⟩ := h
  have hok := hw.ok
  have hlen := hp.len
  have hbs : d.bytes ≤ 40000 := by unfold Dk.bytes Dk.half halfN; omega
  have hgF : ¬ F g := fun hf => hFG _ hf hw.self
  have hbl := hb.1
  have HC := Lib.hid (rgone_meth g M d s v w hdn hw.blk hp.downCell)
  have HG : Hid (∀ w1, Bk w1 g 57 #[.pointer (some ⟨M, 0, none⟩), .int .u64 s.epoch, v, .int .i64 s.safe, .bool s.gone] → Kp (· = g) w w1 → RD w1 F M d ∧ RWl w1 G g M d.bytes s v vals ∧ Rd w1 w1.heap.size A nb b ∧ Kp G w w1) := fun w1 hb1 hk =>
    ⟨hp.kp hk (fun k hf e => by have e : k = g := e; subst e; exact hgF hf), hw.turn hk hb1 rfl hok, (show Rd w1 w1.heap.size A nb b from (Nat.eq_zero_or_pos nb).elim (fun h0 => ⟨hb.1, fun h => absurd h (by omega)⟩) (fun h0 => (hb.kpA hk (fun ad e e2 => by have e2 : ad.block = g := e2; exact hbH h0 ad e (by rw [e2]; exact hGH _ hw.self))).more hk.size)), hk.mono fun k e => by have e : k = g := e; rw [e]; exact hw.self⟩
  have HRM : Hid (∀ w1, RD w1 F M d ∧ RWl w1 G g M d.bytes s v vals ∧ Rd w1 w1.heap.size A nb b ∧ Kp G w w1 → Calls Try.prog 43 #[.pointer (some ⟨g, 0, none⟩)] w1 fun x w' => x = .returned (.int .i64 (s.room d : Nat)) ∧ Below w1.heap.size w1 w') := fun w1 q =>
    rroom_meth g M d F G s.recs v vals w1 h6 hok.fits hok.small q.2.1.lst q.1 (q.2.1.blk.cell 0) (q.2.1.blk.cell 2)
  -- what holds behind what makes memory only
  have HB : Hid (∀ w1 w2, RD w1 F M d ∧ RWl w1 G g M d.bytes s v vals ∧ Rd w1 w1.heap.size A nb b ∧ Kp G w w1 → Below w1.heap.size w1 w2 → RD w2 F M d ∧ RWl w2 G g M d.bytes s v vals ∧ Rd w2 w2.heap.size A nb b ∧ Kp G w w2) := fun w1 w2 q hb2 =>
    ⟨q.1.below hb2, q.2.1.below hb2, q.2.2.1.up hb2, q.2.2.2.trans (Kp.of_below hb2)⟩
  have hHH : Hid ((∀ k, F k → ¬ G k) ∧ (∀ k, F k → H k) ∧ (∀ k, G k → H k) ∧ (∀ k, H k → k < w.heap.size) ∧ G g ∧ ¬ F g ∧ (s.gone = false → d.down = false) ∧ ∀ k, G k → k < w.heap.size) := ⟨hFG, hFH, hGH, hH, hw.self, hgF, hdn, hw.lt⟩
  have HEnd : Hid (∀ w1, RD w1 F M d ∧ RWl w1 G g M d.bytes s v vals ∧ Rd w1 w1.heap.size A nb b ∧ Kp G w w1 → ∃ H', RB w1 H' g M d s ∧ Mv H H' w w1) := fun w1 q => by
    obtain ⟨a1, a2, a3, a4, a5, a6, a7, a8⟩ := hHH.out
    exact rb_step a2 a3 q.1 q.2.1 a1 (q.2.2.2.mono fun k e => .inr e) (fun k e => .inl e) (fun k e => .inl e) a4 a7
  have hrm : s.room d < b.length + 10 ↔ d.bytes < usedF s.recs + (10 + b.length) := by unfold Lg.room; have := hok.fits; omega
  have hroom : s.room d ≤ 40000 := by unfold Lg.room; omega
  cases hgone : s.gone with
  | true =>
    have HR : Hid (s.append d b = (6, s, d)) := by show _ = _; unfold Lg.append; rw [if_pos hgone]
    rw [hgone] at HC
    have Hgn := Lib.hid hgone
    clear hp hw hok hFG hFH hGH hH hdn hgF hb hbH hgone hrm hbl hlen
    go_enter Try.func20, Try.ntmps20
    go_wp2_with fail
    refine HC.out.mono ?_
    rintro x w1 ⟨rfl, hb1, hk⟩
    have Hq := Lib.hid (HG.out w1 (by rw [Hgn.out]; exact hb1) hk)
    have HRM1 := Lib.hid (HRM.out w1 Hq.out)
    clear hb1 hk HC HRM HG
    go_wp2_with fail
    refine HRM1.out.mono ?_
    rintro x w2 ⟨rfl, hb2⟩
    have HF := Lib.hid (HEnd.out w2 (HB.out w1 w2 Hq.out hb2))
    clear hb2 HRM1 HEnd HB
    go_wp2
    go_ret
    unfold RActed
    rw [HR.out]
    exact ⟨rfl, HF.out⟩
  | false =>
    rw [hgone] at HC
    have Hgn := Lib.hid hgone
    by_cases h1 : 1024 < nb
    · have HR : Hid (s.append d b = (3, s, d)) := by
        show _ = _
        unfold Lg.append
        rw [if_neg (by simp [hgone]), if_pos (by omega)]
      clear hp hw hok hFG hFH hGH hH hdn hgF hb hbH hgone hrm hbl hlen
      go_enter Try.func20, Try.ntmps20
      go_wp2_with fail
      refine HC.out.mono ?_
      rintro x w1 ⟨rfl, hb1, hk⟩
      have Hq := Lib.hid (HG.out w1 (by rw [Hgn.out]; exact hb1) hk)
      have HRM1 := Lib.hid (HRM.out w1 Hq.out)
      clear hb1 hk HC HRM HG
      go_wp2_with fail
      refine HRM1.out.mono ?_
      rintro x w2 ⟨rfl, hb2⟩
      have HF := Lib.hid (HEnd.out w2 (HB.out w1 w2 Hq.out hb2))
      clear hb2 HRM1 HEnd HB
      go_wp2
      go_ret
      unfold RActed
      rw [HR.out]
      exact ⟨rfl, HF.out⟩
    · by_cases h2 : s.room d < nb + 10
      · have HR : Hid (s.append d b = (5, s, d)) := by
          show _ = _
          unfold Lg.append
          rw [if_neg (by simp [hgone]), if_neg (by omega), if_pos (by omega)]
        have h2i : ((s.room d : Nat) : Int) < (nb : Int) + 10 := by omega
        clear hp hw hok hFG hFH hGH hH hdn hgF hb hbH hgone hrm hbl hlen h2
        go_enter Try.func20, Try.ntmps20
        go_wp2_with fail
        refine HC.out.mono ?_
        rintro x w1 ⟨rfl, hb1, hk⟩
        have Hq := Lib.hid (HG.out w1 (by rw [Hgn.out]; exact hb1) hk)
        have HRM1 := Lib.hid (HRM.out w1 Hq.out)
        clear hb1 hk HC HRM HG
        go_wp2_with fail
        refine HRM1.out.mono ?_
        rintro x w2 ⟨rfl, hb2⟩
        have HF := Lib.hid (HEnd.out w2 (HB.out w1 w2 Hq.out hb2))
        clear hb2 HRM1 HEnd HB
        go_wp2
        go_ret
        unfold RActed
        rw [HR.out]
        exact ⟨rfl, HF.out⟩
      · have h2i : ¬ ((s.room d : Nat) : Int) < (nb : Int) + 10 := by omega
        have hap1 : s.append d b = if (s.laid d b).1 = 0 then (0, { s with recs := s.recs ++ [b] }, (s.laid d b).2) else ((s.laid d b).1, { s with recs := s.recs ++ [b], gone := true }, (s.laid d b).2) := by
          unfold Lg.append
          rw [if_neg (by simp [hgone]), if_neg (by omega), if_neg (by omega)]
        have hs2 : ∀ r ∈ s.recs ++ [b], r.length ≤ 1024 := fun r hr => by
          rcases List.mem_append.1 hr with hr | hr
          · exact hok.small r hr
          · simp only [List.mem_singleton] at hr; subst hr; omega
        have hu2 : usedF (s.recs ++ [b]) = usedF s.recs + (10 + nb) := by rw [usedF_app, usedF_one, hbl]
        have hfits := hok.fits
        have hf2 : usedF (s.recs ++ [b]) ≤ d.bytes := by rw [hu2]; unfold Lg.room at h2; omega
        have hok2 : ∀ gn, ({ s with recs := s.recs ++ [b], gone := gn } : Lg).Ok d.bytes := fun gn => ⟨hs2, hf2, hok.epoch, by have := hok.safe; simp; omega⟩
        have hHb : d.half ≤ 1024 := by unfold Dk.half halfN; omega
        have hbe : d.bytes = d.half * 32 := rfl
        have hlay : s.laid d b = layS (fullF d.bytes (s.recs ++ [b])) (d.base s.epoch) (usedF s.recs / 32) ((usedF (s.recs ++ [b]) - 1) / 32 + 1 - usedF s.recs / 32) d := rfl
        have hby : (s.laid d b).2.bytes = d.bytes := bytes_of (by rw [hlay]; exact layS_len _ _ _ _ _)
        have hdown : (s.laid d b).1 = 0 → (s.laid d b).2.down = false := by rw [hlay]; exact layS_down _ _ _ _ _ (hdn hgone)
        have hcnt := usedF_count s.recs
        have hvl : vals.length ≤ 4000 := by have := hw.lst.len; omega
        have HU : Hid (∀ w1, RD w1 F M d ∧ RWl w1 G g M d.bytes s v vals ∧ Rd w1 w1.heap.size A nb b ∧ Kp G w w1 → Calls Try.prog 53 #[.pointer (some ⟨g, 0, none⟩)] w1 fun x w' => x = .returned (.int .i64 (usedF s.recs : Nat)) ∧ Below w1.heap.size w1 w') := fun w1 q =>
          rused_meth g d.bytes G s.recs v vals w1 hbs hok.fits hok.small q.2.1.lst (q.2.1.blk.cell 2)
        have HU2 : Hid (∀ w1 G' v' vals', RWl w1 G' g M d.bytes { s with recs := s.recs ++ [b] } v' vals' → Calls Try.prog 53 #[.pointer (some ⟨g, 0, none⟩)] w1 fun x w' => x = .returned (.int .i64 (usedF (s.recs ++ [b]) : Nat)) ∧ Below w1.heap.size w1 w') := fun w1 G' v' vals' q =>
          rused_meth g d.bytes G' (s.recs ++ [b]) v' vals' w1 hbs hf2 hs2 q.lst (q.blk.cell 2)
        have HFU : Hid (∀ w1 G' A' n' c' vals', RD w1 F M d → RWl w1 G' g M d.bytes { s with recs := s.recs ++ [b] } (.slice A' n' c') vals' → Calls Try.prog 55 #[.pointer (some ⟨g, 0, none⟩), .slice A' n' c'] w1 fun x w' => ∃ ga ca, x = .returned (.slice (some ⟨ga, 0, none⟩) d.bytes ca) ∧ w'.ownsRow w1.heap.size 5 1 (.slice (some ⟨ga, 0, none⟩) d.bytes ca) d.bytes (u8s (fullF d.bytes (s.recs ++ [b]))) ∧ Below w1.heap.size w1 w' ∧ d.bytes ≤ ca ∧ ca ≤ 9223372036854775807) := fun w1 G' A' n' c' vals' q1 q2 => by
          obtain ⟨A2, c2, e2, p1, p2, p3⟩ := q2.lst.parts
          injection e2 with e3 e4 e5
          subst e3 e4 e5
          refine (rfull_meth g M d F A' _ c' (s.recs ++ [b]) w1 h6 (by unfold maxLen at p2; exact Nat.le_trans p1 (by omega)) hf2 hs2 p3 q1 (q2.blk.cell 0)).mono ?_
          rintro x w' ⟨Aa, ca, rfl, ho, hb⟩
          rw [full_len _ _ hf2] at ho ⊢
          obtain ⟨ga, ca', e6⟩ := own_someR ho (by omega)
          obtain ⟨A3, c3, e7, p4, p5⟩ := own_shape ho
          injection e6 with e8 _ e9
          injection e7 with e10 _ e11
          subst e8 e9 e11
          exact ⟨ga, ca, rfl, ho, hb, p4, by unfold maxLen at p5; omega⟩
        have HL : Hid (∀ w1 w2 G' v' vals' ga ca, RD w1 F M d → RWl w1 G' g M d.bytes { s with recs := s.recs ++ [b] } v' vals' → w1.ownsRow w.heap.size 5 1 (.slice (some ⟨ga, 0, none⟩) d.bytes ca) d.bytes (u8s (fullF d.bytes (s.recs ++ [b]))) → d.bytes ≤ ca → ca ≤ 9223372036854775807 → Below w1.heap.size w1 w2 →
            Calls Try.prog 56 #[.pointer (some ⟨g, 0, none⟩), .int .u64 s.epoch, .slice (some ⟨ga, 0, none⟩) d.bytes ca, .int .i64 ((usedF s.recs / 32 : Nat) : Int), .int .i64 (((usedF (s.recs ++ [b]) - 1) / 32 : Nat) : Int)] w2 (RLaid w2 F g M (.int .u64 s.epoch) v' (.int .i64 s.safe) (s.laid d b))) := fun w1 w2 G' v' vals' ga ca q1 q2 q3 q4 q5 hb => by
          have hga := q3.lt ga rfl
          have q2' := q2.below hb
          have q3' := own_below q3 hb (fun k e => by injection e with e; subst e; exact hga.2)
          have hblk := q2'.blk
          rw [show ({ s with recs := s.recs ++ [b] } : Lg).gone = false from hgone] at hblk
          refine rlay_meth g M s.epoch (usedF s.recs / 32) ((usedF (s.recs ++ [b]) - 1) / 32) d.bytes ca ga _ _ _ (fullF d.bytes (s.recs ++ [b])) d F w2 (by have := hok.epoch; omega) h6 (by omega) (by omega) (by rw [hu2] at hf2 ⊢; omega) rfl q4 q5 hgF (fun hf => ?_) (Rd.of_own q3') (q1.below hb) hblk
          have := hp.lt _ hf
          omega
        have HCP : Hid (∀ W, Rd W W.heap.size A nb b → Calls Try.prog 54 #[.slice A nb cb] W fun e w' => ∃ v, e = .returned v ∧ w'.ownsRow W.heap.size 5 1 v nb (u8s b) ∧ Below W.heap.size W w') := fun W q => copy_any A nb cb W.heap.size b W hnb q
        have Hok2 := Lib.hid hok2
        have Hap := Lib.hid hap1
        have Hby := Lib.hid hby
        have Hdown := Lib.hid hdown
        have hu0b : usedF s.recs ≤ 40000 := by omega
        have hu1b : usedF (s.recs ++ [b]) ≤ 40000 := by omega
        have hu1p : 1 ≤ usedF (s.recs ++ [b]) := by omega
        have hsz := hH
        obtain ⟨i0, hi0, hz0, hz1, hz2⟩ := info_parts Try.infoBytes
        have Hi0 := Lib.hid hi0
        have Hz0 := Lib.hid hz0
        have Hz1 := Lib.hid hz1
        have Hz2 := Lib.hid hz2
        clear hi0 hz0 hz1 hz2 hp hw hok hFG hFH hGH hH hdn hgF hb hbH hgone hrm hbl hlen h2 hs2 hu2 hfits hf2 hok2 hHb hbe hlay hby hdown hcnt hap1 hsz hroom hbs
        generalize hU0 : usedF s.recs = u0 at *
        generalize hU1 : usedF (s.recs ++ [b]) = u1 at *
        obtain ⟨j0, hj0⟩ : ∃ j0, u0 / 32 = j0 := ⟨_, rfl⟩
        obtain ⟨j1, hj1⟩ : ∃ j1, (u1 - 1) / 32 = j1 := ⟨_, rfl⟩
        have hj0i : (u0 : Int) / 32 = (j0 : Int) := by omega
        have hj1i : ((u1 : Int) - 1) / 32 = (j1 : Int) := by omega
        rw [hj0, hj1] at HL
        clear hj0 hj1 hU0 hU1
        go_enter Try.func20, Try.ntmps20
        go_wp2_with fail
        refine HC.out.mono ?_
        rintro x w1 ⟨rfl, hb1, hk⟩
        have Hq := Lib.hid (HG.out w1 (by rw [Hgn.out]; exact hb1) hk)
        have HRM1 := Lib.hid (HRM.out w1 Hq.out)
        clear hb1 hk HC HRM HG
        go_wp2_with fail
        refine HRM1.out.mono ?_
        rintro x w2 ⟨rfl, hb2⟩
        have Hq2 := Lib.hid (HB.out w1 w2 Hq.out hb2)
        have HU1 := Lib.hid (HU.out w2 Hq2.out)
        clear hb2 HRM1 Hq
        go_wp2_with fail
        refine HU1.out.mono ?_
        rintro x w3 ⟨rfl, hb3⟩
        have Hq3 := Lib.hid (HB.out w2 w3 Hq2.out hb3)
        have HB3 : Hid (∀ w4, Below w3.heap.size w3.drew w4 → RD w4 F M d ∧ RWl w4 G g M d.bytes s v vals ∧ Rd w4 w4.heap.size A nb b ∧ Kp G w w4) := fun w4 hb4 => HB.out w3 w4 Hq3.out ((Below.refl _ _).drew.trans hb4)
        clear hb3 HU1 Hq2 HU HB
        have c2 := Hq3.out.2.1.blk.cell 2
        have f2 := Hq3.out.2.1.blk.frozen 2
        simp only [List.getElem?_toArray, List.getElem?_cons_zero, List.getElem?_cons_succ] at c2
        have HCP1 := Lib.hid (HCP.out w3.drew (HB3.out w3.drew (Below.refl _ _)).2.2.1)
        obtain ⟨⟨r, d9⟩, hr⟩ : ∃ p, s.laid d b = p := ⟨_, rfl⟩
        rw [hr] at HL Hap Hby Hdown
        simp only at Hap
        clear hr
        have hw3 : w.heap.size ≤ w3.heap.size := Hq3.out.2.2.2.size
        have Hw3 := Lib.hid hw3
        clear hw3
        go_wp2
        go_region_law (first | ((refine step_append_app _ rfl _ _ 28 (by rfl) 0 40 i0 (.slice none 0 0) 1 24 Try.underlying28 Hi0.out Hz0.out Hz1.out Hz2.out rfl v vals.length vals (by rfl) (Hown.out (.cells #[.slice Ac nb cc] 40)) (some ⟨w4.heap.size, 0, none⟩) 1 1 [.slice Ac nb cc] (by rfl) rfl (by intro e; cases e) (one_new _ _ _ rfl) (by intro u hu; simp at hu; subst hu; rfl) (by unfold maxLen; omega) (by omega) (by simp) ?_); intro v' w5 happ; (have hk3 : Kp (fun k => v.ownBlock = some k) _ w5 := Kp.of_row happ.grow (fun g e => e)); (have kb := (Hd.out (.cells #[.slice Ac nb cc] 40)).2.1.blk.kp hk3 (fun e => (Hd.out (.cells #[.slice Ac nb cc] 40)).2.1.ne e)); (have k2 := kb.cell 2); (have kf := kb.frozen 2); (obtain ⟨Av, cv, rfl, _⟩ := own_shape happ.own)) | (go_simp; go_at_call 54; (refine HCP1.out.mono ?_; rintro x w4 ⟨vc, rfl, hoc, hbc⟩; (obtain ⟨Ac, cc, rfl, _⟩ := own_shape hoc); (have Hd : Hid (∀ o, RD (w4.alloc o) F M d ∧ RWl (w4.alloc o) G g M d.bytes s v vals ∧ Rd (w4.alloc o) (w4.alloc o).heap.size A nb b ∧ Kp G w (w4.alloc o)) := fun o => HB3.out _ (hbc.alloc hbc.size o)); (have Hown : Hid (∀ o, (w4.alloc o).ownsRow 0 40 1 v vals.length vals) := fun o => (Hd.out o).2.1.lst.row); (have c2b : w4.cell? ⟨g, 2, none⟩ = some v := (HB3.out w4 hbc).2.1.blk.cell 2); (have c2c : ∀ o, (w4.alloc o).cell? ⟨g, 2, none⟩ = some v := fun o => (Hd.out o).2.1.blk.cell 2); (have Hoc := Lib.hid hoc); (have Hbc := Lib.hid hbc); clear hoc hbc)))
        all_goals
          have hq := Hd.out (.cells #[.slice Ac nb cc] 40)
          have hoc2 : (w4.alloc (.cells #[.slice Ac nb cc] 40)).ownsRow w.heap.size 5 1 (.slice Ac nb cc) nb (u8s b) := own_mono (own_below Hoc.out ((Below.refl w4.heap.size w4).alloc (Nat.le_refl _) (.cells #[.slice Ac nb cc] 40)) (fun k e => (Hoc.out.lt k e).2)) Hw3.out
          obtain ⟨hP, hPk⟩ := RWl.pushed hq.2.1 hoc2 hq.2.2.2.size happ (Hok2.out _)
          obtain ⟨a1, a2, a3, a4, a5, a6, a7, a8⟩ := hHH.out
          have hR6 := hq.1.kp hPk a1
          have hk6 := hq.2.2.2.trans hPk
          have HG6 : Hid (∀ k, (G k ∨ (w.heap.size ≤ k ∧ k < w5.heap.size)) → ¬ F k) := fun k e hf => by
            have h1 := a4 k (a2 k hf)
            rcases e with e | e
            · exact a1 k hf e
            · omega
          have HG6b : Hid (∀ k, (G k ∨ (w.heap.size ≤ k ∧ k < w5.heap.size)) → G k ∨ w.heap.size ≤ k) := fun k e => e.imp id And.left
          generalize hG6 : (fun k => G k ∨ (w.heap.size ≤ k ∧ k < w5.heap.size)) = G6 at hP
          have HG6 : Hid (∀ k, G6 k → ¬ F k) := by rw [← hG6]; exact HG6
          have HG6b : Hid (∀ k, G6 k → G k ∨ w.heap.size ≤ k) := by rw [← hG6]; exact HG6b
          generalize w5.setCell ⟨g, 2, none⟩ (.slice Av (vals.length + 1) cv) = w6 at *
          have Hq6 : Hid (RD w6 F M d ∧ RWl w6 G6 g M d.bytes { s with recs := s.recs ++ [b] } (.slice Av (vals.length + 1) cv) (vals ++ [.slice Ac nb cc]) ∧ Kp G w w6) := ⟨hR6, hP, hk6⟩
          have e2 := hP.blk.cell 2
          have HF6 := Lib.hid (HFU.out w6 G6 _ _ _ _ hR6 hP)
          simp only [List.getElem?_toArray, List.getElem?_cons_zero, List.getElem?_cons_succ] at e2
          clear hq hoc2 hP hPk hR6 hk6 happ hk3 kb k2 kf c2 c2b c2c f2 Hd Hown Hoc Hbc HB3 HCP HCP1 HFU hG6 Hq3 a1 a2 a3 a4 a5 a6 a7 a8
          go_wp2_with fail
          refine HF6.out.mono ?_
          rintro x w7 ⟨ga, ca, rfl, ho7, hb7, p1, p2⟩
          have Hq7 : Hid (RD w7 F M d ∧ RWl w7 G6 g M d.bytes { s with recs := s.recs ++ [b] } (.slice Av (vals.length + 1) cv) (vals ++ [.slice Ac nb cc]) ∧ Kp G w w7) := ⟨Hq6.out.1.below hb7, Hq6.out.2.1.below hb7, Hq6.out.2.2.trans (Kp.of_below hb7)⟩
          have Ho7 : Hid (w7.ownsRow w.heap.size 5 1 (.slice (some ⟨ga, 0, none⟩) d.bytes ca) d.bytes (u8s (fullF d.bytes (s.recs ++ [b])))) := own_mono ho7 Hq6.out.2.2.size
          have e1 := Hq7.out.2.1.blk.cell 1
          simp only [List.getElem?_toArray, List.getElem?_cons_zero, List.getElem?_cons_succ] at e1
          have HU7 := Lib.hid (HU2.out w7.drew G6 _ _ (Hq7.out.2.1.below (Below.refl _ _).drew))
          clear ho7 hb7 HF6 Hq6 e2 HU2
          have hwr1 : IntKind.i64.wrap ((u1 : Int) - 1) = (u1 : Int) - 1 := by rw [IntKind.wrap_i64]; omega
          have hv0 : IntKind.i64.wrap (j0 : Int) = (j0 : Int) := by rw [IntKind.wrap_i64]; omega
          have hv1 : IntKind.i64.wrap (((u1 : Int) - 1).tdiv 32) = (j1 : Int) := by rw [Int.tdiv_eq_ediv_of_nonneg (by omega), hj1i, IntKind.wrap_i64]; omega
          go_wp2
          have hge0 : 0 ≤ (u1 : Int) - 1 := by omega
          clear HEnd Hi0 Hz0 Hz1 Hz2
          have e1d : w7.drew.cell? ⟨g, 1, none⟩ = some (.int .u64 s.epoch) := e1
          go_region_held3 (fun w' => w'.cell? ⟨g, 1, none⟩ = some (.int .u64 s.epoch)) (first | exact e1d | exact e1b | exact e1c)
            (first | (go_at_call 53; refine HU7.out.mono ?_; rintro x w8 ⟨rfl, hb8⟩; (have Hb8 : Hid (Below w7.heap.size w7 w8) := (Below.refl _ _).drew.trans hb8); (have e1b := (Hb8.out.cell (p := ⟨g, 1, none⟩) (World.block_lt_of_cell? _ _ e1)).trans e1); clear hb8) | (go_at_call 56; (try rw [hv0]); (try rw [hv1]); refine (HL.out w7 w8 G6 _ _ ga ca Hq7.out.1 Hq7.out.2.1 Ho7.out p1 p2 Hb8.out).mono ?_; rintro x w9 ⟨rfl, F9, hp9, hk9, hF9, hb9⟩; (have e1c := hb9.cell 1); (simp only [List.getElem?_toArray, List.getElem?_cons_zero, List.getElem?_cons_succ] at e1c)))
          all_goals
            obtain ⟨a1, a2, a3, a4, a5, a6, a7, a8⟩ := hHH.out
            have hq8 := Hq7.out.2.1.below Hb8.out
            have hkk : Kp (fun k => F k ∨ G k) w w9 := ((Hq7.out.2.2.trans (Kp.of_below Hb8.out)).mono fun k e => .inr e).trans (hk9.mono fun k e => e.imp id fun e => by have e : k = g := e; rw [e]; exact a5)
            have hF9w : ∀ k, F9 k → F k ∨ w.heap.size ≤ k := fun k hf => (hF9 k hf).imp id fun h => Nat.le_trans (Hq7.out.2.2.trans (Kp.of_below (F := G) Hb8.out)).size h
            have hd9 : ∀ k, F9 k → ¬ G6 k := fun k hf hg => by
              rcases hF9 k hf with h | h
              · exact HG6.out k hg h
              · have := hq8.lt k hg; omega
            have HFin : Hid (∃ H', RB w9 H' g M (s.append d b).2.2 (s.append d b).2.1 ∧ Mv H H' w w9) := by
              by_cases hr0 : r = 0
              · have HR : s.append d b = (0, { s with recs := s.recs ++ [b] }, d9) := Hap.out.trans (if_pos hr0)
                rw [HR]
                have hfl : decide (r ≠ 0) = s.gone := by rw [Hgn.out]; simp [hr0]
                try simp only at hb9
                rw [hfl] at hb9
                exact rb_step a2 a3 hp9 (by rw [Hby.out]; exact hq8.turnF (s' := { s with recs := s.recs ++ [b] }) hk9 (fun k hf hg => HG6.out k hg hf) hb9 rfl (Hok2.out _)) hd9 hkk hF9w HG6b.out a4 (fun _ => Hdown.out hr0)
              · have HR : s.append d b = (r, { s with recs := s.recs ++ [b], gone := true }, d9) := Hap.out.trans (if_neg hr0)
                rw [HR]
                have hfl : decide (r ≠ 0) = true := by simp [hr0]
                try simp only at hb9
                rw [hfl] at hb9
                exact rb_step a2 a3 hp9 (by rw [Hby.out]; exact hq8.turnF (s' := { s with recs := s.recs ++ [b], gone := true }) hk9 (fun k hf hg => HG6.out k hg hf) hb9 rfl (Hok2.out _)) hd9 hkk hF9w HG6b.out a4 (fun e => by cases e)
            have HR1 : Hid ((s.append d b).1 = r) := by
              show _ = _
              rw [Hap.out]
              by_cases hr0 : r = 0
              · rw [if_pos hr0, hr0]
              · rw [if_neg hr0]
            clear hq8 hkk hF9w hd9 hp9 hk9 hF9 hb9 e1 e1b hwr1 HU7 HL a1 a2 a3 a4 a5 a6 a7 a8
            go_wp2
            go_ret
            exact (⟨by rw [HR1.out], HFin.out⟩ : RActed w H g M (s.append d b) _ _)
end Go.Proofs.Ytpfccbojllabjaa
