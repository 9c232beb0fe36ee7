/- Of the proofs of layer 4, merged: RWal9, RWal10, RWal11, PWal14, WLaw1, WLaw2, WLaw3, WalP4, WLaw4, WLaw5, WLaw6, WLaw7, WLaw8, WalP5, WKnown. -/
import Derived.Test.YtpfccbojllabjaaMPWal6
import Derived.Test.YtpfccbojllabjaaMFrameP
import Derived.Laws.OwnMore
import Derived.Test.YtpfccbojllabjaaMFrameGet
import Derived.Test.YtpfccbojllabjaaM1Append2
import Derived.Deep.RegionHeld3
import Derived.Deep.QuietTactic
import Derived.Test.YtpfccbojllabjaaMPDisk5
import Derived.Test.YtpfccbojllabjaaMRDisk4
import Derived.Test.YtpfccbojllabjaaMLent
import Derived.Test.YtpfccbojllabjaaMKnown2

/- The document's log: Reset. -/
namespace Go.Proofs.Ytpfccbojllabjaa
open Go.RowKit

set_option maxRecDepth 100000 in
set_option maxHeartbeats 8000000 in
theorem rreset_any (g M : Nat) (d : Dk) (s : Lg) (H : Nat → Prop) (A : Option Addr) (nl cl : Nat) (l : List (List UInt8)) (w : World) (hwl : d.waits.length ≤ 800000000) (h6 : 6 ≤ d.safe.length)
    (hnl : nl ≤ 9223372036854775807) (hst : ∀ w', Kp H w w' → Parts w' w'.heap.size A nl l) (h : RB w H g M d s) :
    Calls Try.prog 28 #[.pointer (some ⟨g, 0, none⟩), .slice A nl cl] w (RActed w H g M (s.reset d l)) := by
  obtain ⟨F, G, v, vals, hp, hw, hFG, hFH, hGH, hH, hdn⟩ := h
  have hok := hw.ok
  have hep := hok.epoch
  have hlen := hp.len
  have hbs : d.bytes ≤ 40000 := by unfold Dk.bytes Dk.half halfN; omega
  have hgF : ¬ F g := fun hf => hFG _ hf hw.self
  have HC := Lib.hid (rgone_meth g M d s v w hdn hw.blk hp.downCell)
  have HG : Hid (∀ w1, Bk w1 g 57 #[.pointer (some ⟨M, 0, none⟩), .int .u64 s.epoch, v, .int .i64 s.safe, .bool s.gone] → Kp (· = g) w w1 → RD w1 F M d ∧ RWl w1 G g M d.bytes s v vals ∧ Kp G w w1) := fun w1 hb1 hk =>
    ⟨hp.kp hk (fun k hf e => by have e : k = g := e; subst e; exact hgF hf), hw.turn hk hb1 rfl hok, hk.mono fun k e => by have e : k = g := e; rw [e]; exact hw.self⟩
  have HB : Hid (∀ w1 w2, RD w1 F M d ∧ RWl w1 G g M d.bytes s v vals ∧ Kp G w w1 → Below w1.heap.size w1 w2 → RD w2 F M d ∧ RWl w2 G g M d.bytes s v vals ∧ Kp G w w2) := fun w1 w2 q hb2 =>
    ⟨q.1.below hb2, q.2.1.below hb2, q.2.2.trans (Kp.of_below hb2)⟩
  have hHH : Hid ((∀ k, F k → ¬ G k) ∧ (∀ k, F k → H k) ∧ (∀ k, G k → H k) ∧ (∀ k, H k → k < w.heap.size) ∧ G g ∧ ¬ F g ∧ (s.gone = false → d.down = false) ∧ ∀ k, G k → k < w.heap.size) := ⟨hFG, hFH, hGH, hH, hw.self, hgF, hdn, hw.lt⟩
  have HEnd : Hid (∀ w1, RD w1 F M d ∧ RWl w1 G g M d.bytes s v vals ∧ Kp G w w1 → ∃ H', RB w1 H' g M d s ∧ Mv H H' w w1) := fun w1 q => by
    obtain ⟨a1, a2, a3, a4, a5, a6, a7, a8⟩ := hHH.out
    exact rb_step a2 a3 q.1 q.2.1 a1 (q.2.2.mono fun k e => .inr e) (fun k e => .inl e) (fun k e => .inl e) a4 a7
  have HFr : Hid (∀ w1, Kp G w w1 → Calls Try.prog 63 #[.slice A nl cl] w1 (FramesR l w1)) := fun w1 q => rframes_any A nl cl l w1 hnl (hst w1 (q.mono hGH))
  have hnE := nextE_frames (e := s.epoch) (l := l) hbs
  cases hgone : s.gone with
  | true =>
    have HR : Hid (s.reset d l = (6, s, d)) := by show _ = _; unfold Lg.reset; rw [if_pos hgone]
    rw [hgone] at HC
    have Hgn := Lib.hid hgone
    clear hp hw hok hFG hFH hGH hH hdn hgF hgone hlen hst hnE hep HFr
    go_enter Try.func28, Try.ntmps28
    go_wp2_with fail
    refine HC.out.mono ?_
    rintro x w1 ⟨rfl, hb1, hk⟩
    have HF := Lib.hid (HEnd.out w1 (HG.out w1 (by rw [Hgn.out]; exact hb1) hk))
    clear hb1 hk HC HG HEnd HB
    go_wp2
    go_ret
    unfold RActed
    rw [HR.out]
    exact ⟨rfl, HF.out⟩
  | false =>
    rw [hgone] at HC
    have Hgn := Lib.hid hgone
    have hre : s.reset d l = if nextE d.bytes s.epoch l ≠ 0 then (nextE d.bytes s.epoch l, s, d)
      else if (settleS d (s.epoch + 1) l).1 = 0 then (0, { epoch := s.epoch + 1, recs := l, safe := l.length, gone := false }, (settleS d (s.epoch + 1) l).2)
      else ((settleS d (s.epoch + 1) l).1, { s with gone := true }, (settleS d (s.epoch + 1) l).2) := by
      unfold Lg.reset
      rw [if_neg (by simp [hgone])]
    have HH : Hid (∀ W, RD W F M d → Calls Try.prog 64 #[.pointer (some ⟨M, 0, none⟩)] W fun x w' => x = .returned (.int .i64 d.half) ∧ W = w') := fun W q => rhalf_meth M d F W h6 q
    have hbe : d.bytes = d.half * 32 := rfl
    have hhb : d.half ≤ 1024 := by unfold Dk.half halfN; omega
    have hfl : (framesA l).1.length ≤ 65536 := by
      unfold framesA
      split
      · simp
      split
      · simp
      · rename_i h2; show usedF l ≤ _; omega
    have HFX : Hid (∀ w1, FramesR l w1 = fun e w' => ∃ A c, e = .returned (.tuple #[.slice A (framesA l).1.length c, .int .i64 ((framesA l).2 : Nat)]) ∧ w'.ownsRow w1.heap.size 5 1 (.slice A (framesA l).1.length c) (framesA l).1.length (u8s (framesA l).1) ∧ Below w1.heap.size w1 w') := fun w1 => rfl
    obtain ⟨fe, hfe⟩ : ∃ fe, (framesA l).2 = fe := ⟨_, rfl⟩
    obtain ⟨fl, hfll⟩ : ∃ fl, (framesA l).1.length = fl := ⟨_, rfl⟩
    rw [hfe, hfll] at hnE HFX
    rw [hfll] at hfl
    have Hfe := Lib.hid hfe
    have Hfl := Lib.hid hfll
    clear hfe hfll
    by_cases he0 : fe = 0
    · subst he0
      by_cases hful : d.bytes < fl
      · have HR : Hid (s.reset d l = (5, s, d)) := by
          show _ = _
          rw [hre, hnE]
          simp [hful]
        have hfi : (32 : Int) * (d.half : Int) < (fl : Int) := by omega
        clear hp hw hok hFG hFH hGH hH hdn hgF hgone hlen hst hnE hep hre hful
        generalize d.half = H0 at *
        go_enter Try.func28, Try.ntmps28
        go_wp2_with fail
        refine HC.out.mono ?_
        rintro x w1 ⟨rfl, hb1, hk⟩
        have Hq := Lib.hid (HG.out w1 (by rw [Hgn.out]; exact hb1) hk)
        have HFr1 := HFr.out w1 Hq.out.2.2
        rw [HFX.out] at HFr1
        have HFr1 := Lib.hid HFr1
        clear hb1 hk HC HG HFr HFX
        go_wp2_with fail
        refine HFr1.out.mono ?_
        rintro x w2 ⟨A2, c2, rfl, _, hb2⟩
        have Hq2 := Lib.hid (HB.out w1 w2 Hq.out hb2)
        have e0 := Hq2.out.2.1.blk.cell 0
        simp only [List.getElem?_toArray, List.getElem?_cons_zero] at e0
        have HH2 := Lib.hid (HH.out w2 Hq2.out.1)
        have HF := Lib.hid (HEnd.out w2 Hq2.out)
        clear hb2 HFr1 Hq HB HH HEnd
        go_wp2_with fail
        refine HH2.out.mono ?_
        rintro x w' ⟨rfl, rfl⟩
        go_wp2
        go_ret
        unfold RActed
        rw [HR.out]
        exact ⟨rfl, HF.out⟩
      · have hfi : ¬ (32 : Int) * (d.half : Int) < (fl : Int) := by omega
        by_cases hmax : s.epoch + 1 = 4611686018427387904
        · have HR : Hid (s.reset d l = (5, s, d)) := by
            show _ = _
            rw [hre, hnE]
            simp [hmax]
          have hmi : (IntKind.u64.wrap ((s.epoch : Int) + 1) == 4611686018427387904) = true := by rw [IntKind.wrap_u64]; simp; omega
          clear hp hw hok hFG hFH hGH hH hdn hgF hgone hlen hst hnE hep hre hful hmax
          generalize d.half = H0 at *
          go_enter Try.func28, Try.ntmps28
          go_wp2_with fail
          refine HC.out.mono ?_
          rintro x w1 ⟨rfl, hb1, hk⟩
          have Hq := Lib.hid (HG.out w1 (by rw [Hgn.out]; exact hb1) hk)
          have HFr1 := HFr.out w1 Hq.out.2.2
          rw [HFX.out] at HFr1
          have HFr1 := Lib.hid HFr1
          clear hb1 hk HC HG HFr HFX
          go_wp2_with fail
          refine HFr1.out.mono ?_
          rintro x w2 ⟨A2, c2, rfl, _, hb2⟩
          have Hq2 := Lib.hid (HB.out w1 w2 Hq.out hb2)
          have e0 := Hq2.out.2.1.blk.cell 0
          have e1 := Hq2.out.2.1.blk.cell 1
          simp only [List.getElem?_toArray, List.getElem?_cons_zero, List.getElem?_cons_succ] at e0 e1
          have HH2 := Lib.hid (HH.out w2 Hq2.out.1)
          have HF := Lib.hid (HEnd.out w2 Hq2.out)
          clear hb2 HFr1 Hq HB HH HEnd
          go_wp2_with fail
          refine HH2.out.mono ?_
          rintro x w' ⟨rfl, rfl⟩
          go_wp2
          go_ret
          unfold RActed
          rw [HR.out]
          exact ⟨rfl, HF.out⟩
        · have hn0 : nextE d.bytes s.epoch l = 0 := by rw [hnE]; simp [hful, hmax]
          obtain ⟨q1, q2, q3⟩ := nextE_zero hn0
          rw [if_neg (fun h => h hn0)] at hre
          have hh2 : 2 ≤ d.half := (Dk.base_le h6 s.epoch).2.2
          have HFU : Hid (∀ w1, RD w1 F M d ∧ RWl w1 G g M d.bytes s v vals ∧ Kp G w w1 → Calls Try.prog 55 #[.pointer (some ⟨g, 0, none⟩), .slice A nl cl] w1 fun x w' => ∃ ga ca, x = .returned (.slice (some ⟨ga, 0, none⟩) d.bytes ca) ∧ w'.ownsRow w1.heap.size 5 1 (.slice (some ⟨ga, 0, none⟩) d.bytes ca) d.bytes (u8s (fullF d.bytes l)) ∧ Below w1.heap.size w1 w' ∧ d.bytes ≤ ca ∧ ca ≤ 9223372036854775807) := fun w1 q => by
            refine (rfull_meth g M d F A nl cl l w1 h6 hnl q3 q1 (hst w1 (q.2.2.mono hGH)) q.1 (q.2.1.blk.cell 0)).mono ?_
            rintro x w' ⟨Aa, ca, rfl, ho, hb⟩
            rw [full_len _ _ q3] at ho ⊢
            obtain ⟨ga, ca', e6⟩ := own_someR ho (by omega)
            obtain ⟨A3, c3, e7, p4, p5⟩ := own_shape ho
            injection e6 with e8 _ e9
            injection e7 with e10 _ e11
            subst e8 e9 e11
            exact ⟨ga, ca, rfl, ho, hb, p4, by unfold maxLen at p5; omega⟩
          have HL : Hid (∀ w1 w2 ga ca, RD w1 F M d ∧ RWl w1 G g M d.bytes s v vals ∧ Kp G w w1 → w1.ownsRow w.heap.size 5 1 (.slice (some ⟨ga, 0, none⟩) d.bytes ca) d.bytes (u8s (fullF d.bytes l)) → d.bytes ≤ ca → ca ≤ 9223372036854775807 → Below w1.heap.size w1 w2 →
              Calls Try.prog 56 #[.pointer (some ⟨g, 0, none⟩), .int .u64 (s.epoch + 1 : Nat), .slice (some ⟨ga, 0, none⟩) d.bytes ca, .int .i64 0, .int .i64 ((d.half - 1 : Nat) : Int)] w2 (RLaid w2 F g M (.int .u64 s.epoch) v (.int .i64 s.safe) (layS (fullF d.bytes l) (d.base (s.epoch + 1)) 0 d.half d))) := fun w1 w2 ga ca q p1 p2 p3 hb => by
            have hga := p1.lt ga rfl
            have q' := q.2.1.below hb
            have p1' := own_below p1 hb (fun k e => by injection e with e; subst e; exact hga.2)
            have hblk := q'.blk
            rw [hgone] at hblk
            have hgF2 : ¬ F ga := fun hf => by have := hp.lt _ hf; omega
            have := rlay_meth g M (s.epoch + 1) 0 (d.half - 1) d.bytes ca ga _ _ _ (fullF d.bytes l) d F w2 (by omega) h6 (by omega) (by omega) (by omega) rfl p2 p3 hgF hgF2 (Rd.of_own p1') (q.1.below hb) hblk
            rw [show d.half - 1 + 1 - 0 = d.half by omega] at this
            exact this
          have hS : settleS d (s.epoch + 1) l = if (layS (fullF d.bytes l) (d.base (s.epoch + 1)) 0 d.half d).1 ≠ 0 then layS (fullF d.bytes l) (d.base (s.epoch + 1)) 0 d.half d
            else if (layS (fullF d.bytes l) (d.base (s.epoch + 1)) 0 d.half d).2.sync.1 ≠ 0 then (layS (fullF d.bytes l) (d.base (s.epoch + 1)) 0 d.half d).2.sync
            else if ((layS (fullF d.bytes l) (d.base (s.epoch + 1)) 0 d.half d).2.sync.2.write (((s.epoch + 1) % 2 : Nat) : Int) (headB (s.epoch + 1))).1 ≠ 0 then (layS (fullF d.bytes l) (d.base (s.epoch + 1)) 0 d.half d).2.sync.2.write (((s.epoch + 1) % 2 : Nat) : Int) (headB (s.epoch + 1))
            else ((layS (fullF d.bytes l) (d.base (s.epoch + 1)) 0 d.half d).2.sync.2.write (((s.epoch + 1) % 2 : Nat) : Int) (headB (s.epoch + 1))).2.sync := rfl
          have hw1 := layS_waits (fullF d.bytes l) (d.base (s.epoch + 1)) d.half 0 d
          have hl1 := layS_len (fullF d.bytes l) (d.base (s.epoch + 1)) d.half 0 d
          obtain ⟨⟨r1, d1⟩, hr1⟩ : ∃ p, layS (fullF d.bytes l) (d.base (s.epoch + 1)) 0 d.half d = p := ⟨_, rfl⟩
          rw [hr1] at HL hS hw1 hl1
          simp only at hw1 hl1
          have HS0 := Lib.hid hS
          have Hdn4 : Hid ((settleS d (s.epoch + 1) l).1 = 0 → (settleS d (s.epoch + 1) l).2.down = false) := settle_down
          have Hby4 : Hid ((settleS d (s.epoch + 1) l).2.bytes = d.bytes) := bytes_of (settle_len _ _ _)
          have Hok4 : Hid (({ epoch := s.epoch + 1, recs := l, safe := l.length, gone := false } : Lg).Ok d.bytes) := ⟨q1, q3, Nat.lt_of_le_of_ne hep hmax, Nat.le_refl _⟩
          have Hokg : Hid (({ s with gone := true } : Lg).Ok d.bytes) := ⟨hok.small, hok.fits, hok.epoch, hok.safe⟩
          have Hre := Lib.hid hre
          have hep1 : s.epoch + 1 < 18446744073709551616 := by omega
          have Hbs := Lib.hid hbs
          have HstI : Hid (∀ w', Kp H w w' → Parts w' w'.heap.size A nl l) := hst
          have hmi : (IntKind.u64.wrap ((s.epoch : Int) + 1) == 4611686018427387904) = false := by rw [IntKind.wrap_u64]; simp; omega
          obtain ⟨e1, he1⟩ : ∃ e1, s.epoch + 1 = e1 := ⟨_, rfl⟩
          have hv0 : IntKind.u64.wrap ((s.epoch : Int) + 1) = (e1 : Int) := by rw [IntKind.wrap_u64]; omega
          rw [he1] at HL HS0 Hdn4 Hby4 Hok4 Hre hep1
          have Hv0 := Lib.hid hv0
          have Hmi := Lib.hid hmi
          clear hp hw hok hFG hFH hGH hH hdn hgF hgone hlen hst hnE hep hre hful hmax hn0 q1 q2 q3 hr1 hS hbs he1 hv0
          obtain ⟨h1, hh1⟩ : ∃ h1, d.half - 1 = h1 := ⟨_, rfl⟩
          have hv1 : IntKind.i64.wrap ((d.half : Int) - 1) = (h1 : Int) := by rw [IntKind.wrap_i64]; omega
          rw [hh1] at HL
          generalize hH0 : d.half = H0 at *
          clear hh1 hH0 hbe
          go_enter Try.func28, Try.ntmps28
          go_wp2_with fail
          refine HC.out.mono ?_
          rintro x w1 ⟨rfl, hb1, hk⟩
          have Hq := Lib.hid (HG.out w1 (by rw [Hgn.out]; exact hb1) hk)
          have HFr1 := HFr.out w1 Hq.out.2.2
          rw [HFX.out] at HFr1
          have HFr1 := Lib.hid HFr1
          clear hb1 hk HC HG HFr HFX
          go_wp2_with fail
          refine HFr1.out.mono ?_
          rintro x w2 ⟨A2, c2, rfl, _, hb2⟩
          have Hq2 := Lib.hid (HB.out w1 w2 Hq.out hb2)
          have e0 := Hq2.out.2.1.blk.cell 0
          have e1c := Hq2.out.2.1.blk.cell 1
          simp only [List.getElem?_toArray, List.getElem?_cons_zero, List.getElem?_cons_succ] at e0 e1c
          have HH2 := Lib.hid (HH.out w2 Hq2.out.1)
          clear hb2 HFr1 Hq
          go_wp2_with fail
          refine HH2.out.mono ?_
          rintro x w' ⟨rfl, rfl⟩
          have hmi := Hmi.out
          go_wp2
          have e0d : w2.drew.cell? ⟨g, 0, none⟩ = some (.pointer (some ⟨M, 0, none⟩)) := e0
          have e1d : w2.drew.cell? ⟨g, 1, none⟩ = some (.int .u64 s.epoch) := e1c
          have hv0 := Hv0.out
          have hsz2 : w.heap.size ≤ w2.heap.size := Hq2.out.2.2.size
          have Hsz2 := Lib.hid hsz2
          clear hsz2
          go_region_held3 (fun w' => w'.cell? ⟨g, 0, none⟩ = some (.pointer (some ⟨M, 0, none⟩)) ∧ w'.cell? ⟨g, 1, none⟩ = some (.int .u64 s.epoch)) (first | exact ⟨e0d, e1d⟩ | exact ⟨f0, f1⟩ | exact ⟨k0, k1⟩)
            (first | (go_at_call 55; refine (HFU.out w2.drew (HB.out w2 w2.drew Hq2.out (Below.refl _ _).drew)).mono ?_; rintro x w3 ⟨ga, ca, rfl, ho3, hb3, p1, p2⟩; (have Hq3 := Lib.hid (HB.out w2 w3 Hq2.out ((Below.refl _ _).drew.trans hb3))); (have Ho3 := Lib.hid (own_mono ho3 Hsz2.out)); (have f0 : w3.cell? ⟨g, 0, none⟩ = some (.pointer (some ⟨M, 0, none⟩)) := Hq3.out.2.1.blk.cell 0); (have f1 : w3.cell? ⟨g, 1, none⟩ = some (.int .u64 s.epoch) := Hq3.out.2.1.blk.cell 1); clear ho3 hb3) | (go_at_call 64; refine (HH.out w3 Hq3.out.1).mono ?_; rintro x w' ⟨rfl, rfl⟩) | (go_at_call 56; (try rw [hv0]); (try rw [hv1]); refine (HL.out w3 w3 ga ca Hq3.out Ho3.out p1 p2 (Below.refl _ _)).mono ?_; rintro x w5 ⟨rfl, F5, hp5, hk5, hF5, hb5⟩; (have k0 : w5.cell? ⟨g, 0, none⟩ = some (.pointer (some ⟨M, 0, none⟩)) := hb5.cell 0); (have k1 : w5.cell? ⟨g, 1, none⟩ = some (.int .u64 s.epoch) := hb5.cell 1)))
          have HErrF : Hid (∀ (r : Int) (dd : Dk), settleS d e1 l = (r, dd) → r ≠ 0 → s.reset d l = (r, { s with gone := true }, dd) ∧ dd.bytes = d.bytes) := fun r dd h hr => by
            have hb := Hby4.out
            have hr2 := Hre.out
            rw [h] at hb hr2
            exact ⟨hr2.trans (if_neg hr), hb⟩
          have hkk : Kp (fun k => F k ∨ G k) w w5 := (Hq3.out.2.2.mono fun k e => .inr e).trans (hk5.mono fun k e => e.imp id fun e => by have e : k = g := e; rw [e]; exact hHH.out.2.2.2.2.1)
          have hF5w : ∀ k, F5 k → F k ∨ w.heap.size ≤ k := fun k hf => (hF5 k hf).imp id fun h => Nat.le_trans Hq3.out.2.2.size h
          have hd5 : ∀ k, F5 k → ¬ G k := fun k hf hg => by
            rcases hF5 k hf with h | h
            · exact hHH.out.1 k h hg
            · have := Hq3.out.2.1.lt k hg; omega
          clear e0 e1c e0d e1d f0 f1 k1 HH HB HL HFU HH2 Ho3 hmi
          by_cases r1n : r1 ≠ 0
          · have hfl1 : decide ((r1, d1).1 ≠ 0) = true := by simp [r1n]
            rw [hfl1] at hb5
            have hmid : RMid w F G g M d.bytes { s with gone := true } v vals d1 F5 w5 := ⟨hp5, Hq3.out.2.1.turnF (s' := { s with gone := true }) hk5 hHH.out.1 hb5 rfl Hokg.out, hkk, hF5w, hd5⟩
            obtain ⟨a1, a2, a3, a4, a5, a6, a7, a8⟩ := hHH.out
            have hst5 : settleS d e1 l = (r1, d1) := HS0.out.trans (if_pos r1n)
            have Hmid := Lib.hid hmid
            have Hst5 := Lib.hid hst5
            clear hmid hst5 hkk hF5w hd5 hp5 hk5 hF5 hb5 hfl1 Hq3 Hq2
            have hx := HErrF.out r1 d1 Hst5.out r1n
            have HFin := Lib.hid (Hmid.out.err a2 a3 a4 hx.2 Hokg.out)
            have HRx := Lib.hid hx.1
            have c4 := Hmid.out.wl.blk.cell 4
            have f4 := Hmid.out.wl.blk.frozen 4
            simp only [List.getElem?_toArray, List.getElem?_cons_zero, List.getElem?_cons_succ] at c4
            have hne1 : (r1 == 0) = false := by simpa using r1n
            have hne2 : (r1 != 0) = true := by simpa using r1n
            clear hx r1n a1 a2 a3 a4 a5 a6 a7 a8
            go_wp2
            go_ret
            unfold RActed
            rw [HRx.out]
            exact ⟨rfl, HFin.out⟩
          · have r10 : r1 = 0 := Classical.byContradiction r1n
            subst r10
            have hfl1 : decide (((0 : Int), d1).1 ≠ 0) = s.gone := by rw [Hgn.out]; rfl
            rw [hfl1] at hb5
            have Hmid : Hid (RMid w F G g M d.bytes s v vals d1 F5 w5) := ⟨hp5, Hq3.out.2.1.turnF (s' := s) hk5 hHH.out.1 hb5 rfl Hq3.out.2.1.ok, hkk, hF5w, hd5⟩
            have HS1 := HS0.out
            rw [if_neg r1n] at HS1
            have hwb : d1.waits.length ≤ 900000000 := by omega
            have HSy := rsync_any M d1 F5 w5 (by omega) Hmid.out.rd
            have hl2 := Dk.sync_len d1
            have hw2 : d1.sync.2.waits.length ≤ 900000000 := by
              unfold Dk.sync
              split
              · simp
              · rw [d1.act_same.2]; omega
            obtain ⟨⟨r2, d2⟩, hr2⟩ : ∃ p, d1.sync = p := ⟨_, rfl⟩
            rw [hr2] at HSy HS1 hl2 hw2
            simp only at hl2 hw2
            have HSy := Lib.hid HSy
            have HS2 := Lib.hid HS1
            clear hkk hF5w hd5 hp5 hk5 hF5 hb5 hfl1 Hq3 Hq2 HS0 HS1 hr2 r1n hw1 hwb
            go_wp2_with fail
            refine HSy.out.mono ?_
            rintro x w6 ⟨rfl, F6, hp6, hm6⟩
            have Hmid6 : Hid (RMid w F G g M d.bytes s v vals d2 F6 w6) := Hmid.out.step hp6 hm6 (fun k hg hf => hHH.out.1 k hf hg) hHH.out.2.2.2.2.2.2.2
            clear hp6 hm6 HSy Hmid k0
            by_cases r2n : r2 ≠ 0
            · have Hst6 : Hid (settleS d e1 l = (r2, d2)) := HS2.out.trans (if_pos r2n)
              obtain ⟨a1, a2, a3, a4, a5, a6, a7, a8⟩ := hHH.out
              have hx := HErrF.out r2 d2 Hst6.out r2n
              have HFin := Lib.hid (Hmid6.out.err a2 a3 a4 hx.2 Hokg.out)
              have HRx := Lib.hid hx.1
              have c4 := Hmid6.out.wl.blk.cell 4
              have f4 := Hmid6.out.wl.blk.frozen 4
              simp only [List.getElem?_toArray, List.getElem?_cons_zero, List.getElem?_cons_succ] at c4
              have hne1 : (r2 == 0) = false := by simpa using r2n
              have hne2 : (r2 != 0) = true := by simpa using r2n
              clear hx r2n a1 a2 a3 a4 a5 a6 a7 a8
              go_wp2
              go_ret
              unfold RActed
              rw [HRx.out]
              exact ⟨rfl, HFin.out⟩
            · have r20 : r2 = 0 := Classical.byContradiction r2n
              subst r20
              have HS3 : Hid (settleS d e1 l = if (d2.write (↑(e1 % 2)) (headB e1)).fst ≠ 0 then d2.write (↑(e1 % 2)) (headB e1) else (d2.write (↑(e1 % 2)) (headB e1)).snd.sync) := HS2.out.trans (if_neg r2n)
              clear HS2 r2n
              obtain ⟨i0, hi0, hz0, hz1, hz2⟩ := info_parts Try.infoU8
              have HC1 : Hid (∀ W, Calls Try.prog 66 #[.int .u64 e1] W fun e w' => ∃ v, e = .returned v ∧ w'.ownsRow W.heap.size 5 1 v (Lib.uvarint e1).length (u8s (Lib.uvarint e1)) ∧ Below W.heap.size W w') := fun W => refPut_any e1 W hep1
              have hlu := Lib.uvarint_length64 hep1
              have hhl := headB_len e1 hep1
              have HHd : Hid (headB e1 = putF (1, Lib.uvarint e1) ++ zeros (32 - (putF (1, Lib.uvarint e1)).length)) := rfl
              have hpl : (putF (1, Lib.uvarint e1)).length = 10 + (Lib.uvarint e1).length := putF_len _
              obtain ⟨p, hp⟩ : ∃ p, putF (1, Lib.uvarint e1) = p := ⟨_, rfl⟩
              have HPut : Hid (∀ A c W, Rd W W.heap.size A (Lib.uvarint e1).length (Lib.uvarint e1) → Calls Try.prog 65 #[.int .u8 1, .slice A (Lib.uvarint e1).length c] W fun e' w' => ∃ v, e' = .returned (.tuple #[v, .int .i64 0]) ∧ w'.ownsRow W.heap.size 5 1 v (10 + (Lib.uvarint e1).length) (u8s p) ∧ Below W.heap.size W w') := fun A c W h3 => by
                rw [← hp]
                exact refPutF_ok 1 A _ c (Lib.uvarint e1) W (by omega) h3
              rw [hp] at hpl hhl HHd
              clear hp
              generalize Lib.uvarint e1 = U at *
              generalize hul : U.length = ul at *
              obtain ⟨pl, hple⟩ : ∃ pl, 10 + ul = pl := ⟨_, rfl⟩
              rw [hple] at HPut hpl
              have Hpl := Lib.hid hpl
              have hpl20 : pl ≤ 20 := by omega
              clear hple hul hpl hhl
              have k1 := Hmid6.out.wl.blk.cell 1
              simp only [List.getElem?_toArray, List.getElem?_cons_zero, List.getElem?_cons_succ] at k1
              go_wp2_with fail
              refine (HC1.out _).mono ?_
              rintro x w7 ⟨vu, rfl, ho7, hb7⟩
              obtain ⟨Au, cu, rfl, _⟩ := own_shape ho7
              have HP7 := Lib.hid (HPut.out Au cu w7 (Rd.of_own ho7))
              have Hb7 := Lib.hid hb7
              clear ho7 hb7 HC1 HPut
              go_wp2_with fail
              refine HP7.out.mono ?_
              rintro x w8 ⟨vp, rfl, ho8, hb8⟩
              have HSt : Hid (w8.ownsRow w6.heap.size 5 1 vp (pl + 0) (u8s (p ++ zeros 0)) ∧ Below w6.heap.size w6 w8) := ⟨by rw [show zeros 0 = [] from rfl, List.append_nil]; exact own_mono ho8 Hb7.out.size, below_then Hb7.out hb8⟩
              obtain ⟨Ap, cp, rfl, _⟩ := own_shape ho8
              clear ho8 hb8 HP7 Hb7 k1
              have HNz : Hid (∀ k, p ++ zeros (k + 1) = (p ++ zeros k) ++ [0]) := fun k => by
                rw [List.append_assoc]
                congr 1
                exact List.replicate_succ'
              go_wp2
              go_loopg [8] (32 - pl) (fun gk v wr => ∃ k : Nat, k + gk = 32 - pl ∧ Hid (wr.ownsRow w6.heap.size 5 1 v (pl + k) (u8s (p ++ zeros k)) ∧ Below w6.heap.size w6 wr))
              case atStart => exact ⟨0, by omega, HSt⟩
              case round =>
                obtain ⟨k, hk, HR⟩ := hrel
                obtain ⟨hown, hb⟩ := HR.out
                obtain ⟨Av, cv, rfl, _⟩ := own_shape hown
                by_cases hkn : pl + k < 32
                · have hci : ((pl : Int) + (k : Int) < 32) := by omega
                  have Hown := Lib.hid hown
                  have Hb := Lib.hid hb
                  have HNk := Lib.hid (HNz.out k)
                  clear hown hb HR HSt
                  go_wp2_with (at_builtin; go_loud (refine wpList_append_app _ rfl _ _ 40 rfl w6.heap.size 5 i0 (.int .u8 0) 1 1 Try.underlying40 hi0 hz0 hz1 hz2 rfl _ _ _ rfl (Hown.out.alloc _) (some ⟨wr.heap.size, 0, none⟩) 1 1 [Value.int .u8 0] rfl rfl (by intro h; cases h) (cell_new1 _ _ _) (by intro u hu; simp at hu; subst hu; rfl) (by unfold maxLen; omega) (by omega) (by have := Hb.out.size; simp; omega) ?_))
                  intro v' w9 ha
                  have hb1 := ha.below (Hb.out.alloc Hb.out.size _) (by have := Hb.out.size; simp; omega) (own_block_ge Hown.out)
                  have HF2 : Hid (w9.ownsRow w6.heap.size 5 1 v' (pl + (k + 1)) (u8s (p ++ zeros (k + 1))) ∧ Below w6.heap.size w6 w9) := by
                    refine ⟨?_, hb1⟩
                    rw [HNk.out, u8s_append]
                    exact ha.own
                  clear ha hb1 Hown Hb
                  go_wp2
                  go_roundg (gk - 1)
                  case measure => omega
                  case rel => exact ⟨k + 1, by omega, HF2.out⟩
                · have hci : ¬ ((pl : Int) + (k : Int) < 32) := by omega
                  have hkk : k = 32 - pl := by omega
                  have h32 : pl + k = 32 := by omega
                  have Hrow : Hid (wr.ownsRow w6.heap.size 5 1 (.slice Av 32 cv) 32 (u8s (headB e1)) ∧ Below w6.heap.size w6 wr) := by
                    refine ⟨?_, hb⟩
                    rw [HHd.out, Hpl.out, ← hkk]
                    rw [h32] at hown
                    exact hown
                  rw [h32]
                  have hci2 : ¬ ((32 : Nat) : Int) < 32 := by omega
                  have Hmid9 := Lib.hid (Hmid6.out.below Hrow.out.2)
                  clear hown hb HR HSt hkn hci hkk h32 hk
                  have HWr : Hid (∀ W (x : Int), RMid w F G g M d.bytes s v vals d2 F6 W → Below wr.heap.size wr W → x = ((e1 % 2 : Nat) : Int) → Calls Try.prog 67 #[.pointer (some ⟨M, 0, none⟩), .int .i64 x, .slice (Av) 32 cv] W fun e w' => e = .returned (.int .i64 (d2.write ((e1 % 2 : Nat) : Int) (headB e1)).1) ∧ ∃ F', RD w' F' M (d2.write ((e1 % 2 : Nat) : Int) (headB e1)).2 ∧ Mv F6 F' W w') := fun W x hm hb hx => by
                    subst hx
                    have ho := own_below Hrow.out.1 hb (fun k e => (Hrow.out.1.lt k e).2)
                    exact rwrite_any M d2 F6 _ Av 32 cv (headB e1) W (by omega) (by omega) (Rd.of_own ho) (fun ad e hf => by
                      have h1 := (ho.lt ad.block (by subst e; rfl)).1
                      have h2 := Hmid6.out.rd.lt _ hf
                      omega) hm.rd
                  have hw3 := dwrite_waits d2 ((e1 % 2 : Nat) : Int) (headB e1)
                  have hl3 := Dk.write_len d2 ((e1 % 2 : Nat) : Int) (headB e1)
                  obtain ⟨⟨r3, d3⟩, hr3⟩ : ∃ p, d2.write ((e1 % 2 : Nat) : Int) (headB e1) = p := ⟨_, rfl⟩
                  rw [hr3] at HWr hw3 hl3 HS3
                  simp only at hw3 hl3
                  have k0 : wr.drew.cell? ⟨g, 0, none⟩ = some (.pointer (some ⟨M, 0, none⟩)) := Hmid9.out.wl.blk.cell 0
                  have k1 : wr.drew.cell? ⟨g, 1, none⟩ = some (.int .u64 s.epoch) := Hmid9.out.wl.blk.cell 1
                  have e0w : wr.cell? ⟨g, 0, none⟩ = some (.pointer (some ⟨M, 0, none⟩)) := k0
                  have e1w : wr.cell? ⟨g, 1, none⟩ = some (.int .u64 s.epoch) := k1
                  clear hr3
                  have Hx : Hid (IntKind.i64.wrap ((e1 : Int).tmod 2) = ((e1 % 2 : Nat) : Int)) := by show _ = _; rw [Int.tmod_eq_emod_of_nonneg (by omega), IntKind.wrap_i64]; omega
                  go_wp2
                  go_region_held3 (fun w' => w'.cell? ⟨g, 0, none⟩ = some (.pointer (some ⟨M, 0, none⟩)) ∧ w'.cell? ⟨g, 1, none⟩ = some (.int .u64 s.epoch)) (first | exact ⟨k0, k1⟩ | exact ⟨m0, m1⟩)
                    (first | (go_at_call 67; refine (HWr.out _ _ (Hmid9.out.below (Below.refl _ _).drew) (Below.refl _ _).drew Hx.out).mono ?_; rintro x w10 ⟨rfl, F10, hp10, hm10⟩; (have Hmid10 : Hid (RMid w F G g M d.bytes s v vals d3 F10 w10) := (Hmid9.out.below (Below.refl _ _).drew).step hp10 hm10 (fun k hg hf => hHH.out.1 k hf hg) hHH.out.2.2.2.2.2.2.2); (have m0 : w10.cell? ⟨g, 0, none⟩ = some (.pointer (some ⟨M, 0, none⟩)) := Hmid10.out.wl.blk.cell 0); (have m1 : w10.cell? ⟨g, 1, none⟩ = some (.int .u64 s.epoch) := Hmid10.out.wl.blk.cell 1)))
                  clear hp10 hm10 HWr k0 k1 e0w e1w Hmid9 Hmid6 Hrow m1
                  by_cases r3n : r3 ≠ 0
                  · have Hst7 : Hid (settleS d e1 l = (r3, d3)) := HS3.out.trans (if_pos r3n)
                    obtain ⟨a1, a2, a3, a4, a5, a6, a7, a8⟩ := hHH.out
                    have hx := HErrF.out r3 d3 Hst7.out r3n
                    have HFin := Lib.hid (Hmid10.out.err a2 a3 a4 hx.2 Hokg.out)
                    have HRx := Lib.hid hx.1
                    have c4 := Hmid10.out.wl.blk.cell 4
                    have f4 := Hmid10.out.wl.blk.frozen 4
                    simp only [List.getElem?_toArray, List.getElem?_cons_zero, List.getElem?_cons_succ] at c4
                    have hne1 : (r3 == 0) = false := by simpa using r3n
                    have hne2 : (r3 != 0) = true := by simpa using r3n
                    clear hx r3n a1 a2 a3 a4 a5 a6 a7 a8
                    go_wp2
                    go_ret
                    unfold RActed
                    rw [HRx.out]
                    exact ⟨rfl, HFin.out⟩
                  · have r30 : r3 = 0 := Classical.byContradiction r3n
                    subst r30
                    have HS4 : Hid (settleS d e1 l = d3.sync) := HS3.out.trans (if_neg r3n)
                    have HSy := rsync_any M d3 F10 w10 (by omega) Hmid10.out.rd
                    obtain ⟨⟨r4, d4⟩, hr4⟩ : ∃ p, d3.sync = p := ⟨_, rfl⟩
                    rw [hr4] at HSy HS4
                    have HSy := Lib.hid HSy
                    clear HS3 r3n hr4
                    go_wp2_with fail
                    refine HSy.out.mono ?_
                    rintro x w11 ⟨rfl, F11, hp11, hm11⟩
                    have Hmid11 : Hid (RMid w F G g M d.bytes s v vals d4 F11 w11) := Hmid10.out.step hp11 hm11 (fun k hg hf => hHH.out.1 k hf hg) hHH.out.2.2.2.2.2.2.2
                    clear hp11 hm11 HSy Hmid10 m0
                    by_cases r4n : r4 ≠ 0
                    · obtain ⟨a1, a2, a3, a4, a5, a6, a7, a8⟩ := hHH.out
                      have hx := HErrF.out r4 d4 HS4.out r4n
                      have HFin := Lib.hid (Hmid11.out.err a2 a3 a4 hx.2 Hokg.out)
                      have HRx := Lib.hid hx.1
                      have c4 := Hmid11.out.wl.blk.cell 4
                      have f4 := Hmid11.out.wl.blk.frozen 4
                      simp only [List.getElem?_toArray, List.getElem?_cons_zero, List.getElem?_cons_succ] at c4
                      have hne1 : (r4 == 0) = false := by simpa using r4n
                      have hne2 : (r4 != 0) = true := by simpa using r4n
                      clear hx r4n a1 a2 a3 a4 a5 a6 a7 a8
                      go_wp2
                      go_ret
                      unfold RActed
                      rw [HRx.out]
                      exact ⟨rfl, HFin.out⟩
                    · have r40 : r4 = 0 := Classical.byContradiction r4n
                      subst r40
                      have HRx : Hid (s.reset d l = (0, { epoch := e1, recs := l, safe := l.length, gone := false }, d4) ∧ d4.bytes = d.bytes ∧ d4.down = false) := by
                        have h1 := Hre.out
                        have h2 := Hdn4.out
                        have h3 := Hby4.out
                        rw [HS4.out] at h1 h2 h3
                        exact ⟨h1.trans (if_pos rfl), h3, h2 rfl⟩
                      have HNL0 : Hid (NewL w11 F11 g M w11.heap.size d4 (.int .u64 e1) (.int .i64 s.safe) (.bool false) l 0 ((w11.setCell ⟨g, 1, none⟩ (.int .u64 e1)).setCell ⟨g, 2, none⟩ (.slice none 0 0))) := by
                        have hk1 : ∀ (W : World) (i : Nat) (z : Value), Kp (· = g) W (W.setCell ⟨g, i, none⟩ z) := fun W i z => Kp.set_ (F := (· = g)) (p := ⟨g, i, none⟩) rfl z
                        have hkk := (hk1 w11 1 (.int .u64 e1)).trans (hk1 (w11.setCell ⟨g, 1, none⟩ (.int .u64 e1)) 2 (.slice none 0 0))
                        have hb := (Hmid11.out.wl.blk.set_ 1 (.int .u64 e1)).set_ 2 (.slice none 0 0)
                        rw [Hgn.out] at hb
                        refine ⟨.slice none 0 0, [], Hmid11.out.rd.kp hkk (fun k hf e => by have e : k = g := e; subst e; exact Hmid11.out.apart _ hf Hmid11.out.wl.self), hb, LstV.nil _ _, by simp [Value.ownBlock], hkk.mono fun k e => .inl e, by simp [World.setCell]⟩
                      have c1 := Hmid11.out.wl.blk.cell 1
                      have c2 := Hmid11.out.wl.blk.cell 2
                      have fz1 := Hmid11.out.wl.blk.frozen 1
                      have fz2 := Hmid11.out.wl.blk.frozen 2
                      simp only [List.getElem?_toArray, List.getElem?_cons_zero, List.getElem?_cons_succ] at c1 c2
                      clear r4n HErrF HS4
                      obtain ⟨i1, hi1, hy0, hy1, hy2⟩ := info_parts Try.infoBytes
                      have Hi1 := Lib.hid hi1
                      have Hy0 := Lib.hid hy0
                      have Hy1 := Lib.hid hy1
                      have Hy2 := Lib.hid hy2
                      clear hi1 hy0 hy1 hy2 hi0 hz0 hz1 hz2
                      have hP0 := (HstI.out w (Kp.refl _ _)).1
                      have hcnt := usedF_count l
                      have hfit : usedF l ≤ d.bytes := Hok4.out.fits
                      have hsmall : Hid (∀ r ∈ l, r.length ≤ 1024) := Hok4.out.small
                      have hnl4 : nl ≤ 4000 := by have := Hbs.out; omega
                      have HP0 := Lib.hid hP0
                      have hBw : w.heap.size ≤ w11.heap.size := Hmid11.out.kp.size
                      have HBw := Lib.hid hBw
                      have HF11 : Hid (∀ q, F11 q → q < w11.heap.size ∧ q ≠ g) := fun q hf => ⟨Hmid11.out.rd.lt q hf, fun e => by subst e; exact Hmid11.out.apart _ hf Hmid11.out.wl.self⟩
                      have HKH : Hid (∀ wr, Kp (fun q => q = g ∨ w11.heap.size ≤ q) w11 wr → Kp (fun k => F k ∨ G k) w wr) := fun wr hk =>
                        Kp.fresh (B := w11.heap.size) ((Hmid11.out.kp.mono fun k e => .inl e).trans (hk.mono fun k e => e.elim (fun e => .inl (.inr (by rw [e]; exact Hmid11.out.wl.self))) .inr)) HBw.out
                      clear hP0 hcnt hfit hBw
                      go_wp2
                      go_loopg [10] nl (fun gk i wr => ∃ k : Nat, i = .int .i64 k ∧ k + gk = nl ∧ Hid (NewL w11 F11 g M w11.heap.size d4 (.int .u64 e1) (.int .i64 s.safe) (.bool false) l k wr))
                      case atStart => exact ⟨0, rfl, by omega, HNL0⟩
                      case round =>
                        clear HNL0 c1 c2 fz1 fz2
                        obtain ⟨k, rfl, hk, HR⟩ := hrel
                        obtain ⟨v2, vals2, hD, hb, hl2x, hne2, hkp2, hB2⟩ := HR.out
                        by_cases hkn : k < nl
                        · have hkl : k < l.length := by rw [HP0.out]; exact hkn
                          obtain ⟨bq, oq, A', n', c', hAe, hbw, hcell, hn', hc', hrd⟩ := (HstI.out wr ((HKH.out wr hkp2).mono fun q e => e.elim (hHH.out.2.1 q) (hHH.out.2.2.1 q))).2 k hkl
                          have hrl := hrd.1
                          have hn4 : n' ≤ 1024 := by rw [← hrl]; exact hsmall.out _ (List.getElem_mem hkl)
                          have hvl : vals2.length ≤ 4000 := by have := hl2x.len; rw [List.length_take] at this; omega
                          have HCP := Lib.hid (copy_any A' n' c' wr.heap.size l[k] wr.drew (by omega) (hrd.below (Below.refl _ _).drew))
                          have HSt2 : Hid (∀ w4, Below wr.heap.size wr.drew w4 → RD w4 F11 M d4 ∧ Bk w4 g 57 #[.pointer (some ⟨M, 0, none⟩), .int .u64 e1, v2, .int .i64 s.safe, .bool false] ∧ LstV w4 (fun q => w11.heap.size ≤ q ∧ q < w4.heap.size) v2 vals2 (l.take k) ∧ Kp (fun q => q = g ∨ w11.heap.size ≤ q) w11 w4 ∧ w11.heap.size ≤ w4.heap.size) := fun w4 hb4 => by
                            have hbb := (Below.refl wr.heap.size wr).drew.trans hb4
                            exact ⟨hD.below hbb, hb.below hbb hb.lt, (hl2x.below hbb).mono (fun q e => ⟨e.1, Nat.lt_of_lt_of_le e.2 hbb.size⟩), hkp2.trans (Kp.of_below hbb), Nat.le_trans hB2 hbb.size⟩
                          have Hne2 := Lib.hid hne2
                          have Hkl := Lib.hid hkl
                          have c2 := hb.cell 2
                          have fz2 := hb.frozen 2
                          simp only [List.getElem?_toArray, List.getElem?_cons_zero, List.getElem?_cons_succ] at c2
                          have hki : (k : Int) < (nl : Int) := by omega
                          subst hAe
                          clear hD hb hl2x hne2 hkp2 hB2 HR hrd hrl hbw hn' hc'
                          go_wp2
                          go_region_law (first | ((refine step_append_app _ rfl _ _ 28 (by rfl) 0 40 i1 (.slice none 0 0) 1 24 Try.underlying28 Hi1.out Hy0.out Hy1.out Hy2.out rfl v2 vals2.length vals2 (by rfl) (Hd.out (.cells #[.slice Ac n' cc] 40)).2.2.1.row (some ⟨w4.heap.size, 0, none⟩) 1 1 [.slice Ac n' cc] (by rfl) rfl (by intro e; cases e) (one_new _ _ _ rfl) (by intro u hu; simp at hu; subst hu; rfl) (by unfold maxLen; omega) (by omega) (by simp) ?_); intro v' w5 happ; (have hk3 : Kp (fun k => v2.ownBlock = some k) _ w5 := Kp.of_row happ.grow (fun g e => e)); (have kb := (Hd.out (.cells #[.slice Ac n' cc] 40)).2.1.kp hk3 (fun e => Hne2.out e)); (have k2 := kb.cell 2); (have kf := kb.frozen 2); (obtain ⟨Av2, cv2, rfl, _⟩ := own_shape happ.own)) | (go_simp; go_at_call 54; (refine HCP.out.mono ?_; rintro x w4 ⟨vc, rfl, hoc, hbc⟩; (obtain ⟨Ac, cc, rfl, _⟩ := own_shape hoc); (have Hd : Hid (∀ o, RD (w4.alloc o) F11 M d4 ∧ Bk (w4.alloc o) g 57 #[.pointer (some ⟨M, 0, none⟩), .int .u64 e1, v2, .int .i64 s.safe, .bool false] ∧ LstV (w4.alloc o) (fun q => w11.heap.size ≤ q ∧ q < (w4.alloc o).heap.size) v2 vals2 (l.take k) ∧ Kp (fun q => q = g ∨ w11.heap.size ≤ q) w11 (w4.alloc o) ∧ w11.heap.size ≤ (w4.alloc o).heap.size) := fun o => HSt2.out _ (hbc.alloc hbc.size o)); (have c2b : w4.cell? ⟨g, 2, none⟩ = some v2 := (HSt2.out w4 hbc).2.1.cell 2); (have c2c : ∀ o, (w4.alloc o).cell? ⟨g, 2, none⟩ = some v2 := fun o => (Hd.out o).2.1.cell 2); (have hcellb := (hbc.cell (p := ⟨bq, oq + k, none⟩) (World.block_lt_of_cell? _ _ hcell)).trans hcell); (have Hoc := Lib.hid hoc); (have Hbc := Lib.hid hbc); clear hoc hbc)))
                          all_goals
                            obtain ⟨q1, q2, q3, q4, q5⟩ := Hd.out (.cells #[.slice Ac n' cc] 40)
                            have hwr : w11.heap.size ≤ wr.heap.size := (HSt2.out wr.drew (Below.refl _ _)).2.2.2.2
                            have hoc2 : (w4.alloc (.cells #[.slice Ac n' cc] 40)).ownsRow w11.heap.size 5 1 (.slice Ac n' cc) n' (u8s l[k]) := own_mono (own_below Hoc.out ((Below.refl w4.heap.size w4).alloc (Nat.le_refl _) (.cells #[.slice Ac n' cc] 40)) (fun k e => (Hoc.out.lt k e).2)) hwr
                            have HN2 : Hid (NewL w11 F11 g M w11.heap.size d4 (.int .u64 e1) (.int .i64 s.safe) (.bool false) l (k + 1) (w5.setCell ⟨g, 2, none⟩ (.slice Av2 (vals2.length + 1) cv2))) := NewL.next Hkl.out HF11.out q1 q2 q3 Hne2.out q4 q5 hoc2 happ
                            clear q1 q2 q3 q4 q5 hwr hoc2 happ hk3 kb k2 kf c2 c2b c2c fz2 Hd Hoc Hbc HSt2 HCP hcell hcellb
                            go_wp2
                            go_roundg (gk - 1)
                            case measure => omega
                            case rel => exact ⟨k + 1, by go_num, by omega, HN2⟩
                        · obtain rfl : k = nl := by omega
                          have hall : l.take k = l := List.take_of_length_le (by rw [HP0.out]; exact Nat.le_refl _)
                          rw [hall] at hl2x
                          have c3 := hb.cell 3
                          have fz3 := hb.frozen 3
                          simp only [List.getElem?_toArray, List.getElem?_cons_zero, List.getElem?_cons_succ] at c3
                          have HF : Hid (∃ H', RB (wr.setCell ⟨g, 3, none⟩ (.int .i64 (k : Nat))) H' g M d4 { epoch := e1, recs := l, safe := l.length, gone := false } ∧ Mv H H' w (wr.setCell ⟨g, 3, none⟩ (.int .i64 (k : Nat)))) := by
                            obtain ⟨a1, a2, a3, a4, a5, a6, a7, a8⟩ := hHH.out
                            have hk5 : Kp (· = g) wr (wr.setCell ⟨g, 3, none⟩ (.int .i64 (k : Nat))) := Kp.set_ (F := (· = g)) (p := ⟨g, 3, none⟩) rfl _
                            have hkk := hkp2.trans (hk5.mono fun q e => .inl e)
                            have hsz : (wr.setCell ⟨g, 3, none⟩ (.int .i64 (k : Nat))).heap.size = wr.heap.size := by simp [World.setCell]
                            have hglt := hb.lt
                            have hb3 := hb.set_ 3 (.int .i64 (k : Nat))
                            have hlen2 : (l.length : Int) = ((k : Nat) : Int) := by rw [HP0.out]
                            refine rb_step (G' := fun q => q = g ∨ (w11.heap.size ≤ q ∧ q < wr.heap.size)) a2 a3 (hD.kp hk5 (fun q hf e => (HF11.out q hf).2 e)) (v' := v2) (vals' := vals2) ⟨.inl rfl, fun q e => ?_, by rw [HRx.out.2.1]; exact Hok4.out, ?_, ?_, hne2⟩ (fun q hf e => ?_) (HKH.out _ hkk) Hmid11.out.new (fun q e => ?_) a4 (fun _ => HRx.out.2.2)
                            · rw [hsz]
                              rcases e with rfl | e
                              · exact hglt
                              · exact e.2
                            · show Bk _ g _ #[_, .int .u64 (e1 : Nat), v2, .int .i64 (l.length : Nat), .bool false]
                              rw [hlen2]
                              exact hb3
                            · exact (hl2x.mono (fun q e => .inr e)).set_ hk5 hne2 (fun cs e => by
                                have := bk_heap hb
                                rw [this] at e
                                injection e with e
                                injection e with _ e _
                                exact absurd e (by decide))
                            · rcases e with e | e
                              · exact (HF11.out q hf).2 e
                              · have := (HF11.out q hf).1; omega
                            · rcases e with rfl | e
                              · exact .inl a5
                              · exact .inr (by have := HBw.out; omega)
                          clear hD hb hl2x hne2 hkp2 hB2 HR hall
                          go_wp2
                          go_ret
                          unfold RActed
                          rw [HRx.out.1]
                          exact ⟨rfl, HF.out⟩
    · have HR : Hid (s.reset d l = ((fe : Int), s, d)) := by
        show _ = _
        have hx : nextE d.bytes s.epoch l = (fe : Int) := by rw [hnE, if_pos he0]
        rw [hre, hx, if_pos (by omega)]
      have hfi : ((fe : Int) != 0) = true := by simpa using he0
      clear hp hw hok hFG hFH hGH hH hdn hgF hgone hlen hst hnE hep hre he0 HH
      go_enter Try.func28, Try.ntmps28
      go_wp2_with fail
      refine HC.out.mono ?_
      rintro x w1 ⟨rfl, hb1, hk⟩
      have Hq := Lib.hid (HG.out w1 (by rw [Hgn.out]; exact hb1) hk)
      have HFr1 := HFr.out w1 Hq.out.2.2
      rw [HFX.out] at HFr1
      have HFr1 := Lib.hid HFr1
      clear hb1 hk HC HG HFr HFX
      go_wp2_with fail
      refine HFr1.out.mono ?_
      rintro x w2 ⟨A2, c2, rfl, _, hb2⟩
      have HF := Lib.hid (HEnd.out w2 (HB.out w1 w2 Hq.out hb2))
      clear hb2 HFr1 Hq HB HEnd
      go_wp2
      go_ret
      unfold RActed
      rw [HR.out]
      exact ⟨rfl, HF.out⟩
end Go.Proofs.Ytpfccbojllabjaa

/- The document's log: noughts behind the records. -/
namespace Go.Proofs.Ytpfccbojllabjaa
open Go.RowKit

/-- What wiped answers. -/
def RWiped (w : World) (F : Nat → Prop) (g M : Nat) (r : Int × Dk) (e : Ending) (w' : World) : Prop :=
  (r.1 = 0 ∧ e = .returned (.tuple #[.pointer (some ⟨g, 0, none⟩), .int .i64 0]) ∨ r.1 ≠ 0 ∧ e = .returned (.tuple #[.pointer none, .int .i64 r.1])) ∧ ∃ F', RD w' F' M r.2 ∧ Mv F F' w w'

set_option maxRecDepth 100000 in
set_option maxHeartbeats 8000000 in
theorem rwiped_meth (g M e en N c ga : Nat) (b : List UInt8) (rs : List (List UInt8)) (d : Dk) (F : Nat → Prop) (w : World) (he : e < 18446744073709551616) (h6 : 6 ≤ d.safe.length) (hwl : d.waits.length ≤ 900000000)
    (hN : N = d.bytes) (hNc : N ≤ c) (hcm : c ≤ 9223372036854775807) (hen : en ≤ N) (hfr : framesF rs = b.take en) (hgF : ¬ F g) (hap : ¬ F ga) (hr : Rd w w.heap.size (some ⟨ga, 0, none⟩) N b) (h : RD w F M d)
    (c0 : w.cell? ⟨g, 0, none⟩ = some (.pointer (some ⟨M, 0, none⟩))) (c1 : w.cell? ⟨g, 1, none⟩ = some (.int .u64 e)) :
    Calls Try.prog 82 #[.pointer (some ⟨g, 0, none⟩), .slice (some ⟨ga, 0, none⟩) N c, .int .i64 en] w (RWiped w F g M (afterW (wipeS b (fullF N rs) (d.base e) 0 d.half false d))) := by
  have hlen := h.len
  have hh : d.half ≤ 1024 := by unfold Dk.half halfN; omega
  have hbb := Dk.base_le h6 e
  have hNb : N = d.half * 32 := hN
  have hbl := hr.1
  have hgw := World.block_lt_of_cell? _ _ c0
  have HZ : Hid (∀ i, i < d.half → zk en (i * 32) (chunk b i) 32 = chunk (fullF N rs) i) := fun i hi => zk_full hbl hfr hen i (by omega)
  have HP : Hid (∀ F' w', Mv F F' w w' → w'.cell? ⟨g, 0, none⟩ = some (.pointer (some ⟨M, 0, none⟩)) ∧ w'.cell? ⟨g, 1, none⟩ = some (.int .u64 e) ∧ ¬ F' ga ∧ ¬ F' g ∧ Rd w' w'.heap.size (some ⟨ga, 0, none⟩) N b) := fun F' w' hm => by
    have h1 : ga < w.heap.size := by
      obtain ⟨b, o, e', q1, _⟩ := hr.2 (by omega); injection e' with e'; injection e' with e'; subst e'; exact q1
    refine ⟨cell_kp c0 hm.kp hgF, cell_kp c1 hm.kp hgF, fun hf => ?_, fun hf => ?_, (hr.kpA hm.kp (fun ad e => by injection e with e; subst e; exact hap)).more hm.kp.size⟩
    · rcases hm.new _ hf with h2 | h2
      · exact hap h2
      · omega
    · rcases hm.new _ hf with h2 | h2
      · exact hgF h2
      · have : g < w.heap.size := hgw; omega
  have HB : Hid (∀ d' : Dk, d'.safe.length = d.safe.length → d'.base e = d.base e ∧ 6 ≤ d'.safe.length ∧ d'.half = d.half) := fun d' hd' => ⟨by unfold Dk.base; rw [hd'], by omega, by unfold Dk.half; rw [hd']⟩
  have HRD := Lib.hid h
  clear h hr hN c0 c1 hgw hfr
  generalize hC : fullF N rs = C at *
  generalize hB : d.base e = B at *
  generalize hH : d.half = H at *
  have HC : Hid (∀ i, i < H → (chunk b i).length = 32) := fun i hi => by unfold chunk; rw [List.length_take, List.length_drop, hbl, hNb]; omega
  subst hNb
  have HB2 : Hid (B + H ≤ d.safe.length) := hbb.2.1
  have Hlen : Hid (d.safe.length ≤ 2048) := hlen.2
  clear hbb hB hH hlen h6 hC hbl
  go_enter Try.func82, Try.ntmps82
  go_wp2
  go_loopg [8, 9] H (fun gk z i wr => ∃ (m : Nat) (zb : Bool), z = .bool zb ∧ i = .int .i64 m ∧ m + gk = H ∧ Hid (∃ F' d', Mv F F' w wr ∧ RD wr F' M d' ∧ d'.safe.length = d.safe.length ∧ d'.waits.length ≤ 900000000 + m ∧ wipeS b C B 0 H false d = wipeS b C B m gk zb d'))
  case atStart => exact ⟨0, false, rfl, rfl, by omega, ⟨F, d, Mv.refl _ _, HRD.out, rfl, by omega, rfl⟩⟩
  case round =>
    obtain ⟨m, zb, rfl, rfl, hk, HR⟩ := hrel
    obtain ⟨F1, d1, hm1, hp1, hsl, hw1, hls⟩ := HR.out
    obtain ⟨k0, k1, hga1, hg1, hr1⟩ := HP.out F1 wr hm1
    obtain ⟨hba, h61, hha⟩ := HB.out d1 hsl
    have HHf := rhalf_meth M d1 F1 wr h61 hp1
    rw [hha] at HHf
    have HHf := Lib.hid HHf
    have Hm1 := Lib.hid hm1
    have Hp1 := Lib.hid hp1
    have Hw1 := Lib.hid hw1
    have Hls := Lib.hid hls
    have Hsl := Lib.hid hsl
    have Hr1 := Lib.hid hr1
    clear hm1 hp1 hsl hw1 hls HR hba hha hr1
    go_wp2_with fail
    refine HHf.out.mono ?_
    rintro x w' ⟨rfl, rfl⟩
    by_cases hmn : m < H
    · have hcl := HC.out m hmn
      have HCopy : Hid (∀ cc, Calls Try.prog 54 #[.slice (some ⟨ga, 32 * m, none⟩) 32 cc] wr fun e w' => ∃ v, e = .returned v ∧ w'.ownsRow wr.heap.size 5 1 v 32 (u8s (chunk b m)) ∧ Below wr.heap.size wr w') := fun cc => copy_any (some ⟨ga, 32 * m, none⟩) 32 cc wr.heap.size (chunk b m) wr (by omega) (by
        have := rd_part Hr1.out (32 * m) 32 (by omega)
        unfold chunk
        rw [Nat.mul_comm m 32]
        exact this)
      have hcu : ¬ c = 32 * m := by omega
      have hmi : (m : Int) < (H : Int) := by omega
      have hT1 : (32 * (m : Int)).toNat = 32 * m := by omega
      have hT2 : (32 * (m : Int) + 32).toNat = 32 * m + 32 := by omega
      have hT3 : 32 * m + 32 - 32 * m = 32 := by omega
      have hT4 : (32 * (m : Int) + 32 ≤ (c : Int)) := by omega
      clear k0 k1 HHf
      go_wp2_with fail
      refine (HCopy.out _).mono ?_
      rintro x w3 ⟨vs, rfl, ho3, hb3⟩
      have HSt : Hid (w3.ownsRow wr.heap.size 5 1 vs 32 (u8s (zk en (m * 32) (chunk b m) 0)) ∧ Below wr.heap.size wr w3) := ⟨ho3, hb3⟩
      obtain ⟨gs, cs, rfl⟩ := own_someR ho3 (by omega)
      clear ho3 hb3 HCopy hT1 hT2 hT3 hT4
      obtain ⟨g9, hg9⟩ : ∃ x, x = gk := ⟨_, rfl⟩
      subst hg9
      obtain ⟨w2, hw2⟩ : ∃ x, x = wr := ⟨_, rfl⟩
      subst hw2
      go_wp2
      go_loopg [10, 12] 32 (fun gj dz i2 wr2 => ∃ (j : Nat) (dbo : Bool), dz = .bool dbo ∧ i2 = .int .i64 j ∧ j + gj = 32 ∧ Hid (wr2.ownsRow w2.heap.size 5 1 (.slice (some ⟨gs, 0, none⟩) 32 cs) 32 (u8s (zk en (m * 32) (chunk b m) j)) ∧ Below w2.heap.size w2 wr2 ∧ dbo = decide (zk en (m * 32) (chunk b m) j ≠ chunk b m)))
      case atStart => exact ⟨0, false, rfl, rfl, by omega, ⟨HSt.out.1, HSt.out.2, by simp [zk]⟩⟩
      case round =>
        clear HSt
        obtain ⟨j, dbo, rfl, rfl, hj, HRj⟩ := hrel
        by_cases hj32 : j < 32
        · have hjl : j < (chunk b m).length := by omega
          have hzj := zk_at en (m * 32) (chunk b m) j
          rw [List.getElem?_eq_getElem hjl] at hzj
          obtain ⟨xb, hxb⟩ : ∃ xb, (chunk b m)[j] = xb := ⟨_, rfl⟩
          rw [hxb] at hzj
          have hcx : (chunk b m)[j]? = some xb := by rw [List.getElem?_eq_getElem hjl, hxb]
          have hcell : wr.cell? ⟨gs, j, none⟩ = some (.int .u8 (xb.toNat : Int)) := by
            have := HRj.out.1.cells (g := gs) rfl j (.int .u8 (xb.toNat : Int)) (by unfold u8s; rw [List.getElem?_map, hzj]; rfl)
            rwa [Addr.add_lit, Nat.zero_add] at this
          have hfro := HRj.out.1.frozenAt j
          have hji : (j : Int) < 32 := by omega
          by_cases hge : en ≤ m * 32 + j
          · have hgi : (en : Int) ≤ 32 * (m : Int) + (j : Int) := by omega
            by_cases hx0 : xb = 0
            · subst hx0
              have hN2 : Hid (wr.ownsRow w2.heap.size 5 1 (.slice (some ⟨gs, 0, none⟩) 32 cs) 32 (u8s (zk en (m * 32) (chunk b m) (j + 1))) ∧ Below w2.heap.size w2 wr ∧ dbo = decide (zk en (m * 32) (chunk b m) (j + 1) ≠ chunk b m)) := by
                rw [zk_same hcx]
                exact HRj.out
              clear HRj hzj hcx hge hxb
              go_wp2
              go_roundg (gk - 1)
              case measure => omega
              case rel => exact ⟨j + 1, dbo, rfl, by go_num, by omega, hN2⟩
            · have hxi : (((xb.toNat : Int)) != 0) = true := by
                have : xb.toNat ≠ 0 := fun e => hx0 (by apply UInt8.toNat_inj.1; simpa using e)
                simp; omega
              have hs := HRj.out.1.stored j (.int .u8 0)
              have hN2 : Hid ((wr.setCell ⟨gs, j, none⟩ (.int .u8 0)).ownsRow w2.heap.size 5 1 (.slice (some ⟨gs, 0, none⟩) 32 cs) 32 (u8s (zk en (m * 32) (chunk b m) (j + 1))) ∧ Below w2.heap.size w2 (wr.setCell ⟨gs, j, none⟩ (.int .u8 0)) ∧ true = decide (zk en (m * 32) (chunk b m) (j + 1) ≠ chunk b m)) := by
                have hz1 : zk en (m * 32) (chunk b m) (j + 1) = (zk en (m * 32) (chunk b m) j).set j 0 := if_pos hge
                have hu : u8s ((zk en (m * 32) (chunk b m) j).set j 0) = (u8s (zk en (m * 32) (chunk b m) j)).set j (.int .u8 0) := (u8s_set _ _ 0).symm
                refine ⟨by rw [hz1, hu]; exact hs.1, HRj.out.2.1.grown hs.2 HRj.out.2.1.size (fun k e => by injection e with e; subst e; exact (HRj.out.1.lt gs rfl).1), ?_⟩
                exact (decide_eq_true (zk_ne hcx hx0 hge (j + 1) (by omega))).symm
              clear HRj hzj hcx hge hxb hs
              go_wp2
              go_roundg (gk - 1)
              case measure => omega
              case rel => exact ⟨j + 1, true, rfl, by go_num, by omega, hN2⟩
          · have hgi : ¬ (en : Int) ≤ 32 * (m : Int) + (j : Int) := by omega
            have hN2 : Hid (wr.ownsRow w2.heap.size 5 1 (.slice (some ⟨gs, 0, none⟩) 32 cs) 32 (u8s (zk en (m * 32) (chunk b m) (j + 1))) ∧ Below w2.heap.size w2 wr ∧ dbo = decide (zk en (m * 32) (chunk b m) (j + 1) ≠ chunk b m)) := by
              have hz1 : zk en (m * 32) (chunk b m) (j + 1) = zk en (m * 32) (chunk b m) j := if_neg hge
              rw [hz1]
              exact HRj.out
            clear HRj hzj hcx hge hxb
            go_wp2
            go_roundg (gk - 1)
            case measure => omega
            case rel => exact ⟨j + 1, dbo, rfl, by go_num, by omega, hN2⟩
        · obtain rfl : j = 32 := by omega
          have hz := HZ.out m hmn
          have hrow := HRj.out.1
          have hdb := HRj.out.2.2
          rw [hz] at hrow hdb
          have HmB : Hid (Mv F F1 w wr) := Hm1.out.trans (Mv.of (Kp.of_below HRj.out.2.1))
          have HpB : Hid (RD wr F1 M d1) := Hp1.out.below HRj.out.2.1
          have hj32i : ¬ ((32 : Nat) : Int) < 32 := by omega
          obtain ⟨k', rfl⟩ : ∃ k', g9 = k' + 1 := ⟨g9 - 1, by omega⟩
          by_cases hsame : chunk b m = chunk C m
          · have hdf : dbo = false := by rw [hdb]; simp [hsame]
            have HN := Lib.hid (wipe_same (base := B) (z := zb) (k := k') (d := d1) hsame)
            subst hdf
            clear HRj hrow hdb hz hsame
            go_wp2
            go_roundg k'
            case measure => omega
            case rel => exact ⟨m + 1, zb, rfl, by go_num, by omega, ⟨F1, d1, HmB.out, HpB.out, Hsl.out, by have := Hw1.out; omega, Hls.out.trans HN.out⟩⟩
          · have hdt : dbo = true := by rw [hdb]; simp; exact fun e => hsame e.symm
            subst hdt
            have Hrow := Lib.hid hrow
            have Hns := Lib.hid hsame
            obtain ⟨k0, k1, hga2, hg2, _⟩ := HP.out F1 wr HmB.out
            have e0 : wr.drew.cell? ⟨g, 0, none⟩ = some (.pointer (some ⟨M, 0, none⟩)) := k0
            have e1 : wr.drew.cell? ⟨g, 1, none⟩ = some (.int .u64 e) := k1
            have HFi := rfirst_any M d1 F1 e wr.drew he h61 (HpB.out.below (Below.refl _ _).drew)
            rw [(HB.out d1 Hsl.out).1] at HFi
            have HFi := Lib.hid HFi
            have hga1w : ∀ ad, (some ⟨gs, 0, none⟩ : Option Addr) = some ad → ¬ F1 ad.block := fun ad ee hf => by
              injection ee with ee
              subst ee
              have h1 := (hrow.lt gs rfl).1
              have h2 := Hp1.out.lt _ hf
              have h2 : gs < w2.heap.size := h2
              omega
            have HWr : Hid (Calls Try.prog 67 #[.pointer (some ⟨M, 0, none⟩), .int .i64 ((B : Int) + (m : Int)), .slice (some ⟨gs, 0, none⟩) 32 cs] wr.drew fun e w' => e = .returned (.int .i64 (d1.write ((B + m : Nat) : Int) (chunk C m)).1) ∧ ∃ F', RD w' F' M (d1.write ((B + m : Nat) : Int) (chunk C m)).2 ∧ Mv F1 F' wr.drew w') := by
              have := rwrite_any M d1 F1 ((B + m : Nat) : Int) (some ⟨gs, 0, none⟩) 32 cs (chunk C m) wr.drew (by omega) (by have := Hw1.out; omega) (Rd.of_own (own_below hrow (Below.refl _ _).drew (fun k e => (hrow.lt k e).2))) hga1w (HpB.out.below (Below.refl _ _).drew)
              rw [show ((B + m : Nat) : Int) = (B : Int) + (m : Int) by omega] at this ⊢
              exact this
            have hww := dwrite_waits d1 ((B + m : Nat) : Int) (chunk C m)
            have hwln := Dk.write_len d1 ((B + m : Nat) : Int) (chunk C m)
            have hst0 : (d1.write ((B + m : Nat) : Int) (chunk C m)).1 ≠ 0 → wipeS b C B m (k' + 1) zb d1 = ((d1.write ((B + m : Nat) : Int) (chunk C m)).1, true, (d1.write ((B + m : Nat) : Int) (chunk C m)).2) := wipe_stop hsame
            have hnx0 : (d1.write ((B + m : Nat) : Int) (chunk C m)).1 = 0 → wipeS b C B m (k' + 1) zb d1 = wipeS b C B (m + 1) k' true (d1.write ((B + m : Nat) : Int) (chunk C m)).2 := wipe_next hsame
            obtain ⟨⟨r1, d2⟩, hrd⟩ : ∃ p, d1.write ((B + m : Nat) : Int) (chunk C m) = p := ⟨_, rfl⟩
            rw [hrd] at HWr hww hwln hst0 hnx0
            simp only at hww hwln hst0 hnx0
            have Hst0 := Lib.hid hst0
            have Hnx0 := Lib.hid hnx0
            have hwr3 : IntKind.i64.wrap ((B : Int) + (m : Int)) = (B : Int) + (m : Int) := by rw [IntKind.wrap_i64]; have := HB2.out; have := Hlen.out; omega
            clear HRj hrow hdb hz hsame hst0 hnx0 hrd hga1w
            go_wp2
            go_region_held3 (fun w' => w'.cell? ⟨g, 0, none⟩ = some (.pointer (some ⟨M, 0, none⟩)) ∧ w'.cell? ⟨g, 1, none⟩ = some (.int .u64 e)) (first | exact ⟨e0, e1⟩ | exact ⟨m0, m1⟩)
              (first | (go_at_call 77; refine HFi.out.mono ?_; rintro x w' ⟨rfl, rfl⟩) | (go_at_call 67; (try rw [hwr3]); refine HWr.out.mono ?_; rintro x w5 ⟨rfl, F2, hp2, hm2⟩; (have Hm2 : Hid (Mv F F2 w w5) := (HmB.out.trans (Mv.of (Kp.drew F1 wr))).trans hm2); (have Hp2 := Lib.hid hp2); (have m0 : w5.cell? ⟨g, 0, none⟩ = some (.pointer (some ⟨M, 0, none⟩)) := (HP.out F2 w5 Hm2.out).1); (have m1 : w5.cell? ⟨g, 1, none⟩ = some (.int .u64 e) := (HP.out F2 w5 Hm2.out).2.1)))
            clear hp2 hm2 k0 k1 e0 e1 HFi HWr hwr3 m0 m1
            by_cases hr0 : r1 = 0
            · have HN := Lib.hid (Hnx0.out hr0)
              subst hr0
              go_wp2
              go_roundg k'
              case measure => omega
              case rel => exact ⟨m + 1, true, rfl, by go_num, by omega, ⟨F2, d2, Hm2.out, Hp2.out, hwln.trans Hsl.out, by have := Hw1.out; omega, Hls.out.trans HN.out⟩⟩
            · have hne : (r1 != 0) = true := by simpa using hr0
              have hSt : Hid (afterW (wipeS b C B 0 H false d) = (r1, d2)) := by
                show _ = _
                rw [Hls.out, Hst0.out hr0]
                unfold afterW
                simp only
                rw [if_pos (.inl hr0)]
              have Hr0 := Lib.hid hr0
              clear hr0
              go_wp2
              go_ret2
              unfold RWiped
              rw [hSt.out]
              exact ⟨.inr ⟨Hr0.out, rfl⟩, F2, Hp2.out, Hm2.out⟩
    · obtain rfl : m = H := by omega
      have hk0 : gk = 0 := by omega
      subst hk0
      have hmi : ¬ ((m : Int) < (m : Int)) := by omega
      have hS0 : wipeS b C B 0 m false d = (0, zb, d1) := Hls.out
      cases zb with
      | false =>
        have hSt : Hid (afterW (wipeS b C B 0 m false d) = (0, d1)) := by
          show _ = _
          rw [hS0]
          rfl
        clear hS0
        go_wp2
        go_ret2
        unfold RWiped
        rw [hSt.out]
        exact ⟨.inl ⟨rfl, rfl⟩, F1, Hp1.out, Hm1.out⟩
      | true =>
        have hSt : Hid (afterW (wipeS b C B 0 m false d) = d1.sync) := by
          show _ = _
          rw [hS0]
          rfl
        have HSy := rsync_any M d1 F1 wr (by have := Hw1.out; omega) Hp1.out
        obtain ⟨⟨r2, d2⟩, hr2⟩ : ∃ p, d1.sync = p := ⟨_, rfl⟩
        rw [hr2] at HSy hSt
        have HSy := Lib.hid HSy
        clear hS0 hr2
        go_wp2_with fail
        refine HSy.out.mono ?_
        rintro x w5 ⟨rfl, F2, hp2, hm2⟩
        have Hfin : Hid (RD w5 F2 M d2 ∧ Mv F F2 w w5) := ⟨hp2, Hm1.out.trans hm2⟩
        clear hp2 hm2 HSy
        by_cases hr0 : r2 = 0
        · subst hr0
          go_wp2
          go_ret2
          unfold RWiped
          rw [hSt.out]
          exact ⟨.inl ⟨rfl, rfl⟩, F2, Hfin.out⟩
        · have hne : (r2 != 0) = true := by simpa using hr0
          have Hr0 := Lib.hid hr0
          clear hr0
          go_wp2
          go_ret2
          unfold RWiped
          rw [hSt.out]
          exact ⟨.inr ⟨Hr0.out, rfl⟩, F2, Hfin.out⟩
end Go.Proofs.Ytpfccbojllabjaa

/- The document's log: Open. -/
namespace Go.Proofs.Ytpfccbojllabjaa
open Go.RowKit

/-- A log of the document that was opened, or none. -/
def ROpened (w : World) (F : Nat → Prop) (M : Nat) (d : Dk) (e : Ending) (w' : World) : Prop :=
  ∃ F', RD w' F' M d.openL.2.2 ∧ Mv F F' w w' ∧
    ((d.openL.2.1 = none ∧ e = .returned (.tuple #[.pointer none, .int .i64 d.openL.1])) ∨
     (∃ s g G v vals, d.openL.2.1 = some s ∧ e = .returned (.tuple #[.pointer (some ⟨g, 0, none⟩), .int .i64 d.openL.1]) ∧ RWl w' G g M d.bytes s v vals ∧ (∀ k, G k → w.heap.size ≤ k) ∧ ∀ k, G k → ¬ F' k))
/-- The greatest one of the epochs of the first k heads. -/
def upto (d : Dk) : Nat → Nat
  | 0 => 0
  | k + 1 => max (upto d k) (headE (d.sec k) k)
theorem upto_two (d : Dk) : upto d 2 = d.newest := by simp [upto, Dk.newest]
theorem NewL.below {w w1 w' : World} {F : Nat → Prop} {g M B : Nat} {d : Dk} {ep nv dv : Value} {ls : List (List UInt8)} {k : Nat} (h : NewL w F g M B d ep nv dv ls k w1) (hb : Below w1.heap.size w1 w') : NewL w F g M B d ep nv dv ls k w' := by
  obtain ⟨v, vals, h1, h2, h3, h4, h5, h6⟩ := h
  exact ⟨v, vals, h1.below hb, h2.below hb h2.lt, (h3.below hb).mono (fun q e => ⟨e.1, Nat.lt_of_lt_of_le e.2 hb.size⟩), h4, h5.trans (Kp.of_below hb), Nat.le_trans h6 hb.size⟩
theorem find_stop {l : List UInt8} {p : Nat} (hp : p ≤ l.length) (h : ¬ ∃ f m, getF (l.drop p) = .ok (f, m) ∧ f.1 = 2) :
    findR (l.drop p) = ([], 0) ∧ ∃ kd body tt er, getA l p = (kd, body, tt, er) ∧ (er ≠ 0 ∨ er = 0 ∧ kd ≠ 2) := by
  cases hg : getF (l.drop p) with
  | error e =>
    have he := getF_err hg
    exact ⟨findR_err hg, _, _, _, _, getA_err hp hg, .inl (by omega)⟩
  | ok fk =>
    obtain ⟨f, k⟩ := fk
    have h2 : f.1 ≠ 2 := fun e => h ⟨f, k, hg, e⟩
    exact ⟨findR_kind hg h2, _, _, _, _, getA_ok hp hg, .inr ⟨rfl, h2⟩⟩

set_option maxRecDepth 100000 in
set_option maxHeartbeats 8000000 in
theorem ropen_any (M : Nat) (d : Dk) (F : Nat → Prop) (w : World) (hwl : d.waits.length ≤ 900000000) (h : RD w F M d) :
    Calls Try.prog 59 #[.pointer (some ⟨M, 0, none⟩)] w (ROpened w F M d) := by
  have hlen := h.len
  have hM := h.downCell
  obtain ⟨ms, cs, c0⟩ := h.safeCell
  have HL := Lib.hid (openL_after d)
  by_cases h6 : d.safe.length < 6
  · have HE : Hid (d.openL = (40, none, d)) := by show _ = _; rw [HL.out, if_pos h6]
    have HP := Lib.hid h
    clear h HL
    generalize d.safe.length = n at *
    go_enter Try.func59, Try.ntmps59
    go_wp2
    go_ret2
    unfold ROpened
    rw [HE.out]
    exact ⟨F, HP.out, Mv.refl _ _, .inl ⟨rfl, rfl⟩⟩
  · by_cases hd : d.down = true
    · have HE : Hid (d.openL = (6, none, d)) := by show _ = _; rw [HL.out, if_neg h6, if_pos hd]
      have HP := Lib.hid h
      rw [hd] at hM
      clear h HL hd
      generalize d.safe.length = n at *
      go_enter Try.func59, Try.ntmps59
      go_wp2
      go_ret2
      unfold ROpened
      rw [HE.out]
      exact ⟨F, HP.out, Mv.refl _ _, .inl ⟨rfl, rfl⟩⟩
    · have hdf : d.down = false := by simpa using hd
      rw [hdf] at hM
      have h6' : 6 ≤ d.safe.length := by omega
      have HE : Hid (d.openL = if (afterW d.wiped).1 = 0 then (0, some d.found, (afterW d.wiped).2) else ((afterW d.wiped).1, none, (afterW d.wiped).2)) := by show _ = _; rw [HL.out, if_neg h6, if_neg hd]
      have hok := h.ok
      have hal := Dk.area_len hok h6' d.newest
      have HRD : Hid (∀ W, Below w.heap.size w W → RD W F M d) := fun W hb => h.below hb
      have HHd : Hid (∀ W i, Below w.heap.size w W → i < 2 → Calls Try.prog 79 #[.pointer (some ⟨M, 0, none⟩), .int .i64 (i : Nat)] W (HeadR (d.sec i) i W)) := fun W i hb hi => rhead_meth M d F i W (by omega) hdf hi h6' (h.below hb)
      have hnl := newest_lt d
      have hb64 : 64 ≤ d.bytes := by have := (Dk.base_le h6' d.newest).2.2; unfold Dk.bytes; omega
      have HBy : Hid (∀ W, Below w.heap.size w W → Calls Try.prog 80 #[.pointer (some ⟨M, 0, none⟩), .int .u64 d.newest] W fun e w' => ∃ ga c, e = .returned (.slice (some ⟨ga, 0, none⟩) d.bytes c) ∧ w'.ownsRow W.heap.size 5 1 (.slice (some ⟨ga, 0, none⟩) d.bytes c) d.bytes (u8s (d.area d.newest)) ∧ Below W.heap.size W w' ∧ d.bytes ≤ c ∧ c ≤ 9223372036854775807) := fun W hb => by
        refine (rbytes_meth M d F d.newest W (by omega) (by omega) hdf h6' (h.below hb)).mono ?_
        rintro x w' ⟨Aa, ca, rfl, ho, hb⟩
        rw [hal] at ho ⊢
        obtain ⟨ga, ca', e6⟩ := own_someR ho (by omega)
        obtain ⟨A3, c3, e7, p4, p5⟩ := own_shape ho
        injection e6 with e8 _ e9
        injection e7 with e10 _ e11
        subst e8 e9 e11
        exact ⟨ga, ca, rfl, ho, hb, p4, by unfold maxLen at p5; omega⟩
      have hfo := found_ok d hok h6'
      have HFO := Lib.hid hfo
      have hFlt := Lib.hid h.lt
      have hbs : d.bytes ≤ 40000 := by unfold Dk.bytes Dk.half halfN; omega
      obtain ⟨hli1, hli2, hli3⟩ := findR_lies (d.area d.newest)
      have hliu := findR_used (d.area d.newest)
      have HW : Hid (∀ W g ga c, ¬ F g → ¬ F ga → RD W F M d → d.bytes ≤ c → c ≤ 9223372036854775807 → Rd W W.heap.size (some ⟨ga, 0, none⟩) d.bytes (d.area d.newest) → W.cell? ⟨g, 0, none⟩ = some (.pointer (some ⟨M, 0, none⟩)) → W.cell? ⟨g, 1, none⟩ = some (.int .u64 d.newest) →
          Calls Try.prog 82 #[.pointer (some ⟨g, 0, none⟩), .slice (some ⟨ga, 0, none⟩) d.bytes c, .int .i64 (findR (d.area d.newest)).2] W (RWiped W F g M (afterW d.wiped))) := fun W g ga c q1 q2 q3 q4 q5 q6 q7 q8 =>
        rwiped_meth g M d.newest (findR (d.area d.newest)).2 d.bytes c ga (d.area d.newest) (findR (d.area d.newest)).1 d F W (by omega) h6' hwl rfl q4 q5 (by rw [← hal]; exact hli2) hli1 q1 q2 q6 q3 q7 q8
      have Hrs : Hid (d.found = { epoch := d.newest, recs := (findR (d.area d.newest)).1, safe := (findR (d.area d.newest)).1.length, gone := false }) := rfl
      have hU2 := upto_two d
      have HUs : Hid (∀ k, upto d (k + 1) = max (upto d k) (headE (d.sec k) k)) := fun k => rfl
      have HU0 : Hid (upto d 0 = 0) := rfl
      have HUlt : Hid (∀ k, k ≤ 2 → upto d k < 18446744073709551616) := by
        have hh0 := headE_lt (d.sec 0) 0
        have hh1 := headE_lt (d.sec 1) 1
        intro k hk
        match k, hk with
        | 0, _ => show 0 < _; omega
        | 1, _ => show max 0 (headE (d.sec 0) 0) < _; omega
        | 2, _ => rw [hU2]; omega
      generalize d.area d.newest = area at *
      generalize d.newest = ep at *
      generalize hN : d.bytes = N at *
      generalize hnn : d.safe.length = n at *
      obtain ⟨⟨rs, en⟩, hfr⟩ : ∃ p, findR area = p := ⟨_, rfl⟩
      rw [hfr] at HW Hrs hli1 hli2 hli3 hliu
      simp only at HW Hrs hli1 hli2 hli3 hliu
      have hcnt := usedF_count rs
      have HN := Lib.hid hN
      have Hfr := Lib.hid hfr
      have Hal := Lib.hid hal
      have HU2 := Lib.hid hU2
      obtain ⟨i1, hi1, hy0, hy1, hy2⟩ := info_parts Try.infoBytes
      have Hi1 := Lib.hid hi1
      have Hy0 := Lib.hid hy0
      have Hy1 := Lib.hid hy1
      have Hy2 := Lib.hid hy2
      clear h HL hok hfo hd hdf hfr hal hi1 hy0 hy1 hy2 hN hU2 hli1 hli2 hli3
      go_enter Try.func59, Try.ntmps59
      go_wp2
      go_loopg [5] 2 (fun gk i wr => ∃ k : Nat, i = .int .i64 k ∧ k + gk = 2 ∧ Hid (Below w.heap.size w wr ∧ Bk wr w.heap.size 57 #[.pointer (some ⟨M, 0, none⟩), .int .u64 (upto d k : Nat), .slice none 0 0, .int .i64 0, .bool false]))
      case atStart => exact ⟨0, rfl, by omega, ⟨(Below.refl w.heap.size w).alloc (Nat.le_refl _) _, Bk.new w _ _⟩⟩
      case round =>
        obtain ⟨k, rfl, hk, HR⟩ := hrel
        obtain ⟨hb1, hbk⟩ := HR.out
        by_cases hk2 : k < 2
        · have HC := Lib.hid (HHd.out wr k hb1 hk2)
          have hki : (k : Int) < 2 := by omega
          have Hb1 := Lib.hid hb1
          have Hbk := Lib.hid hbk
          have HUk := HUs.out k
          have hul := HUlt.out k (by omega)
          clear hb1 hbk HR
          generalize upto d k = u at *
          go_wp2_with fail
          refine HC.out.mono ?_
          rintro x w2 ⟨v, b, rfl, hE, hv, hb2⟩
          rw [hE] at HUk
          have HB2 := Lib.hid (below_then Hb1.out hb2)
          have hbk2 := Hbk.out.below hb2 Hbk.out.lt
          have c1 := hbk2.cell 1
          have f1 := hbk2.frozen 1
          simp only [List.getElem?_toArray, List.getElem?_cons_zero, List.getElem?_cons_succ] at c1
          have Hbk2 := Lib.hid hbk2
          clear hb2 hbk2 HC Hb1 Hbk
          cases b with
          | false =>
            have HUk2 : Hid (upto d (k + 1) = u) := by show _ = _; rw [HUk]; simp
            clear HUk hE
            go_wp2
            go_roundg (gk - 1)
            case measure => omega
            case rel => exact ⟨k + 1, by go_num, by omega, ⟨HB2.out, by rw [HUk2.out]; exact Hbk2.out⟩⟩
          | true =>
            by_cases hvu : u < v
            · have HUk2 : Hid (upto d (k + 1) = v) := by show _ = _; rw [HUk]; simp; omega
              have hvi : (u : Int) < (v : Int) := by omega
              have HS : Hid (Below w.heap.size w (w2.setCell ⟨w.heap.size, 1, none⟩ (.int .u64 v)) ∧ Bk (w2.setCell ⟨w.heap.size, 1, none⟩ (.int .u64 v)) w.heap.size 57 #[.pointer (some ⟨M, 0, none⟩), .int .u64 v, .slice none 0 0, .int .i64 0, .bool false]) := ⟨HB2.out.setCell (Nat.le_refl _) _, Hbk2.out.set_ 1 _⟩
              clear HUk hE HB2 Hbk2
              go_wp2
              go_roundg (gk - 1)
              case measure => omega
              case rel => exact ⟨k + 1, by go_num, by omega, ⟨HS.out.1, by rw [HUk2.out]; exact HS.out.2⟩⟩
            · have HUk2 : Hid (upto d (k + 1) = u) := by show _ = _; rw [HUk]; simp; omega
              have hvi : ¬ (u : Int) < (v : Int) := by omega
              clear HUk hE
              go_wp2
              go_roundg (gk - 1)
              case measure => omega
              case rel => exact ⟨k + 1, by go_num, by omega, ⟨HB2.out, by rw [HUk2.out]; exact Hbk2.out⟩⟩
        · obtain rfl : k = 2 := by omega
          rw [HU2.out] at hbk
          have c1 := hbk.cell 1
          simp only [List.getElem?_toArray, List.getElem?_cons_zero, List.getElem?_cons_succ] at c1
          have Hb1 := Lib.hid hb1
          have Hbk := Lib.hid hbk
          have HC := Lib.hid (HBy.out wr hb1)
          clear hb1 hbk HR HHd HBy HUs HU0 HUlt HU2
          go_wp2_with fail
          refine HC.out.mono ?_
          rintro x w2 ⟨ga, cb, rfl, ho2, hb2, hcb, hcm⟩
          have hga := ho2.lt ga rfl
          have hgl : w.heap.size < wr.heap.size := Hbk.out.lt
          have hbk2 := Hbk.out.below hb2 Hbk.out.lt
          have HFg : Hid (∀ q, F q → q < w2.heap.size ∧ q ≠ w.heap.size) := fun q hf => by have := hFlt.out q hf; have := hb2.size; omega
          have HRow : Hid (∀ W, Kp (fun q => q = w.heap.size ∨ w2.heap.size ≤ q) w2 W → Rd W W.heap.size (some ⟨ga, 0, none⟩) N area) := fun W hk => ((Rd.of_own ho2).kpA hk (fun ad e => by injection e with e; subst e; simp only; omega)).more hk.size
          have HBw : Hid (Below w.heap.size w w2) := below_then Hb1.out hb2
          have HNL0 : Hid (NewL w2 F w.heap.size M w2.heap.size d (.int .u64 ep) (.int .i64 0) (.bool false) rs 0 w2) := ⟨.slice none 0 0, [], HRD.out w2 HBw.out, hbk2, by rw [List.take_zero]; exact LstV.nil _ _, by simp [Value.ownBlock], Kp.refl _ _, Nat.le_refl _⟩
          have Hga : Hid (¬ F ga) := fun hf => by have := hFlt.out ga hf; omega
          have Hgs : Hid (w.heap.size < w2.heap.size) := by show _ < _; have := hb2.size; omega
          have c1 := hbk2.cell 1
          simp only [List.getElem?_toArray, List.getElem?_cons_zero, List.getElem?_cons_succ] at c1
          clear ho2 hb2 hga hgl hbk2 HC Hb1 Hbk c1
          obtain ⟨g, hg⟩ : ∃ g, w.heap.size = g := ⟨_, rfl⟩
          rw [hg] at HFg HRow HNL0 Hgs
          have Hg := Lib.hid hg
          rw [hg]
          clear hg
          go_wp2
          go_loopg [9] N (fun gk at_ wr => ∃ (k p : Nat), at_ = .int .i64 (p : Nat) ∧ p + gk = N ∧ 10 * k ≤ p ∧ Hid (∃ dn : List (List UInt8), dn.length = k ∧ findR area = (dn ++ (findR (area.drop p)).1, p + (findR (area.drop p)).2)) ∧ Hid (NewL w2 F g M w2.heap.size d (.int .u64 ep) (.int .i64 0) (.bool false) rs k wr))
          case atStart => exact ⟨0, 0, rfl, by omega, by omega, ⟨[], rfl, by simp⟩, HNL0⟩
          case round =>
            clear HNL0
            obtain ⟨k, p, rfl, hp, hkp, HD, HR⟩ := hrel
            obtain ⟨v0, vals0, _, _, _, _, hkp0, _⟩ := HR.out
            have hrow := HRow.out wr hkp0
            have HG := refGetF_any (some ⟨ga, 0, none⟩) N cb p area wr hcb (by omega) hcm hrow
            have HX : Hid (∀ W, Below wr.heap.size wr W → NewL w2 F g M w2.heap.size d (.int .u64 ep) (.int .i64 0) (.bool false) rs k W) := fun W hb => HR.out.below hb
            clear hrow hkp0 HR
            by_cases hok2 : ∃ f m, getF (area.drop p) = .ok (f, m) ∧ f.1 = 2
            · obtain ⟨⟨kd, body⟩, m, hgf, hf2⟩ := hok2
              have hf2 : kd = 2 := hf2
              subst hf2
              have hle := getF_le hgf
              rw [List.length_drop, Hal.out] at hle
              rw [getA_ok (by rw [Hal.out]; omega) hgf] at HG
              have hnx := findR_ok hgf rfl
              rw [List.drop_drop] at hnx
              obtain ⟨dn, hdn, hfd⟩ := HD.out
              rw [hnx] at hfd
              simp only at hfd
              have hrs : rs = dn ++ (body :: (findR (area.drop (p + m))).1) := by rw [Hfr.out] at hfd; injection hfd
              have hkr : k < rs.length := by rw [hrs, ← hdn]; simp
              have hrk : rs[k] = body := by
                have : rs[k]? = some body := by rw [hrs, List.getElem?_append_right (by omega), hdn, Nat.sub_self]; rfl
                rw [List.getElem?_eq_getElem hkr] at this
                injection this
              have HD2 : Hid (∃ dn : List (List UInt8), dn.length = k + 1 ∧ findR area = (dn ++ (findR (area.drop (p + m))).1, p + m + (findR (area.drop (p + m))).2)) := ⟨dn ++ [body], by simp [hdn], by rw [hfd, Nat.add_assoc]; simp⟩
              have Hkr := Lib.hid hkr
              have Hrk : Hid (∀ h : k < rs.length, rs[k] = body) := fun _ => hrk
              have hb4 : body.length ≤ 1024 := by have := hle.2.2.1; simp only at this; omega
              have hm10 : 10 ≤ m ∧ p + m ≤ N := by omega
              simp only at HG
              have HG := Lib.hid HG
              have Hb4 : Hid (∃ nb, body.length = nb) := ⟨_, rfl⟩
              obtain ⟨nb, hnb⟩ := Hb4.out
              rw [hnb] at hb4 HG
              have Hnb := Lib.hid hnb
              clear hgf hle hnx hfd hrs hkr hrk hdn HD Hb4 hnb
              go_wp2_with fail
              refine HG.out.mono ?_
              rintro x w3 ⟨vb, rfl, hob, hbb⟩
              obtain ⟨Av, cv, rfl, hc3, hc4⟩ := own_shape hob
              have hbX : Below wr.heap.size wr (w3.alloc (.cells #[.int .u8 2, .slice Av nb cv] 105)) := hbb.alloc hbb.size _
              have hbk := Bk.new w3 105 #[.int .u8 2, .slice Av nb cv]
              have n0 := hbk.cell 0
              have n1 := hbk.cell 1
              simp only [List.getElem?_toArray, List.getElem?_cons_zero, List.getElem?_cons_succ] at n0 n1
              obtain ⟨v2, vals2, hD, hb, hl2, hne2, hkp2, hB2⟩ := HX.out _ hbX
              have hvl : vals2.length ≤ 4000 := by have := hl2.len; rw [List.length_take] at this; omega
              have hwr2 : w2.heap.size ≤ wr.heap.size := by obtain ⟨_, _, _, _, _, _, _, q⟩ := HX.out wr (Below.refl _ _); exact q
              have hob1 : (w3.alloc (.cells #[.int .u8 2, .slice Av nb cv] 105)).ownsRow w2.heap.size 5 1 (.slice Av nb cv) nb (u8s body) := own_mono (own_below hob ((Below.refl w3.heap.size w3).alloc (Nat.le_refl _) _) (fun k e => (hob.lt k e).2)) hwr2
              go_wp2
              obtain ⟨X, hXX⟩ : ∃ X, w3.alloc (.cells #[.int .u8 2, .slice Av nb cv] 105) = X := ⟨_, rfl⟩
              rw [hXX] at hob1 hD hb hl2 hkp2 hB2 n0 n1
              rw [hXX]
              have HSt2 : Hid (∀ W, Below X.heap.size X W → RD W F M d ∧ Bk W g 57 #[.pointer (some ⟨M, 0, none⟩), .int .u64 ep, v2, .int .i64 0, .bool false] ∧ LstV W (fun q => w2.heap.size ≤ q ∧ q < W.heap.size) v2 vals2 (rs.take k) ∧ Kp (fun q => q = g ∨ w2.heap.size ≤ q) w2 W ∧ w2.heap.size ≤ W.heap.size ∧ W.ownsRow w2.heap.size 5 1 (.slice Av nb cv) nb (u8s body)) := fun W hbb =>
                ⟨hD.below hbb, hb.below hbb hb.lt, (hl2.below hbb).mono (fun q e => ⟨e.1, Nat.lt_of_lt_of_le e.2 hbb.size⟩), hkp2.trans (Kp.of_below hbb), Nat.le_trans hB2 hbb.size, own_below hob1 hbb (fun k e => (hob1.lt k e).2)⟩
              have Hd : Hid (∀ o, RD (X.alloc o).drew F M d ∧ Bk (X.alloc o).drew g 57 #[.pointer (some ⟨M, 0, none⟩), .int .u64 ep, v2, .int .i64 0, .bool false] ∧ LstV (X.alloc o).drew (fun q => w2.heap.size ≤ q ∧ q < (X.alloc o).drew.heap.size) v2 vals2 (rs.take k) ∧ Kp (fun q => q = g ∨ w2.heap.size ≤ q) w2 (X.alloc o).drew ∧ w2.heap.size ≤ (X.alloc o).drew.heap.size ∧ (X.alloc o).drew.ownsRow w2.heap.size 5 1 (.slice Av nb cv) nb (u8s body)) := fun o => HSt2.out _ ((Below.refl _ _).alloc (Nat.le_refl _) o).drew
              have c2 : X.cell? ⟨g, 2, none⟩ = some v2 := hb.cell 2
              have c2c : ∀ o, (X.alloc o).drew.cell? ⟨g, 2, none⟩ = some v2 := fun o => (Hd.out o).2.1.cell 2
              have fz2 : X.frozen? ⟨g, 2, none⟩ = false := hb.frozen 2
              have Hne2 := Lib.hid hne2
              clear hXX hob1 hD hb hl2 hne2 hkp2 hB2 hbX hob hbb hbk HG HX n0
              go_region_law ((refine step_append_app _ rfl _ _ 28 (by rfl) 0 40 i1 (.slice none 0 0) 1 24 Try.underlying28 Hi1.out Hy0.out Hy1.out Hy2.out rfl v2 vals2.length vals2 (by rfl) (Hd.out (.cells #[.slice Av nb cv] 40)).2.2.1.row (some ⟨X.heap.size, 0, none⟩) 1 1 [.slice Av nb cv] (by rfl) rfl (by intro e; cases e) (one_new _ _ _ rfl) (by intro u hu; simp at hu; subst hu; rfl) (by unfold maxLen; omega) (by omega) (by simp) ?_); intro v' w5 happ; (have hk3 : Kp (fun k => v2.ownBlock = some k) _ w5 := Kp.of_row happ.grow (fun g e => e)); (have kb := (Hd.out (.cells #[.slice Av nb cv] 40)).2.1.kp hk3 (fun e => Hne2.out e)); (have k2 := kb.cell 2); (have kf := kb.frozen 2); (obtain ⟨Av2, cv2, rfl, _⟩ := own_shape happ.own))
              all_goals
                obtain ⟨q1, q2, q3, q4, q5, q6⟩ := Hd.out (.cells #[.slice Av nb cv] 40)
                have HN2 : Hid (NewL w2 F g M w2.heap.size d (.int .u64 ep) (.int .i64 0) (.bool false) rs (k + 1) (w5.setCell ⟨g, 2, none⟩ (.slice Av2 (vals2.length + 1) cv2))) := NewL.next Hkr.out HFg.out q1 q2 q3 Hne2.out q4 q5 (by rw [Hrk.out _]; exact q6) happ
                clear q1 q2 q3 q4 q5 q6 happ hk3 kb k2 kf c2 c2c fz2 Hd HSt2
                go_wp2
                go_roundg (gk - m)
                case measure => omega
                case rel => exact ⟨k + 1, p + m, by go_num, by omega, by omega, HD2, HN2⟩
            · obtain ⟨hst, kd, body, tt, er, hA, hcnd⟩ := find_stop (by rw [Hal.out]; omega) hok2
              rw [hA] at HG
              simp only at HG
              obtain ⟨dn, hdn, hfd⟩ := HD.out
              rw [hst, Hfr.out] at hfd
              have hrs : rs = dn := by have := congrArg Prod.fst hfd; simpa using this
              have hen : en = p := by have := congrArg Prod.snd hfd; simpa using this
              have hk : rs.length = k := by rw [hrs]; exact hdn
              subst hen
              have Hk := Lib.hid hk
              have HG := Lib.hid HG
              have Hb4 : Hid (∃ nb, body.length = nb) := ⟨_, rfl⟩
              obtain ⟨nb, hnb⟩ := Hb4.out
              rw [hnb] at HG
              clear hst hA hfd hrs hdn HD hok2 Hb4 hnb hk
              have hkdl := kd.toNat_lt
              have hcn : ((er != 0) = true) ∨ (er = 0 ∧ ((kd.toNat : Int) != 2) = true) := by
                rcases hcnd with hne | ⟨h0, hkd⟩
                · exact .inl (by simpa using hne)
                · exact .inr ⟨h0, by simp; intro h; exact hkd (UInt8.toNat_inj.1 (by have : (2 : UInt8).toNat = 2 := rfl; omega))⟩
              clear hcnd
              rcases hcn with hne1 | ⟨rfl, hkd1⟩
              all_goals
                go_wp2_with fail
                refine HG.out.mono ?_
                rintro x w3 ⟨vb, rfl, hob, hbb⟩
                obtain ⟨Av, cv, rfl, _⟩ := own_shape hob
                have hbX : Below wr.heap.size wr (w3.alloc (.cells #[.int .u8 (kd.toNat : Int), .slice Av nb cv] 105)) := hbb.alloc hbb.size _
                obtain ⟨v2, vals2, hD, hb, hl2, hne2, hkp2, hB2⟩ := HX.out _ hbX
                obtain ⟨Av2, cv2, rfl, _⟩ := own_shape hl2.row
                have hvl : vals2.length = rs.length := by have := hl2.len; rw [List.length_take] at this; rw [this, Hk.out]; omega
                have Hhl : Hid (vals2.length = rs.length) := hvl
                have hall : rs.take k = rs := List.take_of_length_le (by rw [Hk.out]; exact Nat.le_refl _)
                rw [hall] at hl2
                have c2 := hb.cell 2
                have fz3 := hb.frozen 3
                have c3 := hb.cell 3
                simp only [List.getElem?_toArray, List.getElem?_cons_zero, List.getElem?_cons_succ] at c2 c3
                have hk4 : ∀ W, Kp (· = g) W (W.setCell ⟨g, 3, none⟩ (.int .i64 (vals2.length : Nat))) := fun W => Kp.set_ (F := (· = g)) (p := ⟨g, 3, none⟩) rfl _
                have hb4 := hb.set_ 3 (.int .i64 (vals2.length : Nat))
                have hD4 := hD.kp (hk4 _) (fun q hf e => (HFg.out q hf).2 e)
                have hkp4 := hkp2.trans ((hk4 _).mono fun q e => .inl e)
                have HCw := Lib.hid (HW.out _ g ga cb (fun hf => (HFg.out g hf).2 rfl) Hga.out hD4 hcb hcm (HRow.out _ hkp4) (hb4.cell 0) (hb4.cell 1))
                have hMv : Mv F F w _ := Mv.of (Kp.fresh (B := w.heap.size) (((Kp.of_below (F := fun q => F q ∨ w.heap.size ≤ q) HBw.out).trans (hkp4.mono (fun q e => .inr (by have := Hg.out; have := Hgs.out; rcases e with e | e <;> omega))))) (Nat.le_refl _))
                have hl4 : LstV _ (fun q => q = g ∨ (w2.heap.size ≤ q ∧ q < _)) (.slice Av2 vals2.length cv2) vals2 rs := (hl2.mono (fun q e => .inr e)).set_ (hk4 _) hne2 (fun cs e => by
                  have := bk_heap hb
                  rw [this] at e
                  injection e with e
                  injection e with _ e _
                  exact absurd e (by decide))
                have hsz : (w3.alloc (.cells #[.int .u8 (kd.toNat : Int), .slice Av nb cv] 105)).heap.size = ((w3.alloc (.cells #[.int .u8 (kd.toNat : Int), .slice Av nb cv] 105)).setCell ⟨g, 3, none⟩ (.int .i64 (vals2.length : Nat))).heap.size := by simp [World.setCell]
                have hg4 : g < (w3.alloc (.cells #[.int .u8 (kd.toNat : Int), .slice Av nb cv] 105)).heap.size := hb.lt
                have HS4 : Hid (Bk ((w3.alloc (.cells #[.int .u8 (kd.toNat : Int), .slice Av nb cv] 105)).setCell ⟨g, 3, none⟩ (.int .i64 (vals2.length : Nat))) g 57 #[.pointer (some ⟨M, 0, none⟩), .int .u64 ep, .slice Av2 vals2.length cv2, .int .i64 (vals2.length : Nat), .bool false] ∧ LstV ((w3.alloc (.cells #[.int .u8 (kd.toNat : Int), .slice Av nb cv] 105)).setCell ⟨g, 3, none⟩ (.int .i64 (vals2.length : Nat))) (fun q => q = g ∨ (w2.heap.size ≤ q ∧ q < (w3.alloc (.cells #[.int .u8 (kd.toNat : Int), .slice Av nb cv] 105)).heap.size)) (.slice Av2 vals2.length cv2) vals2 rs ∧ Value.ownBlock (.slice Av2 vals2.length cv2) ≠ some g) := ⟨hb4, hl4, hne2⟩
                have HMv := Lib.hid hMv
                have Hsz := Lib.hid hsz
                have Hg4 := Lib.hid hg4
                clear hb hl2 hne2 hkp2 hB2 hD hk4 hb4 hD4 hkp4 hMv hl4 hsz hg4 hob hbb hbX HG HX HRow hall hvl
                go_wp2_with fail
                refine HCw.out.mono ?_
                rintro x w5 ⟨hx, F5, hp5, hm5⟩
                have HFin : Hid (∀ k, (k = g ∨ (w2.heap.size ≤ k ∧ k < (w3.alloc (.cells #[.int .u8 (kd.toNat : Int), .slice Av nb cv] 105)).heap.size)) → ¬ F k) := fun q e hf => by
                  have := HFg.out q hf
                  rcases e with e | e <;> omega
                rcases hx with ⟨hr0, rfl⟩ | ⟨hr0, rfl⟩
                · have HE2 := HE.out.trans (if_pos hr0)
                  have hR : RWl w5 (fun q => q = g ∨ (w2.heap.size ≤ q ∧ q < (w3.alloc (.cells #[.int .u8 (kd.toNat : Int), .slice Av nb cv] 105)).heap.size)) g M d.bytes d.found (.slice Av2 vals2.length cv2) vals2 := by
                    have h4 := hm5.kp.size
                    have h5 := Hsz.out
                    have h6 := Hg4.out
                    rw [HN.out, Hrs.out]
                    refine ⟨.inl rfl, fun q e => ?_, by have := HFO.out; rw [Hrs.out] at this; exact this, ?_, HS4.out.2.1.kp hm5.kp HFin.out, HS4.out.2.2⟩
                    · rcases e with e | e <;> omega
                    · have := HS4.out.1.kp hm5.kp (HFin.out g (.inl rfl))
                      have e : ((rs.length : Nat) : Int) = (vals2.length : Int) := by rw [Hhl.out]
                      show Bk w5 g _ #[_, _, .slice Av2 vals2.length cv2, .int .i64 ((rs.length : Nat) : Int), .bool false]
                      rw [e]
                      exact this
                  have hQ : ROpened w F M d (.returned (.tuple #[.pointer (some ⟨g, 0, none⟩), .int .i64 0])) w5 := by
                    unfold ROpened
                    rw [HE2]
                    refine ⟨F5, hp5, HMv.out.trans hm5, .inr ⟨d.found, g, _, _, vals2, rfl, rfl, hR, fun q e => ?_, fun q e hf => ?_⟩⟩
                    · have := Hg.out; have := Hgs.out
                      rcases e with e | e <;> omega
                    · rcases hm5.new q hf with h | h
                      · exact HFin.out q e h
                      · have h5 := Hsz.out
                        have h6 := Hg4.out
                        rcases e with e | e <;> omega
                  have HQ := Lib.hid hQ
                  clear hQ hR hp5 hm5 hr0 HE2 HFin HS4 HMv
                  go_wp2
                  go_ret2
                  exact HQ.out
                · have HE2 := HE.out.trans (if_neg hr0)
                  have hQ : ROpened w F M d (.returned (.tuple #[.pointer none, .int .i64 (afterW d.wiped).1])) w5 := by
                    unfold ROpened
                    rw [HE2]
                    exact ⟨F5, hp5, HMv.out.trans hm5, .inl ⟨rfl, rfl⟩⟩
                  have HQ := Lib.hid hQ
                  clear hQ hp5 hm5 hr0 HE2 HFin HS4 HMv
                  go_wp2
                  go_ret2
                  exact HQ.out
end Go.Proofs.Ytpfccbojllabjaa

/- The program's log: Records. -/
namespace Go.Proofs.Ytpfccbojllabjaa
open Go.RowKit

theorem scan_frames (rs : List (List UInt8)) (h : ∀ r ∈ rs, r.length ≤ 1024) : scanF (framesF rs) = (rs.map (fun b => ((2, b) : Fr)), usedF rs) := by
  induction rs with
  | nil => exact scanF_err (e := 10) rfl
  | cons r rs ih =>
    have hg := getF_put (2, r) (framesF rs) (h r (List.mem_cons_self ..))
    rw [framesF_cons, scanF_ok hg, List.drop_left' (putF_len (2, r)), ih fun x hx => h x (List.mem_cons_of_mem _ hx), usedF_cons]
    rfl
/-- Lists that are told, each its own. -/
def ToldL (L : List (List UInt8)) (w : World) (e : Ending) (w' : World) : Prop := ∃ A c vals, e = .returned (.slice A L.length c) ∧ w'.ownsRow w.heap.size 40 1 (.slice A L.length c) L.length vals ∧ Fam w' w.heap.size vals L ∧ Below w.heap.size w w'

theorem frames_cells {w : World} {base n c : Nat} {A : Option Addr} {vals : List Value} {fs : List Fr} (h : Frames w base (.slice A n c) vals fs) (k : Nat) (hk : k < n) :
    ∃ g, A = some ⟨g, 0, none⟩ ∧ g < w.heap.size ∧ ∃ (kd : UInt8) (Ax : Option Addr) (nx cx : Nat), vals[k]? = some (.slice Ax nx cx) ∧ w.cell? ⟨g, k * 2, none⟩ = some (.int .u8 (kd.toNat : Int)) ∧ w.cell? ⟨g, k * 2 + 1, none⟩ = some (.slice Ax nx cx) := by
  have hlen := h.len
  obtain ⟨A0, c0, hv, hc1, hc2⟩ := own_shape h.row
  injection hv with e1 hnf e3
  obtain ⟨b, o, A', n', c', hA, hlt, hck, hc, _⟩ := h.rd.2 k (by omega)
  rcases h.row.2 with ⟨_, h0⟩ | ⟨g, cap, cur, hv0, hg, hh, _⟩
  · omega
  · have hA2 : A = some ⟨g, 0, none⟩ := by injection hv0
    subst hA2
    obtain ⟨q1, q2⟩ := frCells_at fs vals h.len k (by omega)
    have q1 := h.row.cells (g := g) rfl _ _ q1
    have q2 := h.row.cells (g := g) rfl _ _ q2
    rw [Addr.add_lit, Nat.zero_add] at q1 q2
    have hvk : vals[k]? = some (vals[k]'(by omega)) := List.getElem?_eq_getElem _
    have ho := h.fam.each k _ hvk
    obtain ⟨Ax, cx, hx, _⟩ := own_shape ho
    refine ⟨g, rfl, (Array.getElem?_eq_some_iff.1 hh).1, _, Ax, ((fs.map (·.2)).getD k []).length, cx, ?_, q1, ?_⟩
    · rw [hvk, hx]
    · rw [q2, hx]

set_option maxRecDepth 100000 in
set_option maxHeartbeats 4000000 in
theorem records_any (g gd : Nat) (d : Dk) (s : Lg) (H : Nat → Prop) (w : World) (h : PB w H g gd d s) : Calls Try.prog 24 #[.pointer (some ⟨g, 0, none⟩)] w (ToldL s.tellL w) := by
  obtain ⟨F, G, hp, hw, hFG, hFH, hGH, hH⟩ := h
  obtain ⟨i1, hi1, hy0, hy1, hy2⟩ := info_parts Try.infoBytes
  have hlen := hp.len
  have hbs : d.bytes ≤ 40000 := by unfold Dk.bytes Dk.half halfN; omega
  have hL : s.tellL.length ≤ 40000 := by
    unfold Lg.tellL
    cases hgone : s.gone with
    | true => simp
    | false => have := usedF_count s.recs; have := hw.ok.fits; simp; omega
  have hmain : ∃ A n c en, w.cell? ⟨g, 2, none⟩ = some (.slice A n c) ∧ w.cell? ⟨g, 3, none⟩ = some (.int .i64 (en : Nat)) ∧ en ≤ n ∧ n ≤ c ∧ c ≤ 9223372036854775807 ∧ (A = none ∧ n = 0 ∧ c = 0 ∨ ∃ ga, A = some ⟨ga, 0, none⟩) ∧
      ∀ W, Below w.heap.size w W → Calls Try.prog 60 #[.slice A en c] W fun e w' => ∃ Af cf vals, e = .returned (.tuple #[.slice Af s.tellL.length cf, .int .i64 (usedF s.tellL : Nat)]) ∧ Frames w' W.heap.size (.slice Af s.tellL.length cf) vals (s.tellL.map fun b => ((2, b) : Fr)) ∧ Below W.heap.size W w' := by
    have key : ∀ (A : Option Addr) (c : Nat) (L : List (List UInt8)) (W : World), usedF L ≤ c → usedF L ≤ 40000 → c ≤ 9223372036854775807 → (∀ r ∈ L, r.length ≤ 1024) → Rd W W.heap.size A (usedF L) (framesF L) →
        Calls Try.prog 60 #[.slice A (usedF L) c] W fun e w' => ∃ Af cf vals, e = .returned (.tuple #[.slice Af L.length cf, .int .i64 (usedF L : Nat)]) ∧ Frames w' W.heap.size (.slice Af L.length cf) vals (L.map fun b => ((2, b) : Fr)) ∧ Below W.heap.size W w' := fun A c L W h1 h2 h3 h4 h5 => by
      refine (frameScan_any A (usedF L) c (framesF L) W h1 (by omega) h3 h5).mono ?_
      rw [scan_frames L h4]
      rintro e w' ⟨v, vals, he, hf, hb⟩
      obtain ⟨Af, cf, rfl, _⟩ := own_shape hf.row
      simp only [List.length_map] at hf he
      exact ⟨Af, cf, vals, he, hf, hb⟩
    unfold Lg.tellL
    cases hgone : s.gone with
    | true =>
      have hb := hw.dead hgone
      exact ⟨none, 0, 0, 0, hb.cell 2, hb.cell 3, Nat.le_refl _, Nat.le_refl _, by omega, .inl ⟨rfl, rfl, rfl⟩, fun W hW => key none 0 [] W (Nat.le_refl _) (by decide) (by omega) (by simp) (Rd.nil _ _ _)⟩
    | false =>
      obtain ⟨ga, c, hga, hl⟩ := hw.live hgone
      have hll := hl.len
      have hok := hw.ok
      refine ⟨some ⟨ga, 0, none⟩, d.bytes, c, usedF s.recs, hl.c1 (o := 1) rfl, hl.c2 (o := 1) rfl, hok.fits, hll.2.1, hll.2.2, .inr ⟨ga, rfl⟩, fun W hW => ?_⟩
      refine key _ c s.recs W (by have := hok.fits; omega) (by have := hok.fits; omega) hll.2.2 hok.small ?_
      have := rd_part (hl.below hW).rd 0 (usedF s.recs) (by have := hok.fits; omega)
      rw [List.drop_zero, full_take] at this
      exact this
  obtain ⟨A, n, c, en, c2, c3, hen, hnc, hcm, hA, hsc⟩ := hmain
  have HSC := Lib.hid hsc
  clear hp hw hFG hFH hGH hH hsc hbs hlen
  generalize hLL : s.tellL = L at *
  generalize hNN : L.length = N at *
  have HNN := Lib.hid hNN
  have HLL := Lib.hid hLL
  clear hLL hNN
  rcases hA with ⟨rfl, rfl, rfl⟩ | ⟨ga, rfl⟩
  · obtain rfl : en = 0 := by omega
    go_enter Try.func24, Try.ntmps24
    go_wp2
    go_region_law (first | (go_simp; go_at_call 60; refine (HSC.out _ (Below.refl _ _).drew).mono ?_; rintro x w2 ⟨Af, cf, vals, rfl, hf, hb⟩))
    all_goals
      have HFC : Hid (∀ k, k < N → _) := fun k hk => frames_cells hf k hk
      have HV : Hid (vals.length = N ∧ Fam w2 w.heap.size vals L) := by
        have h1 := hf.len
        have h2 := hf.fam
        rw [List.length_map, HNN.out] at h1
        rw [List.map_map] at h2
        have : List.map ((fun x => x.2) ∘ fun b => ((2, b) : Fr)) L = L := by
          rw [show ((fun x : Fr => x.2) ∘ fun b => ((2, b) : Fr)) = id from rfl, List.map_id]
        rw [this] at h2
        exact ⟨h1, h2⟩
      have hwb : Below w.heap.size w w2 := (Below.refl w.heap.size w).drew.trans hb
      have HWB := Lib.hid hwb
      clear hf hb hwb HSC c2 c3
      go_wp2
      go_loopg [3, 27] N (fun gk v i wr => ∃ (k : Nat) (V : Value), v = V ∧ i = .int .i64 k ∧ k + gk = N ∧ Hid (wr.ownsRow w2.heap.size 40 1 V k (vals.take k)) ∧ Hid (Below w2.heap.size w2 wr))
      case atStart => exact ⟨0, _, rfl, rfl, by omega, World.ownsRow_nil _ _ _ _, Below.refl _ _⟩
      case round =>
        obtain ⟨k, V, rfl, rfl, hk, HVr, HB⟩ := hrel
        obtain ⟨Av, cv, rfl, hcv⟩ := own_shape HVr.out
        by_cases hkn : k < N
        · obtain ⟨gf, rfl, hlt, kd, Ax, nx, cx, hvk, W0, W1⟩ := HFC.out k hkn
          have r0 := (HB.out.cell (p := ⟨gf, k * 2, none⟩) hlt).trans W0
          have r1 := (HB.out.cell (p := ⟨gf, k * 2 + 1, none⟩) hlt).trans W1
          have ht : vals.take (k + 1) = vals.take k ++ [.slice Ax nx cx] := by
            rw [List.take_add_one, hvk]; rfl
          have Ht := Lib.hid ht
          have g1 : (k : Int) < (N : Int) := by omega
          have hwz := HWB.out.size
          have HW2 : Hid (∀ o, (wr.alloc o).ownsRow w2.heap.size 40 1 (.slice Av k cv) k (vals.take k)) := fun o => HVr.out.alloc o
          clear ht hvk HFC
          go_wp2_with (at_builtin; go_loud (refine wpList_append_app _ rfl _ _ 28 rfl w2.heap.size 40 i1 (.slice none 0 0) 1 24 Try.underlying28 hi1 hy0 hy1 hy2 rfl _ _ _ rfl ((HW2.out _).alloc _) (some ⟨wr.heap.size + 1, 0, none⟩) 1 1 [.slice Ax nx cx] rfl rfl (by intro e; cases e) (one_new _ _ _ (by simp)) (by intro u hu; simp at hu; subst hu; rfl) (by unfold maxLen; omega) (by omega) (by have := HB.out.size; simp; omega) ?_))
          intro v' w3 ha
          have HV3 : Hid (w3.ownsRow w2.heap.size 40 1 v' (k + 1) (vals.take (k + 1))) := Lib.hid (by rw [Ht.out]; exact ha.own)
          have hsz := HB.out.size
          have HB3 : Hid (Below w2.heap.size w2 w3) := by
            have hba := (HB.out.alloc hsz (.cells #[.int .u8 (kd.toNat : Int), .slice Ax nx cx] 105)).alloc (by simp; omega) (.cells #[.slice Ax nx cx] 40)
            exact ha.below hba (by simp; omega) (own_block_ge HVr.out)
          clear ha HVr HB r0 r1 HW2 hsz
          go_wp2
          go_roundg (gk - 1)
          case measure => omega
          case rel => exact ⟨k + 1, v', rfl, by go_num, by omega, HV3, HB3⟩
        · obtain rfl : k = N := by omega
          have hf : vals.take k = vals := List.take_of_length_le (by rw [HV.out.1]; exact Nat.le_refl _)
          rw [hf] at HVr
          have HFin := Lib.hid (HV.out.2.up HB.out)
          have HBf := Lib.hid (HWB.out.trans (HB.out.mono HWB.out.size))
          go_wp2
          go_ret
          refine (⟨Av, cv, vals, ?_, ?_, HFin.out, HBf.out⟩ : ToldL L w _ _)
          · rw [HNN.out]; rfl
          · rw [HNN.out]; exact own_mono HVr.out HWB.out.size
  · have henc : en ≤ c := by omega
    go_enter Try.func24, Try.ntmps24
    go_wp2
    go_region_law (first | (go_simp; go_at_call 60; refine (HSC.out _ (Below.refl _ _).drew).mono ?_; rintro x w2 ⟨Af, cf, vals, rfl, hf, hb⟩))
    all_goals
      have HFC : Hid (∀ k, k < N → _) := fun k hk => frames_cells hf k hk
      have HV : Hid (vals.length = N ∧ Fam w2 w.heap.size vals L) := by
        have h1 := hf.len
        have h2 := hf.fam
        rw [List.length_map, HNN.out] at h1
        rw [List.map_map] at h2
        have : List.map ((fun x => x.2) ∘ fun b => ((2, b) : Fr)) L = L := by
          rw [show ((fun x : Fr => x.2) ∘ fun b => ((2, b) : Fr)) = id from rfl, List.map_id]
        rw [this] at h2
        exact ⟨h1, h2⟩
      have hwb : Below w.heap.size w w2 := (Below.refl w.heap.size w).drew.trans hb
      have HWB := Lib.hid hwb
      clear hf hb hwb HSC c2 c3
      go_wp2
      go_loopg [3, 27] N (fun gk v i wr => ∃ (k : Nat) (V : Value), v = V ∧ i = .int .i64 k ∧ k + gk = N ∧ Hid (wr.ownsRow w2.heap.size 40 1 V k (vals.take k)) ∧ Hid (Below w2.heap.size w2 wr))
      case atStart => exact ⟨0, _, rfl, rfl, by omega, World.ownsRow_nil _ _ _ _, Below.refl _ _⟩
      case round =>
        obtain ⟨k, V, rfl, rfl, hk, HVr, HB⟩ := hrel
        obtain ⟨Av, cv, rfl, hcv⟩ := own_shape HVr.out
        by_cases hkn : k < N
        · obtain ⟨gf, rfl, hlt, kd, Ax, nx, cx, hvk, W0, W1⟩ := HFC.out k hkn
          have r0 := (HB.out.cell (p := ⟨gf, k * 2, none⟩) hlt).trans W0
          have r1 := (HB.out.cell (p := ⟨gf, k * 2 + 1, none⟩) hlt).trans W1
          have ht : vals.take (k + 1) = vals.take k ++ [.slice Ax nx cx] := by
            rw [List.take_add_one, hvk]; rfl
          have Ht := Lib.hid ht
          have g1 : (k : Int) < (N : Int) := by omega
          have hwz := HWB.out.size
          have HW2 : Hid (∀ o, (wr.alloc o).ownsRow w2.heap.size 40 1 (.slice Av k cv) k (vals.take k)) := fun o => HVr.out.alloc o
          clear ht hvk HFC
          go_wp2_with (at_builtin; go_loud (refine wpList_append_app _ rfl _ _ 28 rfl w2.heap.size 40 i1 (.slice none 0 0) 1 24 Try.underlying28 hi1 hy0 hy1 hy2 rfl _ _ _ rfl ((HW2.out _).alloc _) (some ⟨wr.heap.size + 1, 0, none⟩) 1 1 [.slice Ax nx cx] rfl rfl (by intro e; cases e) (one_new _ _ _ (by simp)) (by intro u hu; simp at hu; subst hu; rfl) (by unfold maxLen; omega) (by omega) (by have := HB.out.size; simp; omega) ?_))
          intro v' w3 ha
          have HV3 : Hid (w3.ownsRow w2.heap.size 40 1 v' (k + 1) (vals.take (k + 1))) := Lib.hid (by rw [Ht.out]; exact ha.own)
          have hsz := HB.out.size
          have HB3 : Hid (Below w2.heap.size w2 w3) := by
            have hba := (HB.out.alloc hsz (.cells #[.int .u8 (kd.toNat : Int), .slice Ax nx cx] 105)).alloc (by simp; omega) (.cells #[.slice Ax nx cx] 40)
            exact ha.below hba (by simp; omega) (own_block_ge HVr.out)
          clear ha HVr HB r0 r1 HW2 hsz
          go_wp2
          go_roundg (gk - 1)
          case measure => omega
          case rel => exact ⟨k + 1, v', rfl, by go_num, by omega, HV3, HB3⟩
        · obtain rfl : k = N := by omega
          have hf : vals.take k = vals := List.take_of_length_le (by rw [HV.out.1]; exact Nat.le_refl _)
          rw [hf] at HVr
          have HFin := Lib.hid (HV.out.2.up HB.out)
          have HBf := Lib.hid (HWB.out.trans (HB.out.mono HWB.out.size))
          go_wp2
          go_ret
          refine (⟨Av, cv, vals, ?_, ?_, HFin.out, HBf.out⟩ : ToldL L w _ _)
          · rw [HNN.out]; rfl
          · rw [HNN.out]; exact own_mono HVr.out HWB.out.size
end Go.Proofs.Ytpfccbojllabjaa

/- Layer 4's laws: lists of lists held against each other; how heavy; bytes of a size. -/
namespace Go.Proofs.Ytpfccbojllabjaa
open Go.RowKit

theorem Parts.take {w : World} {B n : Nat} {A : Option Addr} {ls : List (List UInt8)} (h : Parts w B A n ls) (k : Nat) (hk : k ≤ n) : Parts w B A k (ls.take k) := by
  refine ⟨by rw [List.length_take, h.1]; omega, fun i hi => ?_⟩
  have hi2 : i < ls.length := by rw [List.length_take] at hi; omega
  have := h.2 i hi2
  rwa [List.getElem_take]
theorem takesL_ne {fs gs : List (List UInt8)} {k : Nat} {f g : List UInt8} (h1 : fs.take (k + 1) = fs.take k ++ [f]) (h2 : gs.take (k + 1) = gs.take k ++ [g]) (h : f ≠ g) : (fs == gs) = false := by
  rw [beq_eq_false_iff_ne]
  intro e
  rw [e] at h1
  rw [h1] at h2
  exact h (by simpa using List.append_inj_right h2 rfl)

set_option maxRecDepth 100000 in
set_option maxHeartbeats 1000000 in
theorem sameLists_any (A A' : Option Addr) (n c n' c' B B' : Nat) (fs gs : List (List UInt8)) (w : World) (hn : n ≤ 9223372036854775807) (hn2 : n' ≤ 9223372036854775807) (h : Parts w B A n fs) (h' : Parts w B' A' n' gs) :
    Calls Try.prog 31 #[.slice A n c, .slice A' n' c'] w fun e w' => e = .returned (.bool (fs == gs)) ∧ ∃ q, w.drewN q = w' := by
  have HL := Lib.hid h.1
  have HL' := Lib.hid h'.1
  have H := Lib.hid h
  have H' := Lib.hid h'
  clear h h'
  by_cases hnn : n = n'
  · subst hnn
    go_enter Try.func31, Try.ntmps31
    go_wp2
    go_loopg [5] n (fun g r wr => ∃ (k : Nat), r = .int .i64 k ∧ k + g = n ∧ Hid (fs.take k = gs.take k) ∧ ∃ q, w.drewN q = wr)
    case atStart => exact ⟨0, rfl, by omega, Lib.hid rfl, 0, rfl⟩
    case round =>
      obtain ⟨k, rfl, hk, Ht, q, rfl⟩ := hrel
      by_cases hkn : k < n
      · obtain ⟨b, o, A1, n1, c1, rfl, _, x1, hn1, hm1, r1⟩ := H.out.2 k (by rw [HL.out]; exact hkn)
        obtain ⟨b', o', A2, n2, c2, rfl, _, x2, hn2, hm2, r2⟩ := H'.out.2 k (by rw [HL'.out]; exact hkn)
        have t1 : fs.take (k + 1) = fs.take k ++ [fs[k]'(by rw [HL.out]; exact hkn)] := List.take_succ_eq_append_getElem _
        have t2 : gs.take (k + 1) = gs.take k ++ [gs[k]'(by rw [HL'.out]; exact hkn)] := List.take_succ_eq_append_getElem _
        generalize hf : fs[k]'(by rw [HL.out]; exact hkn) = f at *
        generalize hg : gs[k]'(by rw [HL'.out]; exact hkn) = g at *
        have k1 := fun q => (r1.drewN q).str Try.underlying40 Try.underlying5 Try.underlying9 c1
        have k2 := fun q => (r2.drewN q).str Try.underlying40 Try.underlying5 Try.underlying9 c2
        have T1 := Lib.hid t1
        have T2 := Lib.hid t2
        clear r1 r2 t1 t2 hf hg
        go_wp2
        go_quiet (fail)
        go_wp2
        · go_ret
          refine ⟨?_, q + nq, by rw [← World.drewN_drewN]⟩
          have : (fs == gs) = false := takesL_ne T1.out T2.out (fun e => by rename_i hh; rw [e] at hh; simp at hh)
          rw [this]; rfl
        · go_roundg (gk - 1)
          case measure => omega
          case rel =>
            refine ⟨k + 1, by go_num, by omega, Lib.hid ?_, q + nq, rfl⟩
            have he : f = g := by rename_i hh; simpa using hh
            rw [T1.out, T2.out, Ht.out, he]
      · have hf : fs.take k = fs := List.take_of_length_le (by rw [HL.out]; omega)
        have hg : gs.take k = gs := List.take_of_length_le (by rw [HL'.out]; omega)
        have he : (fs == gs) = true := by rw [← hf, ← hg, Ht.out]; simp
        go_wp2
        go_ret
        exact ⟨by rw [he]; rfl, q, rfl⟩
  · have hne : ((n : Int) != (n' : Int)) = true := by simp; omega
    have hq : (fs == gs) = false := by
      rw [beq_eq_false_iff_ne]
      intro e
      exact hnn (by rw [← HL.out, ← HL'.out, e])
    go_enter Try.func31, Try.ntmps31
    go_wp2
    go_ret
    exact ⟨by rw [hq]; rfl, 0, rfl⟩

/-- Is one list the other's beginning? -/
def beginsL (a b : List (List UInt8)) : Bool := decide (a.length ≤ b.length) && (a == b.take a.length)
theorem beginsL_take {a b : List (List UInt8)} (h : beginsL a b = true) : a = b.take a.length ∧ a.length ≤ b.length := by
  unfold beginsL at h
  rw [Bool.and_eq_true] at h
  exact ⟨by simpa using h.2, by simpa using h.1⟩
set_option maxRecDepth 100000 in
set_option maxHeartbeats 1000000 in
theorem begins_any (A A' : Option Addr) (n c n' c' B B' : Nat) (fs gs : List (List UInt8)) (w : World) (hn : n ≤ 9223372036854775807) (hc' : n' ≤ c') (_hn2 : c' ≤ 9223372036854775807) (h : Parts w B A n fs) (h' : Parts w B' A' n' gs) :
    Calls Try.prog 25 #[.slice A n c, .slice A' n' c'] w fun e w' => e = .returned (.bool (beginsL fs gs)) ∧ ∃ q, w.drewN q = w' := by
  have hl := h.1
  have hl' := h'.1
  by_cases hnn : n ≤ n'
  · have HC := Lib.hid (sameLists_any A A' n c n c' B B' fs (gs.take n) w hn hn h (h'.take n hnn))
    have HE : Hid (beginsL fs gs = (fs == gs.take n)) := by
      show _ = _
      unfold beginsL
      rw [hl, hl', decide_eq_true hnn, Bool.true_and]
    clear h h' hl hl'
    generalize (fs == gs.take n) = bb at *
    have hcn : (n : Int) ≤ (c' : Int) := by omega
    go_enter Try.func25, Try.ntmps25
    go_wp2_with fail
    refine HC.out.mono ?_
    rintro x w' ⟨rfl, q, rfl⟩
    go_wp2
    go_ret
    refine ⟨?_, q, rfl⟩
    rw [HE.out]; rfl
  · have HE : Hid (beginsL fs gs = false) := by
      show _ = _
      unfold beginsL
      rw [hl, hl', decide_eq_false hnn, Bool.false_and]
    clear h h' hl hl'
    go_enter Try.func25, Try.ntmps25
    go_wp2
    go_ret
    refine ⟨?_, 0, rfl⟩
    rw [HE.out]; rfl

/-- What heavy counts. -/
def wtL (ls : List (List UInt8)) : Nat := (ls.map fun l => min l.length 4000 + 1).sum
theorem wtL_take_succ {ls : List (List UInt8)} {k : Nat} (h : k < ls.length) : wtL (ls.take (k + 1)) = wtL (ls.take k) + (min ls[k].length 4000 + 1) := by
  unfold wtL
  rw [List.take_succ_eq_append_getElem h, List.map_append, List.sum_append]
  simp
theorem wtL_used (ls : List (List UInt8)) (h : wtL ls ≤ 4000) : usedF ls ≤ 4000 + 9 * ls.length ∧ ls.length ≤ 4000 := by
  have : ∀ l : List (List UInt8), wtL l ≤ 4000 → usedF l + l.length ≤ wtL l + 10 * l.length ∧ l.length ≤ wtL l := by
    intro l
    induction l with
    | nil => intro _; simp [usedF, framesF, wtL]
    | cons a l ih =>
      intro h
      have e : wtL (a :: l) = (min a.length 4000 + 1) + wtL l := by simp [wtL]
      have := ih (by omega)
      rw [usedF_cons, List.length_cons, e]
      omega
  have := this ls h
  omega
def HeavyP (ls : List (List UInt8)) (w : World) (e : Ending) (w' : World) : Prop := ∃ b : Bool, e = .returned (.bool b) ∧ (b = false → wtL ls ≤ 4000) ∧ ∃ q, w.drewN q = w'
set_option maxRecDepth 100000 in
set_option maxHeartbeats 1000000 in
theorem heavy_any (A : Option Addr) (n c B : Nat) (ls : List (List UInt8)) (w : World) (hn : n ≤ 9223372036854775807) (h : Parts w B A n ls) :
    Calls Try.prog 11 #[.slice A n c] w (HeavyP ls w) := by
  have HL := Lib.hid h.1
  have H := Lib.hid h
  clear h
  go_enter Try.func11, Try.ntmps11
  go_wp2
  go_loopg [3, 4] n (fun g r i wr => ∃ (k s : Nat), r = .int .i64 s ∧ i = .int .i64 k ∧ k + g = n ∧ s = wtL (ls.take k) ∧ s ≤ 8001 ∧ ∃ q, w.drewN q = wr)
  case atStart => exact ⟨0, 0, rfl, rfl, by omega, by simp [wtL], by omega, 0, rfl⟩
  case round =>
    obtain ⟨k, s, rfl, rfl, hk, hs, hs8, q, rfl⟩ := hrel
    by_cases hc : k < n ∧ s ≤ 4000
    · obtain ⟨hkn, hs4⟩ := hc
      obtain ⟨b, o, A1, n1, c1, rfl, _, x1, hn1, hm1, r1⟩ := H.out.2 k (by rw [HL.out]; exact hkn)
      have hw := wtL_take_succ (ls := ls) (k := k) (by rw [HL.out]; exact hkn)
      rw [r1.1, ← hs] at hw
      clear r1 hs
      go_wp2
      go_roundg (gk - 1)
      case measure => omega
      case rel => exact ⟨k + 1, s + (min n1 4000 + 1), by go_num, by go_num, by omega, hw.symm, by omega, q, rfl⟩
    · by_cases hs4 : s ≤ 4000
      · have hkn : k = n := by omega
        subst hkn
        have hall : ls.take k = ls := List.take_of_length_le (by rw [HL.out]; exact Nat.le_refl _)
        rw [hall] at hs
        have hd : ¬ (4000 < (s : Int)) := by omega
        have hs' := Lib.hid hs
        clear hs
        go_wp2
        go_ret
        exact (⟨_, rfl, fun _ => by have := hs'.out; omega, q, rfl⟩ : HeavyP ls w _ _)
      · by_cases hkn : k < n
        all_goals
          have hd : (4000 < (s : Int)) := by omega
          have hs' := Lib.hid hs
          clear hs
          go_wp2
          go_ret
          exact (⟨true, rfl, fun h => by (cases h), q, rfl⟩ : HeavyP ls w _ _)

/-- How many bytes body makes. -/
def bodyLen (n : Int) : Nat := (min (max n 0) 1030).toNat
theorem bodyLen_le (n : Int) : bodyLen n ≤ 1030 := by unfold bodyLen; omega
def BodyP (N : Nat) (w : World) (e : Ending) (w' : World) : Prop := ∃ A c l, e = .returned (.slice A N c) ∧ l.length = N ∧ w'.ownsRow w.heap.size 5 1 (.slice A N c) N (u8s l) ∧ Below w.heap.size w w'
set_option maxRecDepth 100000 in
set_option maxHeartbeats 1000000 in
theorem body_any (n : Int) (fill : UInt8) (w : World) (hl1 : -9223372036854775808 ≤ n) (hl2 : n ≤ 9223372036854775807) :
    Calls Try.prog 35 #[.int .i64 n, .int .u8 (fill.toNat : Int)] w (BodyP (bodyLen n) w) := by
  obtain ⟨i0, hi0, hz0, hz1, hz2⟩ := info_parts Try.infoU8
  have hx := u8_lt fill
  have hn32 := bodyLen_le n
  have hw1 : ∀ k : Nat, k < bodyLen n → (k : Int) < n ∧ (k : Int) < 1030 := fun k hk => by unfold bodyLen at hk; omega
  have hw2 : ∀ k : Nat, ¬ k < bodyLen n → ¬ ((k : Int) < n) ∨ ¬ (k : Int) < 1030 := fun k hk => by unfold bodyLen at hk; omega
  generalize bodyLen n = N at *
  go_enter Try.func35, Try.ntmps35
  go_wp2
  go_loopg [5, 6] N (fun g v i wr => ∃ k : Nat, i = .int .i64 k ∧ k + g = N ∧ Hid (∃ l : List UInt8, l.length = k ∧ wr.ownsRow w.heap.size 5 1 v k (u8s l) ∧ Below w.heap.size w wr))
  case atStart => exact ⟨0, rfl, by omega, ⟨[], rfl, World.ownsRow_nil _ _ _ _, Below.refl _ _⟩⟩
  case round =>
    obtain ⟨k, rfl, hk, HR⟩ := hrel
    obtain ⟨l, hl, hown, hb⟩ := HR.out
    have hsz := hb.size
    by_cases hkn : k < N
    · obtain ⟨q1, q2⟩ := hw1 k hkn
      obtain ⟨x, hxv⟩ : ∃ x : UInt8, ((x.toNat : Nat) : Int) = ((fill.toNat : Int) + ((k : Int) % 5)) % 256 := ⟨UInt8.ofNat (fill.toNat + k % 5), by rw [UInt8.toNat_ofNat']; omega⟩
      have Hxv := Lib.hid hxv
      clear hxv HR
      go_wp2_with (at_builtin; refine wpList_append_app _ rfl _ _ 40 rfl w.heap.size 5 i0 (.int .u8 0) 1 1 Try.underlying40 hi0 hz0 hz1 hz2 rfl _ _ _ rfl (hown.alloc _) (some ⟨wr.heap.size, 0, none⟩) 1 1 [Value.int .u8 (((fill.toNat : Int) + ((k : Int) % 5)) % 256)] rfl rfl (by intro h; cases h) (cell_new1 _ _ _) (by intro u hu; simp at hu; subst hu; rfl) (by unfold maxLen; omega) (by omega) (by simp; omega) ?_)
      intro v' w1 ha
      have hb1 := ha.below (hb.alloc hsz _) (by simp; omega) (own_block_ge hown)
      have ho := ha.own
      have HF : Hid (∃ l : List UInt8, l.length = k + 1 ∧ w1.ownsRow w.heap.size 5 1 v' (k + 1) (u8s l) ∧ Below w.heap.size w w1) := by
        refine ⟨l ++ [x], by simp [hl], ?_, hb1⟩
        rw [u8s_append]
        have e : u8s [x] = [Value.int .u8 (((fill.toNat : Int) + ((k : Int) % 5)) % 256)] := by rw [← Hxv.out]; rfl
        rw [e]
        exact ho
      clear ha hb1 ho hown hb
      go_wp2
      go_roundg (gk - 1)
      case measure => omega
      case rel => exact ⟨k + 1, by go_num, by omega, HF.out⟩
    · have q := hw2 k hkn
      obtain rfl : k = N := by omega
      obtain ⟨A, c, rfl, _⟩ := own_shape hown
      have HF : Hid (wr.ownsRow w.heap.size 5 1 (.slice A k c) k (u8s l) ∧ Below w.heap.size w wr ∧ l.length = k) := ⟨hown, hb, hl⟩
      clear hown hb HR
      by_cases q1 : (k : Int) < n
      · have q2 : ¬ (k : Int) < 1030 := by omega
        go_wp2
        go_ret
        exact (⟨A, c, l, rfl, HF.out.2.2, HF.out.1, HF.out.2.1⟩ : BodyP k w _ _)
      · go_wp2
        go_ret
        exact (⟨A, c, l, rfl, HF.out.2.2, HF.out.1, HF.out.2.1⟩ : BodyP k w _ _)
end Go.Proofs.Ytpfccbojllabjaa

/- Layer 4's laws: both disks and their logs; they are opened. -/
namespace Go.Proofs.Ytpfccbojllabjaa
open Go.RowKit

/-- The program's disk at gd, and its log, if there is one. -/
def POn (w : World) (H : Nat → Prop) (gd : Nat) (d : Dk) (o : Option Lg) (pw : Option Addr) : Prop :=
  match o with
  | none => pw = none ∧ PD w H gd d
  | some s => ∃ g, pw = some ⟨g, 0, none⟩ ∧ PB w H g gd d s
/-- The document's. -/
def ROn (w : World) (H : Nat → Prop) (M : Nat) (d : Dk) (o : Option Lg) (pr : Option Addr) : Prop :=
  match o with
  | none => pr = none ∧ RD w H M d
  | some s => ∃ g, pr = some ⟨g, 0, none⟩ ∧ RB w H g M d s
section
variable {w w' : World} {H K : Nat → Prop} {gd M : Nat} {d : Dk} {o : Option Lg} {pw : Option Addr}
theorem POn.kp (h : POn w H gd d o pw) (hk : Kp K w w') (hd : ∀ k, H k → ¬ K k) : POn w' H gd d o pw := by
  cases o with
  | none => exact ⟨h.1, h.2.kp hk hd⟩
  | some s => obtain ⟨g, e, hb⟩ := h; exact ⟨g, e, hb.kp hk hd⟩
theorem ROn.kp (h : ROn w H M d o pw) (hk : Kp K w w') (hd : ∀ k, H k → ¬ K k) : ROn w' H M d o pw := by
  cases o with
  | none => exact ⟨h.1, h.2.kp hk hd⟩
  | some s => obtain ⟨g, e, hb⟩ := h; exact ⟨g, e, hb.kp hk hd⟩
theorem POn.lt (h : POn w H gd d o pw) : ∀ k, H k → k < w.heap.size := by
  cases o with
  | none => exact h.2.lt
  | some s => obtain ⟨g, e, F, G, _, _, _, _, _, hb⟩ := h; exact hb
theorem ROn.lt (h : ROn w H M d o pw) : ∀ k, H k → k < w.heap.size := by
  cases o with
  | none => exact h.2.lt
  | some s => obtain ⟨g, e, F, G, v, vals, _, _, _, _, _, hb, _⟩ := h; exact hb
/-- The disk alone. -/
theorem POn.disk (h : POn w H gd d o pw) : ∃ F, PD w F gd d ∧ ∀ k, F k → H k := by
  cases o with
  | none => exact ⟨H, h.2, fun k e => e⟩
  | some s => obtain ⟨g, e, F, G, h1, _, _, h2, _⟩ := h; exact ⟨F, h1, h2⟩
theorem ROn.disk (h : ROn w H M d o pw) : ∃ F, RD w F M d ∧ ∀ k, F k → H k := by
  cases o with
  | none => exact ⟨H, h.2, fun k e => e⟩
  | some s => obtain ⟨g, e, F, G, v, vals, h1, _, _, h2, _⟩ := h; exact ⟨F, h1, h2⟩
end

/-- Both disks, in the state d; the pair at gp knows them. -/
def Dq (w : World) (H : Nat → Prop) (gp gd M : Nat) (d : Dk) : Prop :=
  ∃ F1 F2 vw vr, Bk w gp 38 #[.pointer (some ⟨gd, 0, none⟩), vw, .pointer (some ⟨M, 0, none⟩), vr] ∧ PD w F1 gd d ∧ RD w F2 M d ∧ (∀ k, F1 k → ¬ F2 k) ∧ ¬ F1 gp ∧ ¬ F2 gp ∧ (∀ k, F1 k → H k) ∧ (∀ k, F2 k → H k) ∧ H gp ∧ ∀ k, H k → k < w.heap.size
/-- And their logs, in the state o. -/
def Pq (w : World) (H : Nat → Prop) (gp gd M : Nat) (d : Dk) (o : Option Lg) : Prop :=
  ∃ H1 H2 pw pr, Bk w gp 38 #[.pointer (some ⟨gd, 0, none⟩), .pointer pw, .pointer (some ⟨M, 0, none⟩), .pointer pr] ∧ POn w H1 gd d o pw ∧ ROn w H2 M d o pr ∧ (∀ k, H1 k → ¬ H2 k) ∧ ¬ H1 gp ∧ ¬ H2 gp ∧ (∀ k, H1 k → H k) ∧ (∀ k, H2 k → H k) ∧ H gp ∧ ∀ k, H k → k < w.heap.size
theorem Pq.kp {w w' : World} {H K : Nat → Prop} {gp gd M : Nat} {d : Dk} {o : Option Lg} (h : Pq w H gp gd M d o) (hk : Kp K w w') (hd : ∀ k, H k → ¬ K k) : Pq w' H gp gd M d o := by
  obtain ⟨H1, H2, pw, pr, h1, h2, h3, h4, h5, h6, h7, h8, h9, h10⟩ := h
  exact ⟨H1, H2, pw, pr, h1.kp hk (hd _ h9), h2.kp hk (fun k e => hd k (h7 k e)), h3.kp hk (fun k e => hd k (h8 k e)), h4, h5, h6, h7, h8, h9, fun k e => Nat.lt_of_lt_of_le (h10 k e) hk.size⟩
theorem Pq.below {w w' : World} {H : Nat → Prop} {gp gd M : Nat} {d : Dk} {o : Option Lg} (h : Pq w H gp gd M d o) (hb : Below w.heap.size w w') : Pq w' H gp gd M d o := h.kp (K := fun _ => False) (Kp.of_below hb) fun _ _ h => h
theorem Dq.kp {w w' : World} {H K : Nat → Prop} {gp gd M : Nat} {d : Dk} (h : Dq w H gp gd M d) (hk : Kp K w w') (hd : ∀ k, H k → ¬ K k) : Dq w' H gp gd M d := by
  obtain ⟨H1, H2, pw, pr, h1, h2, h3, h4, h5, h6, h7, h8, h9, h10⟩ := h
  exact ⟨H1, H2, pw, pr, h1.kp hk (hd _ h9), h2.kp hk (fun k e => hd k (h7 k e)), h3.kp hk (fun k e => hd k (h8 k e)), h4, h5, h6, h7, h8, h9, fun k e => Nat.lt_of_lt_of_le (h10 k e) hk.size⟩
theorem Dq.below {w w' : World} {H : Nat → Prop} {gp gd M : Nat} {d : Dk} (h : Dq w H gp gd M d) (hb : Below w.heap.size w w') : Dq w' H gp gd M d := h.kp (K := fun _ => False) (Kp.of_below hb) fun _ _ h => h
theorem Pq.disks {w : World} {H : Nat → Prop} {gp gd M : Nat} {d : Dk} {o : Option Lg} (h : Pq w H gp gd M d o) : Dq w H gp gd M d := by
  obtain ⟨H1, H2, pw, pr, h1, h2, h3, h4, h5, h6, h7, h8, h9, h10⟩ := h
  obtain ⟨F1, p1, q1⟩ := h2.disk
  obtain ⟨F2, p2, q2⟩ := h3.disk
  exact ⟨F1, F2, _, _, h1, p1, p2, fun k e e2 => h4 k (q1 k e) (q2 k e2), fun e => h5 (q1 _ e), fun e => h6 (q2 _ e), fun k e => h7 k (q1 k e), fun k e => h8 k (q2 k e), h9, h10⟩
theorem Dq.len {w : World} {H : Nat → Prop} {gp gd M : Nat} {d : Dk} (h : Dq w H gp gd M d) : 1 ≤ d.safe.length ∧ d.safe.length ≤ 2048 := by
  obtain ⟨H1, H2, pw, pr, h1, h2, _⟩ := h
  exact h2.len
theorem Dq.lt {w : World} {H : Nat → Prop} {gp gd M : Nat} {d : Dk} (h : Dq w H gp gd M d) : ∀ k, H k → k < w.heap.size := by
  obtain ⟨H1, H2, pw, pr, h1, h2, h3, h4, h5, h6, h7, h8, h9, h10⟩ := h
  exact h10
theorem Dq.ok {w : World} {H : Nat → Prop} {gp gd M : Nat} {d : Dk} (h : Dq w H gp gd M d) : d.Ok := by
  obtain ⟨H1, H2, pw, pr, h1, h2, h3, _⟩ := h
  exact h3.ok

theorem openL_len (d : Dk) : d.openL.2.2.safe.length = d.safe.length := by
  have hwl : ∀ (b c : List UInt8) (base k i : Nat) (z : Bool) (d : Dk), (wipeS b c base i k z d).2.2.safe.length = d.safe.length := by
    intro b c base k
    induction k with
    | zero => intro i z d; rfl
    | succ k ih =>
      intro i z d
      unfold wipeS
      split
      · exact ih _ _ _
      split
      · rw [ih, Dk.write_len]
      · exact Dk.write_len _ _ _
  have h2 : d.wiped.2.2.safe.length = d.safe.length := hwl _ _ _ _ _ _ _
  unfold Dk.openL
  split
  · rfl
  split
  · rfl
  split
  · exact h2
  split
  · exact h2
  split
  · exact (Dk.sync_len _).trans h2
  · exact (Dk.sync_len _).trans h2
theorem openL_waits (d : Dk) : d.openL.2.2.waits.length ≤ d.waits.length + d.half := by
  have h2 : d.wiped.2.2.waits.length ≤ d.waits.length + d.half := wipe_waits _ _ _ _ _ _ _
  have hs : ∀ d : Dk, d.sync.2.waits.length ≤ d.waits.length := fun d => by
    unfold Dk.sync
    split
    · simp
    · simp [d.act_same.2]
  have h3 := hs d.wiped.2.2
  unfold Dk.openL
  split
  · simp
  split
  · simp
  split
  · exact h2
  split
  · exact h2
  split
  · exact Nat.le_trans h3 h2
  · exact Nat.le_trans h3 h2
theorem openL_down {d : Dk} {s : Lg} (h : d.openL.2.1 = some s) : d.openL.2.2.down = false ∧ s.gone = false := by
  have hs0 : ∀ d : Dk, d.down = false → ∀ (b c : List UInt8) (base k i : Nat) (z : Bool), (wipeS b c base i k z d).1 = 0 → (wipeS b c base i k z d).2.2.down = false := by
    intro d hd b c base k
    induction k generalizing d with
    | zero => intro i z _; exact hd
    | succ k ih =>
      intro i z h
      by_cases h1 : chunk b i = chunk c i
      · rw [wipe_same h1] at h ⊢; exact ih d hd _ _ h
      · by_cases h2 : (d.write ((base + i : Nat) : Int) (chunk c i)).1 = 0
        · rw [wipe_next h1 h2] at h ⊢
          exact ih _ (write_ok h2).2.2.2.2.2 _ _ h
        · rw [wipe_stop h1 h2] at h; exact absurd h h2
  unfold Dk.openL at h ⊢
  split
  · rename_i h1; rw [if_pos h1] at h; cases h
  rename_i h1
  rw [if_neg h1] at h
  split
  · rename_i h2; rw [if_pos h2] at h; cases h
  rename_i h2
  rw [if_neg h2] at h
  split
  · rename_i h3; rw [if_pos h3] at h; cases h
  rename_i h3
  rw [if_neg h3] at h
  have hw : d.wiped.2.2.down = false := hs0 d (by simpa using h2) _ _ _ _ _ _ (Classical.byContradiction h3)
  split
  · rename_i h4; rw [if_pos h4] at h; injection h with h; subst h; exact ⟨hw, rfl⟩
  rename_i h4
  rw [if_neg h4] at h
  split
  · rename_i h5; rw [if_pos h5] at h; cases h
  rename_i h5
  rw [if_neg h5] at h
  injection h with h
  subst h
  exact ⟨sync_down (Classical.byContradiction h5), rfl⟩

set_option maxRecDepth 100000 in
set_option maxHeartbeats 4000000 in
/-- Both are opened. -/
theorem pairOpen_any (gp gd M : Nat) (d : Dk) (H : Nat → Prop) (w : World) (hwl : d.waits.length ≤ 900000000) (h : Dq w H gp gd M d) :
    Calls Try.prog 23 #[.pointer (some ⟨gp, 0, none⟩)] w fun e w' => e = .returned (.bool true) ∧ ∃ H', Pq w' H' gp gd M d.openL.2.2 d.openL.2.1 ∧ Mv H H' w w' := by
  obtain ⟨F1, F2, vw, vr, hb, hp, hr, h12, hg1, hg2, hH1, hH2, hHg, hlt⟩ := h
  have hlen := hp.len
  have c0 := hb.cell 0
  have c2 := hb.cell 2
  simp only [List.getElem?_toArray, List.getElem?_cons_zero, List.getElem?_cons_succ] at c0 c2
  have HA : Hid (∀ (w1 : World) F1', Mv F1 F1' w w1 → PD w1 F1' gd d.openL.2.2 → Bk w1 gp 38 #[.pointer (some ⟨gd, 0, none⟩), vw, .pointer (some ⟨M, 0, none⟩), vr] ∧ RD w1 F2 M d ∧ ¬ F1' gp ∧ (∀ k, F1' k → ¬ F2 k)) := fun w1 F1' hm hp1 =>
    ⟨hb.kp hm.kp hg1, hr.kp hm.kp (fun k e e2 => h12 k e2 e), fun e => by rcases hm.new _ e with h | h; exact hg1 h; have := hb.lt; omega, fun k e e2 => by rcases hm.new _ e with h | h; exact h12 k h e2; have := hr.lt k e2; omega⟩
  have HC1 := Lib.hid (open_any gd d F1 w hwl hp)
  have HC2 : Hid (∀ w1, RD w1 F2 M d → Calls Try.prog 59 #[.pointer (some ⟨M, 0, none⟩)] w1 (ROpened w1 F2 M d)) := fun w1 h => ropen_any M d F2 w1 hwl h
  have hby : d.openL.2.2.bytes = d.bytes := bytes_of (openL_len d)
  have Hby := Lib.hid hby
  have Hdn : Hid (∀ s, d.openL.2.1 = some s → d.openL.2.2.down = false ∧ s.gone = false) := fun s h => openL_down h
  have HEnd : Hid (∀ (w1 w2 : World) F1' F2' H1 H2 pw pr, Mv F1 F1' w w1 → Mv F2 F2' w1 w2 → Bk w2 gp 38 #[.pointer (some ⟨gd, 0, none⟩), vw, .pointer (some ⟨M, 0, none⟩), vr] → POn w2 H1 gd d.openL.2.2 d.openL.2.1 pw → ROn w2 H2 M d.openL.2.2 d.openL.2.1 pr →
      (∀ k, H1 k → ¬ H2 k) → (∀ k, H1 k → F1 k ∨ w.heap.size ≤ k) → (∀ k, H2 k → F2 k ∨ w.heap.size ≤ k) →
      ∃ H', Pq ((w2.setCell ⟨gp, 1, none⟩ (.pointer pw)).setCell ⟨gp, 3, none⟩ (.pointer pr)) H' gp gd M d.openL.2.2 d.openL.2.1 ∧ Mv H H' w ((w2.setCell ⟨gp, 1, none⟩ (.pointer pw)).setCell ⟨gp, 3, none⟩ (.pointer pr))) := by
    intro w1 w2 F1' F2' H1 H2 pw pr hm1 hm2 hb2 hp2 hr2 hd hn1 hn2
    have hgl := hb.lt
    have ng1 : ¬ H1 gp := fun e => by rcases hn1 _ e with h | h; exact hg1 h; omega
    have ng2 : ¬ H2 gp := fun e => by rcases hn2 _ e with h | h; exact hg2 h; omega
    have hk : ∀ (W : World) (i : Nat) (z : Value), Kp (· = gp) W (W.setCell ⟨gp, i, none⟩ z) := fun W i z => Kp.set_ (F := (· = gp)) (p := ⟨gp, i, none⟩) rfl z
    have hkk := (hk w2 1 (.pointer pw)).trans (hk (w2.setCell ⟨gp, 1, none⟩ (.pointer pw)) 3 (.pointer pr))
    refine ⟨fun k => H k ∨ H1 k ∨ H2 k, ⟨H1, H2, pw, pr, (hb2.set_ 1 (.pointer pw)).set_ 3 (.pointer pr), hp2.kp hkk (fun k e e2 => ng1 (by rw [← e2]; exact e)), hr2.kp hkk (fun k e e2 => ng2 (by rw [← e2]; exact e)), hd, ng1, ng2, fun k e => .inr (.inl e), fun k e => .inr (.inr e), .inl hHg, ?_⟩, ?_, ?_⟩
    · intro k e
      have hs : ((w2.setCell ⟨gp, 1, none⟩ (.pointer pw)).setCell ⟨gp, 3, none⟩ (.pointer pr)).heap.size = w2.heap.size := by simp [World.setCell]
      rw [hs]
      rcases e with e | e | e
      · exact Nat.lt_of_lt_of_le (hlt k e) (Nat.le_trans hm1.kp.size hm2.kp.size)
      · exact hp2.lt k e
      · exact hr2.lt k e
    · have h2 : Kp (fun k => H k ∨ w.heap.size ≤ k) w ((w2.setCell ⟨gp, 1, none⟩ (.pointer pw)).setCell ⟨gp, 3, none⟩ (.pointer pr)) :=
        ((hm1.kp.mono (fun k e => .inl (hH1 k e))).trans (hm2.kp.mono (fun k e => .inl (hH2 k e)))).trans (hkk.mono (fun k e => .inl (by rw [e]; exact hHg)))
      exact Kp.fresh (B := w.heap.size) h2 (Nat.le_refl _)
    · intro k e
      rcases e with e | e | e
      · exact .inl e
      · exact (hn1 k e).imp (hH1 k) id
      · exact (hn2 k e).imp (hH2 k) id
  have HR2 : Hid (∀ k, F2 k → k < w.heap.size) := hr.lt
  have Hg2 := Lib.hid hg2
  clear hb hp hr hlt hg1 hg2 h12 hby hlen
  go_enter Try.func23, Try.ntmps23
  go_wp2_with fail
  refine HC1.out.mono ?_
  rintro x w1 ⟨F1', hp1, hm1, hx⟩
  obtain ⟨hb1, hr1, hng1, hd1⟩ := HA.out w1 F1' hm1 hp1
  have HC := Lib.hid (HC2.out w1 hr1)
  have c2 := hb1.cell 2
  simp only [List.getElem?_toArray, List.getElem?_cons_zero, List.getElem?_cons_succ] at c2
  have Hp1 := Lib.hid hp1
  have Hm1 := Lib.hid hm1
  have Hb1 := Lib.hid hb1
  have Hng1 := Lib.hid hng1
  have Hd1 := Lib.hid hd1
  have HR1 := Lib.hid hr1.lt
  clear hb1 hr1 hng1 hd1 hp1 hm1 HC1 HC2 HA c0
  have Hlt1 : Hid (∀ k, F1' k → k < w1.heap.size) := Hp1.out.lt
  obtain ⟨r, hr⟩ : ∃ r, d.openL.1 = r := ⟨_, rfl⟩
  rcases hx with ⟨hn, rfl⟩ | ⟨s, g, G, hs, rfl, hPW, hGn, hGF⟩
  · have Hn := Lib.hid hn
    clear hn
    rw [hr]
    go_wp2_with fail
    refine HC.out.mono ?_
    rintro x w2 ⟨F2', hr2, hm2, hx⟩
    rcases hx with ⟨hn2, rfl⟩ | ⟨s, g, G, v, vals, hs, _⟩
    · have hb2 := Hb1.out.kp hm2.kp Hg2.out
      have hE := HEnd.out w1 w2 F1' F2' F1' F2' none none Hm1.out hm2 hb2 (by rw [Hn.out]; exact ⟨rfl, Hp1.out.kp hm2.kp Hd1.out⟩) (by rw [Hn.out]; exact ⟨rfl, hr2⟩)
        (fun k e e2 => by rcases hm2.new k e2 with h | h; exact Hd1.out k e h; have := Hlt1.out k e; omega) Hm1.out.new
        (fun k e => by rcases hm2.new k e with h | h; exact .inl h; have := Hm1.out.kp.size; exact .inr (by omega))
      have HE := Lib.hid hE
      have c1 := hb2.cell 1
      have f1 := hb2.frozen 1
      have c3 := (hb2.set_ 1 (.pointer none)).cell 3
      have f3 := (hb2.set_ 1 (.pointer none)).frozen 3
      simp only [List.getElem?_toArray, List.getElem?_cons_zero, List.getElem?_cons_succ] at c1
      clear hE hb2 hr2 hm2 HC
      rw [hr]
      go_wp2
      go_ret
      refine ⟨?_, HE.out⟩
      simp
    · rw [Hn.out] at hs; cases hs
  · have Hs := Lib.hid hs
    have HPW := Lib.hid hPW
    have HGn := Lib.hid hGn
    have HGF := Lib.hid hGF
    clear hs hPW hGn hGF
    rw [hr]
    go_wp2_with fail
    refine HC.out.mono ?_
    rintro x w2 ⟨F2', hr2, hm2, hx⟩
    rcases hx with ⟨hn2, rfl⟩ | ⟨s', g', G', v, vals, hs', rfl, hRW, hGn', hGF'⟩
    · rw [Hs.out] at hn2; cases hn2
    · have e : s' = s := by rw [Hs.out] at hs'; injection hs' with h; exact h.symm
      subst e
      have hb2 := Hb1.out.kp hm2.kp Hg2.out
      have hsz := Hm1.out.kp.size
      have hGG : ∀ k, G k → ¬ F2 k := fun k e e2 => by have := HGn.out k e; have := HR2.out k e2; omega
      have hPW2 := HPW.out.kp hm2.kp hGG
      have hPD2 := Hp1.out.kp hm2.kp Hd1.out
      have hP : POn w2 (fun k => F1' k ∨ G k) gd d.openL.2.2 d.openL.2.1 (some ⟨g, 0, none⟩) := by
        rw [Hs.out]
        refine ⟨g, rfl, F1', G, hPD2, by rw [Hby.out]; exact hPW2, fun k e e2 => HGF.out k e2 e, fun k e => .inl e, fun k e => .inr e, ?_⟩
        rintro k (e | e)
        · exact hPD2.lt k e
        · exact hPW2.lt k e
      have hR : ROn w2 (fun k => F2' k ∨ G' k) M d.openL.2.2 d.openL.2.1 (some ⟨g', 0, none⟩) := by
        rw [Hs.out]
        refine ⟨g', rfl, F2', G', v, vals, hr2, by rw [Hby.out]; exact hRW, fun k e e2 => hGF' k e2 e, fun k e => .inl e, fun k e => .inr e, ?_, fun _ => (Hdn.out _ Hs.out).1⟩
        rintro k (e | e)
        · exact hr2.lt k e
        · exact hRW.lt k e
      have hE := HEnd.out w1 w2 F1' F2' _ _ _ _ Hm1.out hm2 hb2 hP hR
        (by
          rintro k (e | e) (e2 | e2)
          · rcases hm2.new k e2 with h | h
            · exact Hd1.out k e h
            · have := Hlt1.out k e; omega
          · have := Hlt1.out k e; have := hGn' k e2; omega
          · rcases hm2.new k e2 with h | h
            · exact hGG k e h
            · have := HPW.out.lt k e; omega
          · have := HPW.out.lt k e; have := hGn' k e2; omega)
        (by
          rintro k (e | e)
          · exact Hm1.out.new k e
          · exact .inr (HGn.out k e))
        (by
          rintro k (e | e)
          · rcases hm2.new k e with h | h
            · exact .inl h
            · exact .inr (by omega)
          · have := hGn' k e; exact .inr (by omega))
      have HE := Lib.hid hE
      have c1 := hb2.cell 1
      have f1 := hb2.frozen 1
      have c3 := (hb2.set_ 1 (.pointer (some ⟨g, 0, none⟩))).cell 3
      have f3 := (hb2.set_ 1 (.pointer (some ⟨g, 0, none⟩))).frozen 3
      simp only [List.getElem?_toArray, List.getElem?_cons_zero, List.getElem?_cons_succ] at c1
      clear hE hb2 hr2 hm2 HC hP hR hPW2 hPD2 hRW hGn' hGF' hGG hs'
      rw [hr]
      go_wp2
      go_ret
      refine ⟨?_, HE.out⟩
      simp
end Go.Proofs.Ytpfccbojllabjaa

/- Layer 4's laws: both logs, each in a state of its own; what each call makes of it. -/
namespace Go.Proofs.Ytpfccbojllabjaa
open Go.RowKit

theorem Parts.more {w : World} {B B' n : Nat} {A : Option Addr} {ls : List (List UInt8)} (h : Parts w B A n ls) (hB : B ≤ B') : Parts w B' A n ls :=
  ⟨h.1, fun i hi => by
    obtain ⟨b, o, A', n', c', e, hlt, hc, h1, h2, h3⟩ := h.2 i hi
    exact ⟨b, o, A', n', c', e, by omega, hc, h1, h2, h3.more hB⟩⟩

/-- Both logs; the program's in the state (d, s), the document's in (d', s'). -/
def P2 (w : World) (H : Nat → Prop) (gp gd M gw gr : Nat) (d : Dk) (s : Lg) (d' : Dk) (s' : Lg) : Prop :=
  ∃ H1 H2, Bk w gp 38 #[.pointer (some ⟨gd, 0, none⟩), .pointer (some ⟨gw, 0, none⟩), .pointer (some ⟨M, 0, none⟩), .pointer (some ⟨gr, 0, none⟩)] ∧ PB w H1 gw gd d s ∧ RB w H2 gr M d' s' ∧ (∀ k, H1 k → ¬ H2 k) ∧ ¬ H1 gp ∧ ¬ H2 gp ∧ (∀ k, H1 k → H k) ∧ (∀ k, H2 k → H k) ∧ H gp ∧ ∀ k, H k → k < w.heap.size
/-- Both disks. -/
def D2 (w : World) (H : Nat → Prop) (gp gd M : Nat) (d d' : Dk) : Prop :=
  ∃ F1 F2 vw vr, Bk w gp 38 #[.pointer (some ⟨gd, 0, none⟩), vw, .pointer (some ⟨M, 0, none⟩), vr] ∧ PD w F1 gd d ∧ RD w F2 M d' ∧ (∀ k, F1 k → ¬ F2 k) ∧ ¬ F1 gp ∧ ¬ F2 gp ∧ (∀ k, F1 k → H k) ∧ (∀ k, F2 k → H k) ∧ H gp ∧ ∀ k, H k → k < w.heap.size
section
variable {w w' : World} {H K : Nat → Prop} {gp gd M gw gr : Nat} {d d' dr : Dk} {s s' sr : Lg}
theorem P2.kp (h : P2 w H gp gd M gw gr d s dr sr) (hk : Kp K w w') (hd : ∀ k, H k → ¬ K k) : P2 w' H gp gd M gw gr d s dr sr := by
  obtain ⟨H1, H2, h1, h2, h3, h4, h5, h6, h7, h8, h9, h10⟩ := h
  exact ⟨H1, H2, h1.kp hk (hd _ h9), h2.kp hk (fun k e => hd k (h7 k e)), h3.kp hk (fun k e => hd k (h8 k e)), h4, h5, h6, h7, h8, h9, fun k e => Nat.lt_of_lt_of_le (h10 k e) hk.size⟩
theorem P2.below (h : P2 w H gp gd M gw gr d s dr sr) (hb : Below w.heap.size w w') : P2 w' H gp gd M gw gr d s dr sr := h.kp (K := fun _ => False) (Kp.of_below hb) fun _ _ h => h
theorem P2.blk (h : P2 w H gp gd M gw gr d s dr sr) : Bk w gp 38 #[.pointer (some ⟨gd, 0, none⟩), .pointer (some ⟨gw, 0, none⟩), .pointer (some ⟨M, 0, none⟩), .pointer (some ⟨gr, 0, none⟩)] := by
  obtain ⟨H1, H2, h1, _⟩ := h
  exact h1
theorem P2.lt (h : P2 w H gp gd M gw gr d s dr sr) : ∀ k, H k → k < w.heap.size := by
  obtain ⟨H1, H2, h1, h2, h3, h4, h5, h6, h7, h8, h9, h10⟩ := h
  exact h10
theorem P2.pair (h : P2 w H gp gd M gw gr d s d s) : Pq w H gp gd M d (some s) := by
  obtain ⟨H1, H2, h1, h2, h3, h4, h5, h6, h7, h8, h9, h10⟩ := h
  exact ⟨H1, H2, _, _, h1, ⟨gw, rfl, h2⟩, ⟨gr, rfl, h3⟩, h4, h5, h6, h7, h8, h9, h10⟩
theorem Pq.two (h : Pq w H gp gd M d (some s)) : ∃ gw gr, P2 w H gp gd M gw gr d s d s := by
  obtain ⟨H1, H2, pw, pr, h1, ⟨gw, e1, h2⟩, ⟨gr, e2, h3⟩, h4, h5, h6, h7, h8, h9, h10⟩ := h
  subst e1 e2
  exact ⟨gw, gr, H1, H2, h1, h2, h3, h4, h5, h6, h7, h8, h9, h10⟩
theorem P2.disks (h : P2 w H gp gd M gw gr d s dr sr) : D2 w H gp gd M d dr := by
  obtain ⟨H1, H2, h1, ⟨F1, G1, p1, _, _, q1, _⟩, ⟨F2, G2, v, vals, p2, _, _, q2, _⟩, h4, h5, h6, h7, h8, h9, h10⟩ := h
  exact ⟨F1, F2, _, _, h1, p1, p2, fun k e e2 => h4 k (q1 k e) (q2 k e2), fun e => h5 (q1 _ e), fun e => h6 (q2 _ e), fun k e => h7 k (q1 k e), fun k e => h8 k (q2 k e), h9, h10⟩
theorem D2.both (h : D2 w H gp gd M d d) : Dq w H gp gd M d := h
theorem Dq.two (h : Dq w H gp gd M d) : D2 w H gp gd M d d := h
theorem D2.kp (h : D2 w H gp gd M d dr) (hk : Kp K w w') (hd : ∀ k, H k → ¬ K k) : D2 w' H gp gd M d dr := by
  obtain ⟨H1, H2, pw, pr, h1, h2, h3, h4, h5, h6, h7, h8, h9, h10⟩ := h
  exact ⟨H1, H2, pw, pr, h1.kp hk (hd _ h9), h2.kp hk (fun k e => hd k (h7 k e)), h3.kp hk (fun k e => hd k (h8 k e)), h4, h5, h6, h7, h8, h9, fun k e => Nat.lt_of_lt_of_le (h10 k e) hk.size⟩
theorem D2.below (h : D2 w H gp gd M d dr) (hb : Below w.heap.size w w') : D2 w' H gp gd M d dr := h.kp (K := fun _ => False) (Kp.of_below hb) fun _ _ h => h
theorem D2.cells (h : D2 w H gp gd M d dr) : w.cell? ⟨gp, 0, none⟩ = some (.pointer (some ⟨gd, 0, none⟩)) ∧ w.cell? ⟨gp, 2, none⟩ = some (.pointer (some ⟨M, 0, none⟩)) := by
  obtain ⟨H1, H2, pw, pr, h1, _⟩ := h
  exact ⟨h1.cell 0, h1.cell 2⟩
theorem D2.lt (h : D2 w H gp gd M d dr) : ∀ k, H k → k < w.heap.size := by
  obtain ⟨H1, H2, pw, pr, h1, h2, h3, h4, h5, h6, h7, h8, h9, h10⟩ := h
  exact h10

/-- The program's side has turned. -/
theorem P2.prog (h : P2 w H gp gd M gw gr d s dr sr) (hp : ∀ H1, PB w H1 gw gd d s → (∀ k, H1 k → H k) → ∃ H1', PB w' H1' gw gd d' s' ∧ Mv H1 H1' w w') : ∃ H', P2 w' H' gp gd M gw gr d' s' dr sr ∧ Mv H H' w w' := by
  obtain ⟨H1, H2, h1, h2, h3, h4, h5, h6, h7, h8, h9, h10⟩ := h
  obtain ⟨H1', q1, q2⟩ := hp H1 h2 h7
  have hl : ∀ k, H1' k → k < w'.heap.size := by obtain ⟨F, G, _, _, _, _, _, hb⟩ := q1; exact hb
  refine ⟨fun k => H k ∨ H1' k, ⟨H1', H2, h1.kp q2.kp h5, q1, h3.kp q2.kp (fun k e e2 => h4 k e2 e), fun k e e2 => ?_, fun e => ?_, h6, fun k e => .inr e, fun k e => .inl (h8 k e), .inl h9, ?_⟩, ?_, ?_⟩
  · rcases q2.new k e with h | h
    · exact h4 k h e2
    · have := h10 k (h8 k e2); omega
  · rcases q2.new _ e with h | h
    · exact h5 h
    · have := h10 _ h9; omega
  · rintro k (e | e)
    · exact Nat.lt_of_lt_of_le (h10 k e) q2.kp.size
    · exact hl k e
  · exact q2.kp.mono h7
  · rintro k (e | e)
    · exact .inl e
    · exact (q2.new k e).imp (h7 k) id
/-- The document's side has turned. -/
theorem P2.doc (h : P2 w H gp gd M gw gr d s dr sr) (hp : ∀ H2, RB w H2 gr M dr sr → (∀ k, H2 k → H k) → ∃ H2', RB w' H2' gr M d' s' ∧ Mv H2 H2' w w') : ∃ H', P2 w' H' gp gd M gw gr d s d' s' ∧ Mv H H' w w' := by
  obtain ⟨H1, H2, h1, h2, h3, h4, h5, h6, h7, h8, h9, h10⟩ := h
  obtain ⟨H2', q1, q2⟩ := hp H2 h3 h8
  have hl : ∀ k, H2' k → k < w'.heap.size := by obtain ⟨F, G, v, vals, _, _, _, _, _, hb, _⟩ := q1; exact hb
  refine ⟨fun k => H k ∨ H2' k, ⟨H1, H2', h1.kp q2.kp h6, h2.kp q2.kp h4, q1, fun k e e2 => ?_, h5, fun e => ?_, fun k e => .inl (h7 k e), fun k e => .inr e, .inl h9, ?_⟩, ?_, ?_⟩
  · rcases q2.new k e2 with h | h
    · exact h4 k e h
    · have := h10 k (h7 k e); omega
  · rcases q2.new _ e with h | h
    · exact h6 h
    · have := h10 _ h9; omega
  · rintro k (e | e)
    · exact Nat.lt_of_lt_of_le (h10 k e) q2.kp.size
    · exact hl k e
  · exact q2.kp.mono h8
  · rintro k (e | e)
    · exact .inl e
    · exact (q2.new k e).imp (h8 k) id
end
/-- The program's call answered r, and its side stands so. -/
def SP (w : World) (H : Nat → Prop) (gp gd M gw gr : Nat) (r : Int × Lg × Dk) (dr : Dk) (sr : Lg) (e : Ending) (w' : World) : Prop := e = .returned (.int .i64 r.1) ∧ ∃ H', P2 w' H' gp gd M gw gr r.2.2 r.2.1 dr sr ∧ Mv H H' w w'
/-- The document's. -/
def SR (w : World) (H : Nat → Prop) (gp gd M gw gr : Nat) (d : Dk) (s : Lg) (r : Int × Lg × Dk) (e : Ending) (w' : World) : Prop := e = .returned (.int .i64 r.1) ∧ ∃ H', P2 w' H' gp gd M gw gr d s r.2.2 r.2.1 ∧ Mv H H' w w'
section
variable {w : World} {H : Nat → Prop} {gp gd M gw gr : Nat} {d dr : Dk} {s sr : Lg}
/-- A call of the program's log. -/
theorem P2.acts {f : Nat} {args : Array Value} {r : Int × Lg × Dk} (h : P2 w H gp gd M gw gr d s dr sr) (hc : ∀ H1, PB w H1 gw gd d s → (∀ k, H1 k → H k) → Calls Try.prog f args w (Acted w H1 gw gd r)) : Calls Try.prog f args w (SP w H gp gd M gw gr r dr sr) := by
  have h0 := h
  obtain ⟨H1, H2, h1, h2, h3, h4, h5, h6, h7, h8, h9, h10⟩ := h
  refine (hc H1 h2 h7).mono ?_
  rintro e w' ⟨rfl, H1', q1, q2⟩
  have hl : ∀ k, H1' k → k < w'.heap.size := by obtain ⟨F, G, _, _, _, _, _, hb⟩ := q1; exact hb
  refine ⟨rfl, fun k => H k ∨ H1' k, ⟨H1', H2, h1.kp q2.kp h5, q1, h3.kp q2.kp (fun k e e2 => h4 k e2 e), fun k e e2 => ?_, fun e => ?_, h6, fun k e => .inr e, fun k e => .inl (h8 k e), .inl h9, ?_⟩, ?_, ?_⟩
  · rcases q2.new k e with h | h
    · exact h4 k h e2
    · have := h10 k (h8 k e2); omega
  · rcases q2.new _ e with h | h
    · exact h5 h
    · have := h10 _ h9; omega
  · rintro k (e | e)
    · exact Nat.lt_of_lt_of_le (h10 k e) q2.kp.size
    · exact hl k e
  · exact q2.kp.mono h7
  · rintro k (e | e)
    · exact .inl e
    · exact (q2.new k e).imp (h7 k) id
theorem P2.racts {f : Nat} {args : Array Value} {r : Int × Lg × Dk} (h : P2 w H gp gd M gw gr d s dr sr) (hc : ∀ H2, RB w H2 gr M dr sr → (∀ k, H2 k → H k) → Calls Try.prog f args w (RActed w H2 gr M r)) : Calls Try.prog f args w (SR w H gp gd M gw gr d s r) := by
  obtain ⟨H1, H2, h1, h2, h3, h4, h5, h6, h7, h8, h9, h10⟩ := h
  refine (hc H2 h3 h8).mono ?_
  rintro e w' ⟨rfl, H2', q1, q2⟩
  have hl : ∀ k, H2' k → k < w'.heap.size := by obtain ⟨F, G, v, vals, _, _, _, _, _, hb, _⟩ := q1; exact hb
  refine ⟨rfl, fun k => H k ∨ H2' k, ⟨H1, H2', h1.kp q2.kp h6, h2.kp q2.kp h4, q1, fun k e e2 => ?_, h5, fun e => ?_, fun k e => .inl (h7 k e), fun k e => .inr e, .inl h9, ?_⟩, ?_, ?_⟩
  · rcases q2.new k e2 with h | h
    · exact h4 k e h
    · have := h10 k (h7 k e); omega
  · rcases q2.new _ e with h | h
    · exact h6 h
    · have := h10 _ h9; omega
  · rintro k (e | e)
    · exact Nat.lt_of_lt_of_le (h10 k e) q2.kp.size
    · exact hl k e
  · exact q2.kp.mono h8
  · rintro k (e | e)
    · exact .inl e
    · exact (q2.new k e).imp (h8 k) id
theorem P2.append (h : P2 w H gp gd M gw gr d s dr sr) (A : Option Addr) (nb cb : Nat) (b : List UInt8) (hwl : d.waits.length ≤ 800000000) (h6 : 6 ≤ d.safe.length) (hcb : nb ≤ cb) (hcm : cb ≤ 9223372036854775807) (hb : Rd w w.heap.size A nb b) :
    Calls Try.prog 19 #[.pointer (some ⟨gw, 0, none⟩), .slice A nb cb] w (SP w H gp gd M gw gr (s.append d b) dr sr) := h.acts fun H1 h1 _ => append_any gw gd d s H1 A nb cb b w hwl h6 hcb hcm hb h1
theorem P2.rappend (h : P2 w H gp gd M gw gr d s dr sr) (A : Option Addr) (nb cb : Nat) (b : List UInt8) (hwl : dr.waits.length ≤ 800000000) (h6 : 6 ≤ dr.safe.length) (hnb : nb ≤ 140737488355328) (hb : Rd w w.heap.size A nb b) (hbH : ∀ ad, A = some ad → ¬ H ad.block) :
    Calls Try.prog 20 #[.pointer (some ⟨gr, 0, none⟩), .slice A nb cb] w (SR w H gp gd M gw gr d s (sr.append dr b)) := h.racts fun H2 h2 hs => rappend_any gr M dr sr H2 A nb cb b w hwl h6 hnb hb (fun ad e e2 => hbH ad e (hs _ e2)) h2
theorem P2.sync (h : P2 w H gp gd M gw gr d s dr sr) (hwl : d.waits.length ≤ 800000000) :
    Calls Try.prog 21 #[.pointer (some ⟨gw, 0, none⟩)] w (SP w H gp gd M gw gr (s.sync d) dr sr) := h.acts fun H1 h1 _ => syncW_any gw gd d s H1 w hwl h1
theorem P2.rsync (h : P2 w H gp gd M gw gr d s dr sr) (hwl : dr.waits.length ≤ 800000000) :
    Calls Try.prog 22 #[.pointer (some ⟨gr, 0, none⟩)] w (SR w H gp gd M gw gr d s (sr.sync dr)) := h.racts fun H2 h2 _ => rsyncW_any gr M dr sr H2 w hwl h2
theorem P2.reset (h : P2 w H gp gd M gw gr d s dr sr) (A : Option Addr) (nl cl : Nat) (l : List (List UInt8)) (hwl : d.waits.length ≤ 800000000) (h6 : 6 ≤ d.safe.length) (hnl : nl ≤ 9223372036854775807) (hls : Parts w w.heap.size A nl l) :
    Calls Try.prog 27 #[.pointer (some ⟨gw, 0, none⟩), .slice A nl cl] w (SP w H gp gd M gw gr (s.reset d l) dr sr) := h.acts fun H1 h1 _ => reset_any gw gd d s H1 A nl cl l w hwl h6 hnl hls h1
theorem P2.rreset (h : P2 w H gp gd M gw gr d s dr sr) (A : Option Addr) (nl cl : Nat) (l : List (List UInt8)) (hwl : dr.waits.length ≤ 800000000) (h6 : 6 ≤ dr.safe.length) (hnl : nl ≤ 9223372036854775807) (hst : ∀ w', Kp H w w' → Parts w' w'.heap.size A nl l) :
    Calls Try.prog 28 #[.pointer (some ⟨gr, 0, none⟩), .slice A nl cl] w (SR w H gp gd M gw gr d s (sr.reset dr l)) := h.racts fun H2 h2 hs => rreset_any gr M dr sr H2 A nl cl l w hwl h6 hnl (fun w' hk => hst w' (hk.mono hs)) h2
end

/-- What a call of the program's disk, or of the document's, made. -/
def TP (w : World) (H : Nat → Prop) (gp gd M : Nat) (d dr : Dk) (e : Ending) (w' : World) : Prop := e = .returned (.tuple #[]) ∧ ∃ H', D2 w' H' gp gd M d dr ∧ Mv H H' w w'
section
variable {w : World} {H : Nat → Prop} {gp gd M gw gr : Nat} {d dr : Dk} {s sr : Lg}
theorem D2.crash (h : D2 w H gp gd M d dr) (A : Option Addr) (n c : Nat) (ks : List Int) (hn : n ≤ 9223372036854775807) (hwl : d.waits.length ≤ 1000000000) (hks : RdI w w.heap.size A n ks) (hap : 0 < n → ∀ ad, A = some ad → ¬ H ad.block) :
    Calls Try.prog 14 #[.pointer (some ⟨gd, 0, none⟩), .slice A n c] w (TP w H gp gd M (d.crash ks) dr) := by
  obtain ⟨F1, F2, vw, vr, h1, h2, h3, h4, h5, h6, h7, h8, h9, h10⟩ := h
  refine (crash_any gd d F1 A n c ks w hn hwl hks (fun h0 ad e e2 => hap h0 ad e (h7 _ e2)) h2).mono ?_
  rintro e w' ⟨rfl, F', p1, p2⟩
  refine ⟨rfl, fun k => H k ∨ F' k, ⟨F', F2, vw, vr, h1.kp p2.kp h5, p1, h3.kp p2.kp (fun k e e2 => h4 k e2 e), fun k e e2 => ?_, fun e => ?_, h6, fun k e => .inr e, fun k e => .inl (h8 k e), .inl h9, ?_⟩, p2.kp.mono h7, ?_⟩
  · rcases p2.new k e with h | h
    · exact h4 k h e2
    · have := h10 k (h8 k e2); omega
  · rcases p2.new _ e with h | h
    · exact h5 h
    · have := h10 _ h9; omega
  · rintro k (e | e)
    · exact Nat.lt_of_lt_of_le (h10 k e) p2.kp.size
    · exact p1.lt k e
  · rintro k (e | e)
    · exact .inl e
    · exact (p2.new k e).imp (h7 k) id
theorem D2.rcrash (h : D2 w H gp gd M d dr) (A : Option Addr) (n c : Nat) (ks : List Int) (hn : n ≤ 9223372036854775807) (hwl : dr.waits.length ≤ 1000000000) (hks : RdI w w.heap.size A n ks) (hap : 0 < n → ∀ ad, A = some ad → ¬ H ad.block) :
    Calls Try.prog 15 #[.pointer (some ⟨M, 0, none⟩), .slice A n c] w (TP w H gp gd M d (dr.crash ks)) := by
  obtain ⟨F1, F2, vw, vr, h1, h2, h3, h4, h5, h6, h7, h8, h9, h10⟩ := h
  refine (rcrash_any M dr F2 A n c ks w hn hwl hks (fun h0 ad e e2 => hap h0 ad e (h8 _ e2)) h3).mono ?_
  rintro e w' ⟨rfl, F', p1, p2⟩
  refine ⟨rfl, fun k => H k ∨ F' k, ⟨F1, F', vw, vr, h1.kp p2.kp h6, h2.kp p2.kp h4, p1, fun k e e2 => ?_, h5, fun e => ?_, fun k e => .inl (h7 k e), fun k e => .inr e, .inl h9, ?_⟩, p2.kp.mono h8, ?_⟩
  · rcases p2.new k e2 with h | h
    · exact h4 k e h
    · have := h10 k (h7 k e); omega
  · rcases p2.new _ e with h | h
    · exact h6 h
    · have := h10 _ h9; omega
  · rintro k (e | e)
    · exact Nat.lt_of_lt_of_le (h10 k e) p2.kp.size
    · exact p1.lt k e
  · rintro k (e | e)
    · exact .inl e
    · exact (p2.new k e).imp (h8 k) id
end
theorem arm_bytes (d : Dk) (n : Int) : (d.arm n).bytes = d.bytes := rfl
/-- Armed, both, behind one another. -/
theorem Pq.arm {w : World} {H : Nat → Prop} {gp gd M : Nat} {d : Dk} {o : Option Lg} (h : Pq w H gp gd M d o) (n : Int) (h1 : -9223372036854775808 ≤ n) (h2 : n ≤ 9223372036854775807) :
    Calls Try.prog 29 #[.pointer (some ⟨gd, 0, none⟩), .int .i64 n] w fun e w1 => e = .returned (.tuple #[]) ∧ w1.cell? ⟨gp, 2, none⟩ = some (.pointer (some ⟨M, 0, none⟩)) ∧ Kp H w w1 ∧
      ∀ W, Below w1.heap.size w1 W → Calls Try.prog 30 #[.pointer (some ⟨M, 0, none⟩), .int .i64 n] W fun e w2 => e = .returned (.tuple #[]) ∧ Pq w2 H gp gd M (d.arm n) o ∧ Kp H w w2 := by
  obtain ⟨H1, H2, pw, pr, hb, hp, hr, h4, h5, h6, h7, h8, h9, h10⟩ := h
  have A1 : Calls Try.prog 29 #[.pointer (some ⟨gd, 0, none⟩), .int .i64 n] w fun e w1 => e = .returned (.tuple #[]) ∧ POn w1 H1 gd (d.arm n) o pw ∧ Kp H1 w w1 := by
    cases o with
    | none =>
      refine (arm_meth gd d H1 n w h1 h2 hp.2).mono ?_
      rintro e w1 ⟨rfl, q1, q2⟩
      exact ⟨rfl, ⟨hp.1, q1⟩, q2⟩
    | some s =>
      obtain ⟨g, e, F, G, p1, p2, p3, p4, p5, p6⟩ := hp
      refine (arm_meth gd d F n w h1 h2 p1).mono ?_
      rintro e2 w1 ⟨rfl, q1, q2⟩
      exact ⟨rfl, ⟨g, e, F, G, q1, p2.kp q2 (fun k e e2 => p3 k e2 e), p3, p4, p5, fun k e => Nat.lt_of_lt_of_le (p6 k e) q2.size⟩, q2.mono p4⟩
  refine A1.mono ?_
  rintro e w1 ⟨rfl, q1, q2⟩
  have hb1 := hb.kp q2 h5
  have hr1 := hr.kp q2 (fun k e e2 => h4 k e2 e)
  refine ⟨rfl, hb1.cell 2, q2.mono h7, fun W hW => ?_⟩
  have hbW := hb1.below hW hb1.lt
  have hrW := hr1.kp (K := fun _ => False) (Kp.of_below hW) fun _ _ h => h
  have hpW := q1.kp (K := fun _ => False) (Kp.of_below hW) fun _ _ h => h
  have hkW : Kp H w W := (q2.mono h7).trans (Kp.of_below hW)
  have A2 : Calls Try.prog 30 #[.pointer (some ⟨M, 0, none⟩), .int .i64 n] W fun e w2 => e = .returned (.tuple #[]) ∧ ROn w2 H2 M (d.arm n) o pr ∧ Kp H2 W w2 := by
    cases o with
    | none =>
      refine (rarm_meth M d H2 n W h2 hrW.2).mono ?_
      rintro e w2 ⟨rfl, q3, q4⟩
      exact ⟨rfl, ⟨hrW.1, q3⟩, q4⟩
    | some s =>
      obtain ⟨g, e, F, G, v, vals, p1, p2, p3, p4, p5, p6, p7⟩ := hrW
      refine (rarm_meth M d F n W h2 p1).mono ?_
      rintro e2 w2 ⟨rfl, q3, q4⟩
      exact ⟨rfl, ⟨g, e, F, G, v, vals, q3, p2.kp q4 (fun k e e2 => p3 k e2 e), p3, p4, p5, fun k e => Nat.lt_of_lt_of_le (p6 k e) q4.size, p7⟩, q4.mono p4⟩
  refine A2.mono ?_
  rintro e w2 ⟨rfl, q3, q4⟩
  refine ⟨rfl, ⟨H1, H2, pw, pr, hbW.kp q4 h6, hpW.kp q4 h4, q3, h4, h5, h6, h7, h8, h9, fun k e => Nat.lt_of_lt_of_le (h10 k e) (Nat.le_trans hkW.size q4.size)⟩, hkW.trans (q4.mono h8)⟩
end Go.Proofs.Ytpfccbojllabjaa

/- Plain: what stands on a disk behind calls that went well; opening again changes nothing. -/
namespace Go.Proofs.Ytpfccbojllabjaa

/-- The power is there, and no act is counted. -/
def Dk.Free (d : Dk) : Prop := d.down = false ∧ d.left = -1
theorem Dk.Free.act {d : Dk} (h : d.Free) : d.act = (true, d) := by
  unfold Dk.act
  rw [h.1, h.2]
  rfl
theorem Dk.Free.write {d : Dk} (h : d.Free) {a : Nat} {s : List UInt8} (ha : a < d.safe.length) (hs : s.length = 32) : d.write (a : Int) s = (0, { d with waits := d.waits ++ [(a, s)] }) := by
  unfold Dk.write
  rw [if_neg (by simp [h.1]), if_neg (by omega), h.act]
  simp
theorem Dk.Free.sync {d : Dk} (h : d.Free) : d.sync = (0, { d with safe := syncS d.safe d.waits, waits := [] }) := by
  unfold Dk.sync
  rw [h.act]
  rfl
theorem Dk.crash_free (d : Dk) (ks : List Int) : (d.crash ks).Free := ⟨rfl, rfl⟩
theorem Dk.new_free (n : Nat) : (Dk.new n).Free := ⟨rfl, rfl⟩
theorem Dk.crash_same {d : Dk} (h : d.Free) (hw : d.waits = []) (ks : List Int) : d.crash ks = d := by
  obtain ⟨s, w, l, dn⟩ := d
  obtain ⟨h1, h2⟩ := h
  simp only at h1 h2 hw
  subst h1 h2 hw
  unfold Dk.crash
  rw [crashS_nil]

theorem sync_went {d : Dk} (h : d.sync.1 = 0) : d.sync.2.waits = [] ∧ d.sync.2.safe = syncS d.safe d.waits := by
  unfold Dk.sync at h ⊢
  split
  · exact ⟨rfl, rfl⟩
  · rename_i ha; rw [if_neg ha] at h; cases h
theorem sec_sync {d : Dk} (hok : d.Ok) (h : d.sync.1 = 0) (j : Nat) (hj : j < d.safe.length) : d.sync.2.sec j = d.sec j := by
  obtain ⟨h1, h2⟩ := sync_went h
  unfold Dk.sec
  rw [h1, h2, seen_nil, seen_sync d.waits d.safe (fun x hx => (hok.waits x hx).1) j hj]
theorem sec_calm {d : Dk} (h : d.waits = []) (j : Nat) : d.sec j = d.safe.getD j [] := by unfold Dk.sec; rw [h, seen_nil]
theorem sec_crash_calm {d : Dk} (h : d.waits = []) (ks : List Int) (j : Nat) : (d.crash ks).sec j = d.sec j := by
  rw [sec_calm h, sec_calm (d := d.crash ks) rfl, d.crash_none h ks]

/-- Sectors that were laid. -/
theorem layS_sec (b : List UInt8) (base : Nat) : ∀ (k i : Nat) (d : Dk), (layS b base i k d).1 = 0 → ∀ j, (layS b base i k d).2.sec j = if base + i ≤ j ∧ j < base + i + k then chunk b (j - base) else d.sec j := by
  intro k
  induction k with
  | zero => intro i d _ j; rw [if_neg (by omega)]; rfl
  | succ k ih =>
    intro i d h j
    by_cases hw : (d.write ((base + i : Nat) : Int) (chunk b i)).1 = 0
    · rw [layS_next hw] at h ⊢
      rw [ih (i + 1) _ h j, sec_write hw j]
      by_cases h1 : base + i = j
      · subst h1
        rw [if_neg (by omega), if_pos rfl, if_pos (by omega), show base + i - base = i by omega]
      · rw [if_neg h1]
        by_cases h2 : base + (i + 1) ≤ j ∧ j < base + (i + 1) + k
        · rw [if_pos h2, if_pos (by omega)]
        · rw [if_neg h2, if_neg (by omega)]
    · rw [layS_stop hw] at h
      exact absurd h hw
theorem layS_ok (b : List UInt8) (base : Nat) : ∀ (k i : Nat) (d : Dk), d.Ok → (layS b base i k d).2.Ok := by
  intro k
  induction k with
  | zero => intro i d h; exact h
  | succ k ih =>
    intro i d h
    by_cases hw : (d.write ((base + i : Nat) : Int) (chunk b i)).1 = 0
    · rw [layS_next hw]; exact ih _ _ (Dk.write_ok h _ _)
    · rw [layS_stop hw]; exact Dk.write_ok h _ _
theorem layS_free (b : List UInt8) (base : Nat) : ∀ (k i : Nat) (d : Dk), d.Free → base + i + k ≤ d.safe.length → (∀ j, i ≤ j → j < i + k → (chunk b j).length = 32) →
    (layS b base i k d).1 = 0 ∧ (layS b base i k d).2.Free := by
  intro k
  induction k with
  | zero => intro i d h _ _; exact ⟨rfl, h⟩
  | succ k ih =>
    intro i d h hl hc
    have hw := h.write (a := base + i) (by omega) (hc i (Nat.le_refl _) (by omega))
    rw [layS_next (by rw [hw]), hw]
    exact ih (i + 1) _ ⟨h.1, h.2⟩ (by simp only; omega) (fun j h1 h2 => hc j (by omega) (by omega))
theorem chunk_len32 {b : List UInt8} {N j : Nat} (hb : b.length = N) (hj : j * 32 + 32 ≤ N) : (chunk b j).length = 32 := by
  unfold chunk
  rw [List.length_take, List.length_drop]
  omega
theorem secsFrom_eq {d : Dk} {base : Nat} {b : List UInt8} : ∀ k, (∀ j, j < k → d.sec (base + j) = chunk b j) → secsFrom d base k = b.take (k * 32) := by
  intro k
  induction k with
  | zero => intro _; simp [secsFrom]
  | succ k ih =>
    intro h
    rw [secsFrom, ih (fun j hj => h j (by omega)), h k (by omega)]
    unfold chunk
    rw [show (k + 1) * 32 = k * 32 + 32 by omega, List.take_add]
theorem area_eq {d : Dk} {e : Nat} {b : List UInt8} (hb : b.length = d.bytes) (h : ∀ j, j < d.half → d.sec (d.base e + j) = chunk b j) : d.area e = b := by
  unfold Dk.area
  rw [secsFrom_eq d.half h]
  exact List.take_of_length_le (by rw [hb]; exact Nat.le_refl _)
theorem area_chunk {d : Dk} (hok : d.Ok) (h6 : 6 ≤ d.safe.length) (e j : Nat) (hj : j < d.half) : chunk (d.area e) j = d.sec (d.base e + j) :=
  secsFrom_chunk _ d.half (fun i hi => Dk.sec_len hok (by have := (Dk.base_le h6 e).2.1; omega)) j hj
/-- Two disks with the same area. -/
theorem area_same {d d' : Dk} {e : Nat} (hl : d'.safe.length = d.safe.length) (h : ∀ j, j < d.half → d'.sec (d.base e + j) = d.sec (d.base e + j)) : d'.area e = d.area e := by
  unfold Dk.area
  have hb : d'.base e = d.base e := by unfold Dk.base; rw [hl]
  have hh : d'.half = d.half := by unfold Dk.half; rw [hl]
  rw [hb, hh]
  have : ∀ k, k ≤ d.half → secsFrom d' (d.base e) k = secsFrom d (d.base e) k := by
    intro k
    induction k with
    | zero => intro _; rfl
    | succ k ih => intro hk; rw [secsFrom, secsFrom, ih (by omega), h k (by omega)]
  exact this _ (Nat.le_refl _)

/-- Noughts behind the records, written where they lack. -/
theorem wipeS_free (b c : List UInt8) (base : Nat) : ∀ (k i : Nat) (z : Bool) (d : Dk), d.Free → base + i + k ≤ d.safe.length → (∀ j, i ≤ j → j < i + k → (chunk c j).length = 32) → (∀ j, i ≤ j → j < i + k → d.sec (base + j) = chunk b j) →
    (wipeS b c base i k z d).1 = 0 ∧ (wipeS b c base i k z d).2.2.Free ∧ (d.Ok → (wipeS b c base i k z d).2.2.Ok) ∧ (wipeS b c base i k z d).2.2.safe.length = d.safe.length ∧
    (∀ j, (wipeS b c base i k z d).2.2.sec j = if base + i ≤ j ∧ j < base + i + k then chunk c (j - base) else d.sec j) ∧
    (z = true → (wipeS b c base i k z d).2.1 = true) ∧ ((wipeS b c base i k z d).2.1 = false → (wipeS b c base i k z d).2.2 = d) := by
  intro k
  induction k with
  | zero => intro i z d h _ _ _; exact ⟨rfl, h, fun h => h, rfl, fun j => by rw [if_neg (by omega)]; rfl, fun h => h, fun _ => rfl⟩
  | succ k ih =>
    intro i z d h hl hc hs
    by_cases hsame : chunk b i = chunk c i
    · rw [wipe_same hsame]
      obtain ⟨q1, q2, q3, q4, q5, q6, q7⟩ := ih (i + 1) z d h (by omega) (fun j h1 h2 => hc j (by omega) (by omega)) (fun j h1 h2 => hs j (by omega) (by omega))
      refine ⟨q1, q2, q3, q4, fun j => ?_, q6, q7⟩
      rw [q5 j]
      by_cases h1 : base + i = j
      · subst h1
        rw [if_neg (by omega), if_pos (by omega), show base + i - base = i by omega, hs i (Nat.le_refl _) (by omega), hsame]
      · by_cases h2 : base + (i + 1) ≤ j ∧ j < base + (i + 1) + k
        · rw [if_pos h2, if_pos (by omega)]
        · rw [if_neg h2, if_neg (by omega)]
    · have hw := h.write (a := base + i) (by omega) (hc i (Nat.le_refl _) (by omega))
      have hw0 : (d.write ((base + i : Nat) : Int) (chunk c i)).1 = 0 := by rw [hw]
      have hsw := sec_write hw0
      rw [wipe_next hsame hw0]
      have hwok : d.Ok → (d.write ((base + i : Nat) : Int) (chunk c i)).2.Ok := fun h => Dk.write_ok h _ _
      have hwl := Dk.write_len d ((base + i : Nat) : Int) (chunk c i)
      have hwf : (d.write ((base + i : Nat) : Int) (chunk c i)).2.Free := by rw [hw]; exact ⟨h.1, h.2⟩
      generalize (d.write ((base + i : Nat) : Int) (chunk c i)).2 = d1 at *
      obtain ⟨q1, q2, q3, q4, q5, q6, q7⟩ := ih (i + 1) true d1 hwf (by omega) (fun j h1 h2 => hc j (by omega) (by omega)) (fun j h1 h2 => by rw [hsw, if_neg (by omega)]; exact hs j (by omega) (by omega))
      refine ⟨q1, q2, fun h => q3 (hwok h), by omega, fun j => ?_, fun _ => q6 rfl, fun h => by rw [q6 rfl] at h; cases h⟩
      rw [q5 j, hsw j]
      by_cases h1 : base + i = j
      · subst h1
        rw [if_neg (by omega), if_pos rfl, if_pos (by omega), show base + i - base = i by omega]
      · rw [if_neg h1]
        by_cases h2 : base + (i + 1) ≤ j ∧ j < base + (i + 1) + k
        · rw [if_pos h2, if_pos (by omega)]
        · rw [if_neg h2, if_neg (by omega)]

/-- What a log that was opened stands on. -/
structure OnDisk (d : Dk) (s : Lg) : Prop where
  ok : d.Ok
  six : 6 ≤ d.safe.length
  lg : s.Ok d.bytes
  newest : d.newest = s.epoch
  area : d.area s.epoch = fullF d.bytes s.recs
theorem newest_same {d d' : Dk} (h0 : d'.sec 0 = d.sec 0) (h1 : d'.sec 1 = d.sec 1) : d'.newest = d.newest := by unfold Dk.newest; rw [h0, h1]
/-- Opening with the power there. -/
theorem open_free {d : Dk} (hok : d.Ok) (h6 : 6 ≤ d.safe.length) (hf : d.Free) :
    ∃ d', d.openL = (0, some d.found, d') ∧ d'.Free ∧ OnDisk d' d.found ∧ d'.safe.length = d.safe.length ∧ (d.waits = [] → d'.waits = []) ∧ (∀ j, j < 2 → d'.sec j = d.sec j) := by
  obtain ⟨b1, b2, b3⟩ := Dk.base_le h6 d.newest
  have hfo := found_ok d hok h6
  have hal := Dk.area_len hok h6 d.newest
  have hfl : (fullF d.bytes (findR (d.area d.newest)).1).length = d.bytes := full_len _ _ hfo.fits
  have hbe : d.bytes = d.half * 32 := rfl
  obtain ⟨q1, q2, q3, q4, q5, q6, q7⟩ := wipeS_free (d.area d.newest) (fullF d.bytes (findR (d.area d.newest)).1) (d.base d.newest) d.half 0 false d hf (by omega)
    (fun j h1 h2 => chunk_len32 hfl (by omega)) (fun j h1 h2 => (area_chunk hok h6 _ j (by omega)).symm)
  have e : d.wiped = wipeS (d.area d.newest) (fullF d.bytes (findR (d.area d.newest)).1) (d.base d.newest) 0 d.half false d := rfl
  rw [← e] at q1 q2 q3 q4 q5 q6 q7
  have hlies : ∀ d2 : Dk, d2.Ok → d2.safe.length = d.safe.length → (∀ j, j < d.safe.length → d2.sec j = d.wiped.2.2.sec j) → OnDisk d2 d.found := fun d2 h1 h2 h3 => by
    have hby : d2.bytes = d.bytes := bytes_of h2
    have hba : d2.base d.newest = d.base d.newest := by unfold Dk.base; rw [h2]
    have hha : d2.half = d.half := by unfold Dk.half; rw [h2]
    refine ⟨h1, by omega, by rw [hby]; exact hfo, newest_same ?_ ?_, ?_⟩
    · rw [h3 0 (by omega), q5 0, if_neg (by omega)]
    · rw [h3 1 (by omega), q5 1, if_neg (by omega)]
    · rw [hby]
      show d2.area d.newest = fullF d.bytes (findR (d.area d.newest)).1
      refine area_eq (by rw [hfl, hby]) (fun j hj => ?_)
      rw [hha] at hj
      rw [hba, h3 _ (by omega), q5 _, if_pos (by omega), show d.base d.newest + j - d.base d.newest = j by omega]
  have h2x : ∀ j, j < 2 → d.wiped.2.2.sec j = d.sec j := fun j hj => by rw [q5 j, if_neg (by omega)]
  by_cases hz : d.wiped.2.1 = false
  · refine ⟨d.wiped.2.2, ?_, q2, hlies _ (q3 hok) q4 (fun _ _ => rfl), q4, fun h => by rw [q7 hz]; exact h, h2x⟩
    unfold Dk.openL
    rw [if_neg (by omega), if_neg (by simp [hf.1]), if_neg (by simp [q1]), if_pos hz]
  · have hs := q2.sync
    have hs0 : d.wiped.2.2.sync.1 = 0 := by rw [hs]
    have hokw := q3 hok
    refine ⟨d.wiped.2.2.sync.2, ?_, by rw [hs]; exact ⟨q2.1, q2.2⟩, hlies _ (Dk.sync_ok hokw) (by rw [Dk.sync_len, q4]) (fun j hj => sec_sync hokw hs0 j (by omega)), by rw [Dk.sync_len, q4], fun _ => (sync_went hs0).1, fun j hj => by rw [sec_sync hokw hs0 j (by omega), h2x j hj]⟩
    unfold Dk.openL
    rw [if_neg (by omega), if_neg (by simp [hf.1]), if_neg (by simp [q1]), if_neg hz, if_neg (by simp [hs0])]
/-- What is found where a log lies. -/
theorem OnDisk.found {d : Dk} {s : Lg} (h : OnDisk d s) : d.found = { epoch := s.epoch, recs := s.recs, safe := s.recs.length, gone := false } := by
  unfold Dk.found
  rw [h.newest, h.area, findR_full _ _ h.lg.small]
/-- Opening once more, where all lies as it should: nothing is written. -/
theorem open_again {d : Dk} {s : Lg} (h : OnDisk d s) (hd : d.down = false) : d.openL = (0, some d.found, d) := by
  have hf := findR_full d.bytes s.recs h.lg.small
  have hw : d.wiped = (0, false, d) := by
    unfold Dk.wiped
    rw [h.newest, h.area, hf]
    have : ∀ k i, wipeS (fullF d.bytes s.recs) (fullF d.bytes s.recs) (d.base s.epoch) i k false d = (0, false, d) := by
      intro k
      induction k with
      | zero => intro i; rfl
      | succ k ih => intro i; rw [wipe_same rfl, ih]
    exact this _ _
  unfold Dk.openL
  rw [if_neg (by have := h.six; omega), if_neg (by simp [hd]), hw]
  simp
end Go.Proofs.Ytpfccbojllabjaa

/- Layer 4's laws: both are started; an act is played on both. -/
namespace Go.Proofs.Ytpfccbojllabjaa
open Go.RowKit

def StartR (n : Nat) (w : World) (e : Ending) (w' : World) : Prop := ∃ gp gd M H, e = .returned (.tuple #[.pointer (some ⟨gp, 0, none⟩), .bool true]) ∧ Pq w' H gp gd M (Dk.new n).openL.2.2 (Dk.new n).openL.2.1 ∧ (∀ k, H k → w.heap.size ≤ k) ∧ Below w.heap.size w w'
set_option maxRecDepth 100000 in
set_option maxHeartbeats 2000000 in
theorem start_any (n : Nat) (w : World) (h1 : 1 ≤ n) (h2 : n ≤ 2048) : Calls Try.prog 10 #[.int .i64 n] w (StartR n w) := by
  have HC1 := Lib.hid (new_any n w h1 h2)
  have HC2 : Hid (∀ w1, Calls Try.prog 41 #[.int .i64 n] w1 (MadeR (Dk.new n) w1)) := fun w1 => rnew_any n w1 h1 h2
  have HW : Hid ((Dk.new n).waits.length ≤ 900000000) := by show _ ≤ _; simp [Dk.new]
  go_enter Try.func10, Try.ntmps10
  go_wp2_with fail
  refine HC1.out.mono ?_
  rintro x w1 ⟨gd, F1, rfl, hp, hn1, hb1⟩
  have HC := Lib.hid (HC2.out w1)
  have Hp := Lib.hid hp
  have Hn1 := Lib.hid hn1
  have Hb1 := Lib.hid hb1
  clear hp hn1 hb1 HC1 HC2
  go_wp2_with fail
  refine HC.out.mono ?_
  rintro x w2 ⟨M, F2, rfl, hr, hn2, hb2⟩
  have hbk := Bk.new w2 38 #[.pointer (some ⟨gd, 0, none⟩), .pointer none, .pointer (some ⟨M, 0, none⟩), .pointer none]
  have hba := (Below.refl w2.heap.size w2).alloc (Nat.le_refl _) (.cells #[.pointer (some ⟨gd, 0, none⟩), .pointer none, .pointer (some ⟨M, 0, none⟩), .pointer none] 38)
  have hD : Dq (w2.alloc (.cells #[.pointer (some ⟨gd, 0, none⟩), .pointer none, .pointer (some ⟨M, 0, none⟩), .pointer none] 38)) (fun k => F1 k ∨ F2 k ∨ k = w2.heap.size) w2.heap.size gd M (Dk.new n) := by
    refine ⟨F1, F2, _, _, hbk, (Hp.out.below hb2).below hba, hr.below hba, fun k e e2 => ?_, fun e => ?_, fun e => ?_, fun k e => .inl e, fun k e => .inr (.inl e), .inr (.inr rfl), ?_⟩
    · have := Hp.out.lt k e; have := hn2 k e2; omega
    · have := Hp.out.lt _ e; have := hb2.size; omega
    · have := hr.lt _ e; omega
    · rintro k (e | e | e)
      · have := Hp.out.lt k e; have := hb2.size; simp; omega
      · have := hr.lt k e; simp; omega
      · simp; omega
  have hge : ∀ k, (F1 k ∨ F2 k ∨ k = w2.heap.size) → w.heap.size ≤ k := by
    have := Hb1.out.size
    have := hb2.size
    rintro k (e | e | e)
    · exact Hn1.out k e
    · have := hn2 k e; omega
    · omega
  have hbb : Below w.heap.size w (w2.alloc (.cells #[.pointer (some ⟨gd, 0, none⟩), .pointer none, .pointer (some ⟨M, 0, none⟩), .pointer none] 38)) := (below_then Hb1.out hb2).trans (hba.mono (Nat.le_trans Hb1.out.size hb2.size))
  have HO := Lib.hid (pairOpen_any w2.heap.size gd M (Dk.new n) _ _ HW.out hD)
  have Hge := Lib.hid hge
  have Hbb := Lib.hid hbb
  clear hbk hba hD hge hbb hr hn2 hb2 HC Hp Hn1 Hb1
  go_wp2_with fail
  refine HO.out.mono ?_
  rintro x w3 ⟨rfl, H', hq, hm⟩
  have HF : Hid (Pq w3 H' w2.heap.size gd M (Dk.new n).openL.2.2 (Dk.new n).openL.2.1 ∧ (∀ k, H' k → w.heap.size ≤ k) ∧ Below w.heap.size w w3) :=
    ⟨hq, hm.ge Hbb.out.size Hge.out, Hbb.out.trans (hm.kp.below Hge.out Hbb.out.size)⟩
  clear hq hm HO Hbb Hge
  go_wp2
  go_ret2
  exact (⟨w2.heap.size, gd, M, H', rfl, HF.out⟩ : StartR n w _ _)
set_option maxRecDepth 100000 in
theorem start_bad (n : Int) (w : World) (h : n < 1 ∨ 2048 < n) : Calls Try.prog 10 #[.int .i64 n] w fun e w' => e = .returned (.tuple #[.pointer none, .bool false]) ∧ w = w' := by
  have HB := Lib.hid h
  clear h
  go_enter Try.func10, Try.ntmps10
  go_wp2_with fail
  refine (new_bad n w HB.out).mono ?_
  rintro e w' ⟨rfl, rfl⟩
  go_wp2_with fail
  refine (rnew_bad n w HB.out).mono ?_
  rintro e w' ⟨rfl, rfl⟩
  go_wp2
  go_ret2
  exact ⟨rfl, rfl⟩

/-- An act. -/
structure Ac4 where
  kind : Int
  n : Int
  fill : UInt8
  list : List (List UInt8)
  la : Option Addr
  ln : Nat
  lc : Nat
  keep : List Int
  ka : Option Addr
  kn : Nat
  kc : Nat
structure Ac4.Ok (x : Ac4) (w : World) (B : Nat) : Prop where
  kind : -9223372036854775808 ≤ x.kind ∧ x.kind ≤ 9223372036854775807
  n : -9223372036854775808 ≤ x.n ∧ x.n ≤ 9223372036854775807
  lcap : x.ln ≤ x.lc ∧ x.lc ≤ 9223372036854775807
  list : Parts w B x.la x.ln x.list
  cap : x.kn ≤ x.kc ∧ x.kc ≤ 9223372036854775807
  keep : RdI w B x.ka x.kn x.keep
theorem Ac4.Ok.below {x : Ac4} {w w' : World} {B : Nat} (h : x.Ok w B) (hb : Below B w w') : x.Ok w' B := ⟨h.kind, h.n, h.lcap, h.list.below hb, h.cap, h.keep.below hb⟩
def Ac4.v (x : Ac4) : Value := .agg #[.int .i64 x.kind, .int .i64 x.n, .int .u8 (x.fill.toNat : Int), .slice x.la x.ln x.lc, .slice x.ka x.kn x.kc]
theorem RdI.apart {w : World} {B n : Nat} {A : Option Addr} {l : List Int} {H : Nat → Prop} (h : RdI w B A n l) (hH : ∀ k, H k → B ≤ k) : 0 < n → ∀ ad, A = some ad → ¬ H ad.block := fun hn ad e hf => by
  obtain ⟨b, o, e2, hb, _⟩ := h.2.2 hn
  rw [e] at e2
  injection e2 with e2
  subst e2
  have := hH _ hf
  simp only at this
  omega

theorem append_waits (s : Lg) (d : Dk) (b : List UInt8) (hl : d.safe.length ≤ 2048) : (s.append d b).2.2.waits.length ≤ d.waits.length + 1100 := by
  have hbs : d.bytes ≤ 32768 := by unfold Dk.bytes Dk.half halfN; omega
  unfold Lg.append
  split
  · simp
  split
  · simp
  split
  · simp
  rename_i h1
  unfold Lg.room at h1
  have h2 := layS_waits (fullF d.bytes (s.recs ++ [b])) (d.base s.epoch) ((usedF (s.recs ++ [b]) - 1) / 32 + 1 - usedF s.recs / 32) (usedF s.recs / 32) d
  have h3 : usedF (s.recs ++ [b]) ≤ 32768 := by rw [usedF_app, usedF_one]; omega
  split
  · show (s.laid d b).2.waits.length ≤ _
    unfold Lg.laid
    omega
  · show (s.laid d b).2.waits.length ≤ _
    unfold Lg.laid
    omega
theorem sync_waits4 (d : Dk) : d.sync.2.waits.length ≤ d.waits.length := by
  unfold Dk.sync
  split
  · simp
  · simp [d.act_same.2]
theorem syncL_waits (s : Lg) (d : Dk) : (s.sync d).2.2.waits.length ≤ d.waits.length := by
  have := sync_waits4 d
  unfold Lg.sync
  split
  · simp
  split
  · exact this
  · exact this
theorem syncL_len (s : Lg) (d : Dk) : (s.sync d).2.2.safe.length = d.safe.length := by
  unfold Lg.sync
  split
  · rfl
  split
  · exact Dk.sync_len d
  · exact Dk.sync_len d
theorem write_waits4 (d : Dk) (a : Int) (b : List UInt8) : (d.write a b).2.waits.length ≤ d.waits.length + 1 := by
  unfold Dk.write
  split
  · simp
  split
  · simp
  split
  · simp
  · simp [d.act_same.2]
theorem settle_waits (d : Dk) (e : Nat) (l : List (List UInt8)) : (settleS d e l).2.waits.length ≤ d.waits.length + d.half + 1 := by
  have h1 := layS_waits (fullF d.bytes l) (d.base e) d.half 0 d
  have h2 := sync_waits4 (layS (fullF d.bytes l) (d.base e) 0 d.half d).2
  have h3 := write_waits4 (layS (fullF d.bytes l) (d.base e) 0 d.half d).2.sync.2 ((e % 2 : Nat) : Int) (headB e)
  have h4 := sync_waits4 ((layS (fullF d.bytes l) (d.base e) 0 d.half d).2.sync.2.write ((e % 2 : Nat) : Int) (headB e)).2
  unfold settleS
  split
  · omega
  split
  · omega
  split
  · omega
  · omega
theorem reset_waits (s : Lg) (d : Dk) (l : List (List UInt8)) (hl : d.safe.length ≤ 2048) : (s.reset d l).2.2.waits.length ≤ d.waits.length + 1100 := by
  have h1 := settle_waits d (s.epoch + 1) l
  have h2 : d.half ≤ 1024 := by unfold Dk.half halfN; omega
  unfold Lg.reset
  split
  · simp
  split
  · simp
  split
  · show (settleS d (s.epoch + 1) l).2.waits.length ≤ _; omega
  · show (settleS d (s.epoch + 1) l).2.waits.length ≤ _; omega
theorem openL_six {d : Dk} {s : Lg} (h : d.openL.2.1 = some s) : 6 ≤ d.safe.length := by
  unfold Dk.openL at h
  by_cases h6 : d.safe.length < 6
  · rw [if_pos h6] at h; cases h
  · omega

/-- An act was played on both: they answered the same, and stand alike. -/
def PlayR (x : Ac4) (w : World) (H : Nat → Prop) (gp gd M : Nat) (d : Dk) (o : Option Lg) (e : Ending) (w' : World) : Prop :=
  e = .returned (.bool true) ∧ ∃ d' o' H', Pq w' H' gp gd M d' o' ∧ Mv H H' w w' ∧ d'.safe.length = d.safe.length ∧ d'.waits.length ≤ d.waits.length + 1100 ∧ (o' ≠ none → 6 ≤ d.safe.length) ∧ (x.kind = 5 → d' = d.arm x.n ∧ o' = o)

section
variable {gp gd M : Nat} {d : Dk} {H : Nat → Prop} {w : World} {B : Nat}
/-- The world in which the act's block lies. -/
def atAct (x : Ac4) (w : World) : World := w.alloc (.cells #[.int .i64 x.kind, .int .i64 x.n, .int .u8 (x.fill.toNat : Int), .slice x.la x.ln x.lc, .slice x.ka x.kn x.kc] 31)
theorem atAct_bk (x : Ac4) (w : World) : Bk (atAct x w) w.heap.size 31 #[.int .i64 x.kind, .int .i64 x.n, .int .u8 (x.fill.toNat : Int), .slice x.la x.ln x.lc, .slice x.ka x.kn x.kc] := Bk.new w _ _
theorem atAct_below (x : Ac4) (w : World) : Below w.heap.size w (atAct x w) := (Below.refl _ _).alloc (Nat.le_refl _) _
theorem atAct_size (x : Ac4) (w : World) : (atAct x w).heap.size = w.heap.size + 1 := by simp [atAct]

set_option maxRecDepth 100000 in
set_option maxHeartbeats 4000000 in
theorem play_four (x : Ac4) (o : Option Lg) (hk : x.kind = 4) (hwl : d.waits.length ≤ 900000000) (hx : x.Ok w B) (hB : B ≤ w.heap.size) (hBH : ∀ k, H k → B ≤ k) (h : Pq w H gp gd M d o) :
    Calls Try.prog 12 #[.pointer (some ⟨gp, 0, none⟩), x.v] w (PlayR x w H gp gd M d o) := by
  have hba := atAct_below x w
  have hN := atAct_bk x w
  have hsz := atAct_size x w
  have hHlt := h.disks.lt
  have hD0 := (h.disks.two).below hba
  have hna : ¬ H w.heap.size := fun e => by have := hHlt _ e; omega
  have hc := hD0.cells
  have HC1 : Hid (Calls Try.prog 14 #[.pointer (some ⟨gd, 0, none⟩), .slice x.ka x.kn x.kc] (atAct x w).drew (TP (atAct x w).drew H gp gd M (d.crash x.keep) d)) := (hD0.below (Below.refl _ _).drew).crash x.ka x.kn x.kc x.keep (by have := hx.cap; omega) (by omega) (((hx.keep.below (hba.mono hB)).below (Below.refl B _).drew).more (show B ≤ (atAct x w).heap.size by omega)) (hx.keep.apart hBH)
  have HS : Hid (∀ w1 H1, Mv H H1 (atAct x w) w1 → D2 w1 H1 gp gd M (d.crash x.keep) d → w1.cell? ⟨gp, 2, none⟩ = some (.pointer (some ⟨M, 0, none⟩)) ∧ w1.cell? ⟨w.heap.size, 4, none⟩ = some (.slice x.ka x.kn x.kc) ∧ Calls Try.prog 15 #[.pointer (some ⟨M, 0, none⟩), .slice x.ka x.kn x.kc] w1.drew (TP w1.drew H1 gp gd M (d.crash x.keep) (d.crash x.keep))) := fun w1 H1 hm h1 => by
    have hbw : Below B w w1 := (hba.mono hB).trans (hm.kp.below hBH (by omega))
    refine ⟨h1.cells.2, (hN.kp hm.kp hna).cell 4, (h1.below (Below.refl _ _).drew).rcrash x.ka x.kn x.kc x.keep (by have := hx.cap; omega) (by omega) (((hx.keep.below hbw).below (Below.refl B _).drew).more (show B ≤ w1.heap.size by have := hm.kp.size; omega)) (hx.keep.apart (hm.ge (by omega) hBH))⟩
  have HO : Hid (∀ w2 H2, D2 w2 H2 gp gd M (d.crash x.keep) (d.crash x.keep) → Calls Try.prog 23 #[.pointer (some ⟨gp, 0, none⟩)] w2 fun e w' => e = .returned (.bool true) ∧ ∃ H', Pq w' H' gp gd M (d.crash x.keep).openL.2.2 (d.crash x.keep).openL.2.1 ∧ Mv H2 H' w2 w') := fun w2 H2 h2 => pairOpen_any gp gd M _ H2 w2 (by simp [Dk.crash]) h2
  have HE : Hid (∀ w3 H3, Pq w3 H3 gp gd M (d.crash x.keep).openL.2.2 (d.crash x.keep).openL.2.1 → Mv H H3 (atAct x w) w3 → PlayR x w H gp gd M d o (.returned (.bool true)) w3) := fun w3 H3 h3 hm => by
    have hl := openL_len (d.crash x.keep)
    have hw := openL_waits (d.crash x.keep)
    have hc := Dk.crash_len d x.keep
    have hln := h.disks.len
    have hhf : (d.crash x.keep).half ≤ 1024 := by unfold Dk.half halfN; omega
    have hw0 : (d.crash x.keep).waits.length = 0 := by simp [Dk.crash]
    refine ⟨rfl, _, _, H3, h3, (Mv.of (Kp.of_below hba)).trans hm, by omega, by omega, fun h => ?_, fun e => by rw [hk] at e; cases e⟩
    obtain ⟨s, hs⟩ := Option.ne_none_iff_exists'.1 h
    have := openL_six hs
    omega
  have c0 := hc.1
  have b0 := hN.cell 0
  have b4 := hN.cell 4
  simp only [List.getElem?_toArray, List.getElem?_cons_zero, List.getElem?_cons_succ] at b0 b4
  rw [hk] at b0
  clear hba hN hsz hHlt hD0 hna hc hx hBH h
  unfold Ac4.v
  unfold atAct at *
  rw [hk] at *
  go_enter Try.func12, Try.ntmps12
  go_wp2
  go_region_law (go_simp; go_at_call 14; refine HC1.out.mono ?_; rintro e w1 ⟨rfl, H1, h1, hm1⟩)
  all_goals
    have hm1' := (Mv.of (F := H) ((Kp.refl H _).trans (Kp.drew H _))).trans hm1
    obtain ⟨e2, e4, hc2⟩ := HS.out w1 H1 hm1' h1
    have HC2 := Lib.hid hc2
    have Hm1 := Lib.hid hm1'
    clear hc2 hm1 hm1' h1 HS HC1
    go_wp2
    go_region_law (go_simp; go_at_call 15; refine HC2.out.mono ?_; rintro e w2 ⟨rfl, H2, h2, hm2⟩)
  all_goals
    have HC3 := Lib.hid (HO.out w2 H2 h2)
    have Hm2 := Lib.hid ((Hm1.out.trans (Mv.of (Kp.drew H1 _))).trans hm2)
    clear hm2 h2 HO HC2
    go_wp2_with fail
    refine HC3.out.mono ?_
    rintro e w3 ⟨rfl, H3, h3, hm3⟩
    have HF := Lib.hid (HE.out w3 H3 h3 (Hm2.out.trans hm3))
    clear h3 hm3 HC3 HE
    go_wp2
    go_ret
    exact HF.out

theorem Pq.lt {o : Option Lg} (h : Pq w H gp gd M d o) : ∀ k, H k → k < w.heap.size := h.disks.lt
set_option maxRecDepth 100000 in
set_option maxHeartbeats 4000000 in
theorem play_five (x : Ac4) (o : Option Lg) (hk : x.kind = 5) (h6 : o ≠ none → 6 ≤ d.safe.length) (hx : x.Ok w B) (h : Pq w H gp gd M d o) :
    Calls Try.prog 12 #[.pointer (some ⟨gp, 0, none⟩), x.v] w (PlayR x w H gp gd M d o) := by
  have hba := atAct_below x w
  have hN := atAct_bk x w
  have hHlt := h.lt
  have hna : ¬ H w.heap.size := fun e => by have := hHlt _ e; omega
  have hc := (h.disks.two.below hba).cells
  have HC1 := Lib.hid (((h.below hba).below (Below.refl _ _).drew).arm x.n hx.n.1 hx.n.2)
  have HS : Hid (∀ w1, Kp H (atAct x w).drew w1 → w1.cell? ⟨w.heap.size, 1, none⟩ = some (.int .i64 x.n)) := fun w1 hk1 => (hN.kp ((Kp.drew H (atAct x w)).trans hk1) hna).cell 1
  have HE : Hid (∀ w3, Pq w3 H gp gd M (d.arm x.n) o → Kp H (atAct x w).drew w3 → PlayR x w H gp gd M d o (.returned (.bool true)) w3) := fun w3 h3 hm =>
    ⟨rfl, _, _, H, h3, Mv.of (((Kp.of_below hba).trans (Kp.drew H _)).trans hm), rfl, by show d.waits.length ≤ _; omega, h6, fun _ => ⟨rfl, rfl⟩⟩
  have c0 := hc.1
  have b0 := hN.cell 0
  have b1 := hN.cell 1
  simp only [List.getElem?_toArray, List.getElem?_cons_zero, List.getElem?_cons_succ] at b0 b1
  rw [hk] at b0
  clear hba hN hHlt hna hc hx h
  unfold Ac4.v
  unfold atAct at *
  rw [hk] at *
  go_enter Try.func12, Try.ntmps12
  go_wp2
  go_region_law (go_simp; go_at_call 29; refine HC1.out.mono ?_; rintro e w1 ⟨rfl, e2, hk1, hn1⟩)
  all_goals
    have e1 := HS.out w1 hk1
    have Hk1 := Lib.hid hk1
    have Hn1 := Lib.hid hn1
    clear hk1 hn1 HS HC1
    go_wp2
    go_region_law (go_simp; go_at_call 30; refine (Hn1.out _ (Below.refl _ _).drew).mono ?_; rintro e w2 ⟨rfl, h2, hm2⟩)
  all_goals
    have HF := Lib.hid (HE.out w2 h2 hm2)
    clear hm2 h2 HE
    go_wp2
    go_ret
    exact HF.out
set_option maxRecDepth 100000 in
set_option maxHeartbeats 4000000 in
theorem play_none (x : Ac4) (hk : x.kind ≠ 4) (hk5 : x.kind ≠ 5) (h : Pq w H gp gd M d none) :
    Calls Try.prog 12 #[.pointer (some ⟨gp, 0, none⟩), x.v] w (PlayR x w H gp gd M d none) := by
  have hba := atAct_below x w
  have hN := atAct_bk x w
  have hx := h.below hba
  have hE : PlayR x w H gp gd M d none (.returned (.bool true)) (atAct x w) := ⟨rfl, _, _, H, hx, Mv.of (Kp.of_below hba), rfl, by omega, fun h => absurd rfl h, fun e => absurd e hk5⟩
  have HE := Lib.hid hE
  obtain ⟨H1, H2, pw, pr, hb, ⟨rfl, _⟩, ⟨rfl, _⟩, _⟩ := hx
  have c1 := hb.cell 1
  have c3 := hb.cell 3
  have b0 := hN.cell 0
  simp only [List.getElem?_toArray, List.getElem?_cons_zero, List.getElem?_cons_succ] at b0 c1 c3
  have q4 : (x.kind == 4) = false := by simpa using hk
  have q5 : (x.kind == 5) = false := by simpa using hk5
  clear hba hN h hb hE hk hk5
  unfold Ac4.v
  unfold atAct at *
  go_enter Try.func12, Try.ntmps12
  go_wp2
  go_ret
  exact HE.out
end
end Go.Proofs.Ytpfccbojllabjaa

/- Layer 4's laws: an act is played on both logs. -/
namespace Go.Proofs.Ytpfccbojllabjaa
open Go.RowKit

set_option maxRecDepth 100000 in
theorem spoil_zero (w : World) : Calls Try.prog 38 #[.slice none 0 0] w fun e w' => e = .returned (.tuple #[]) ∧ w = w' := by
  go_enter Try.func38, Try.ntmps38
  go_wp2
  go_loopg [2] 0 (fun k i wr => i = .int .i64 0 ∧ wr = w)
  case atStart => exact ⟨rfl, rfl⟩
  case round =>
    obtain ⟨rfl, rfl⟩ := hrel
    go_wp2
    go_end0
    exact ⟨rfl, rfl⟩
theorem spoil_row (A : Option Addr) (n c base : Nat) (l : List UInt8) (w : World) (hn : n ≤ 140737488355000) (hx : w.ownsRow base 5 1 (.slice A n c) n (u8s l)) :
    Calls Try.prog 38 #[.slice A n c] w fun e w' => e = .returned (.tuple #[]) ∧ Kp (fun k => Value.ownBlock (.slice A n c) = some k) w w' := by
  rcases hx.2 with ⟨h0, _⟩ | ⟨g, cap, cur, h0, _⟩
  · injection h0 with e1 e2 e3
    subst e1 e2 e3
    refine (spoil_zero w).mono ?_
    rintro e w' ⟨rfl, rfl⟩
    exact ⟨rfl, Kp.refl _ _⟩
  · injection h0 with e1 _ e3
    subst e1 e3
    refine (spoil_any g n c base l w hn hx).mono ?_
    rintro e w' ⟨rfl, hg⟩
    exact ⟨rfl, Kp.of_grown hg rfl⟩

section
variable {gp gd M gw gr : Nat} {d : Dk} {s : Lg} {H : Nat → Prop} {w : World} {B : Nat}
/-- Both went through a step: they stand alike. -/
theorem playR_end {x : Ac4} {o : Option Lg} {d' : Dk} {s' : Lg} {H' : Nat → Prop} {w' : World} (h : P2 w' H' gp gd M gw gr d' s' d' s') (hm : Mv H H' w w') (hl : d'.safe.length = d.safe.length) (hw : d'.waits.length ≤ d.waits.length + 1100) (h6 : 6 ≤ d.safe.length) (h5 : x.kind ≠ 5) : PlayR x w H gp gd M d o (.returned (.bool true)) w' :=
  ⟨rfl, d', some s', H', h.pair, hm, hl, hw, fun _ => h6, fun e => absurd e h5⟩

set_option maxRecDepth 100000 in
set_option maxHeartbeats 4000000 in
theorem play_append (x : Ac4) (hk : x.kind = 0 ∨ x.kind = 1) (hwl : d.waits.length ≤ 700000000) (h6 : 6 ≤ d.safe.length) (hx : x.Ok w B) (h : Pq w H gp gd M d (some s)) :
    Calls Try.prog 12 #[.pointer (some ⟨gp, 0, none⟩), x.v] w (PlayR x w H gp gd M d (some s)) := by
  have hlen := h.disks.len
  obtain ⟨gw, gr, h2⟩ := h.two
  have hba := atAct_below x w
  have hsz := atAct_size x w
  have hN := atAct_bk x w
  have hHlt := h.lt
  have hP0 := h2.below hba
  have c1 := hP0.blk.cell 1
  have c3 := hP0.blk.cell 3
  have b0 := hN.cell 0
  have b1 := hN.cell 1
  have b2 := hN.cell 2
  simp only [List.getElem?_toArray, List.getElem?_cons_zero, List.getElem?_cons_succ] at b0 b1 b2 c1 c3
  have HC1 := Lib.hid (body_any x.n x.fill (atAct x w) hx.n.1 hx.n.2)
  have hN30 := bodyLen_le x.n
  -- behind body
  have HS1 : Hid (∀ w1 A N c l, N ≤ 1030 → w1.ownsRow (atAct x w).heap.size 5 1 (.slice A N c) N (u8s l) → Below (atAct x w).heap.size (atAct x w) w1 → l.length = N →
      w1.cell? ⟨gp, 1, none⟩ = some (.pointer (some ⟨gw, 0, none⟩)) ∧ Calls Try.prog 19 #[.pointer (some ⟨gw, 0, none⟩), .slice A N c] w1 (SP w1 H gp gd M gw gr (s.append d l) d s) ∧
      (∀ w2 H2, Mv H H2 w1 w2 → P2 w2 H2 gp gd M gw gr (s.append d l).2.2 (s.append d l).2.1 d s →
        w2.cell? ⟨gp, 3, none⟩ = some (.pointer (some ⟨gr, 0, none⟩)) ∧ Calls Try.prog 20 #[.pointer (some ⟨gr, 0, none⟩), .slice A N c] w2 (SR w2 H2 gp gd M gw gr (s.append d l).2.2 (s.append d l).2.1 (s.append d l)) ∧
        (∀ w3 H3, Mv H2 H3 w2 w3 → P2 w3 H3 gp gd M gw gr (s.append d l).2.2 (s.append d l).2.1 (s.append d l).2.2 (s.append d l).2.1 →
          Calls Try.prog 38 #[.slice A N c] w3 fun e w4 => e = .returned (.tuple #[]) ∧ PlayR x w H gp gd M d (some s) (.returned (.bool true)) w4))) := by
    intro w1 A N c l hN' ho hb hl
    obtain ⟨A0, c0, e0, q1, q2⟩ := own_shape ho
    injection e0 with e1 _ e2
    subst e1 e2
    have hP1 := hP0.below hb
    have hap : ∀ ad, A = some ad → w.heap.size < ad.block ∧ ad.block < w1.heap.size := fun ad e => by
      subst e
      rcases ho.2 with ⟨h0, _⟩ | ⟨g, cap, cur, h0, _⟩
      · cases h0
      · injection h0 with e1
        injection e1 with e1
        subst e1
        have := ho.lt g rfl
        simp only
        omega
    have hob : ∀ k, Value.ownBlock (.slice A N c) = some k → w.heap.size < k ∧ k < w1.heap.size := fun k e => by
      have := ho.lt k e
      omega
    have hmx : maxLen = 9223372036854775807 := rfl
    refine ⟨hP1.blk.cell 1, hP1.append A N c l (by omega) h6 q1 (by omega) (Rd.of_own ho), fun w2 H2 hm2 h2 => ?_⟩
    have hH2 : ∀ k, w.heap.size < k → k < w1.heap.size → ¬ H2 k := fun k k1 k2 hf => by
      rcases hm2.new k hf with h | h
      · have := hHlt k h; omega
      · omega
    have hHn : ∀ k, w.heap.size < k → ¬ H k := fun k k1 hf => by have := hHlt k hf; omega
    have ho2 := own_kp ho hm2.kp (fun k e => hHn k (hob k e).1)
    refine ⟨h2.blk.cell 3, h2.rappend A N c l (by omega) h6 (by omega) ((Rd.of_own ho2).more (Nat.le_refl _)) (fun ad e => hH2 _ (hap ad e).1 (hap ad e).2), fun w3 H3 hm3 h3 => ?_⟩
    have ho3 := own_kp ho2 hm3.kp (fun k e => hH2 k (hob k e).1 (hob k e).2)
    refine (spoil_row A N c _ l w3 (by omega) ho3).mono ?_
    rintro e w4 ⟨rfl, hk4⟩
    have hH3 : ∀ k, H3 k → ¬ (Value.ownBlock (.slice A N c) = some k) := fun k hf e => by
      have := hob k e
      rcases hm3.new k hf with h | h
      · exact hH2 k this.1 this.2 h
      · have := hm2.kp.size; omega
    refine ⟨rfl, playR_end (h3.kp hk4 hH3) ?_ (append_len s d l) (append_waits s d l hlen.2) h6 (by omega)⟩
    have hm0 : Mv H H3 w w3 := ((Mv.of (Kp.of_below hba)).trans (Mv.of (Kp.of_below hb))).trans (hm2.trans hm3)
    refine ⟨?_, hm0.new⟩
    have hk5 : Kp (fun k => H k ∨ w.heap.size ≤ k) w w4 := (hm0.kp.mono fun k e => .inl e).trans (hk4.mono fun k e => .inr (by have := hob k e; omega))
    exact Kp.fresh hk5 (Nat.le_refl _)
  have q4 : (x.kind == 4) = false := by simp; omega
  have q5 : (x.kind == 5) = false := by simp; omega
  clear hba hN hHlt hP0 hx h2 h hsz
  generalize bodyLen x.n = N at *
  unfold Ac4.v
  unfold atAct at *
  rcases hk with hk | hk
  all_goals
    clear q4 q5
    rw [hk] at c1 c3 b0 b1 b2 HC1 HS1 ⊢
    go_enter Try.func12, Try.ntmps12
    go_wp2_with fail
    refine HC1.out.mono ?_
    rintro e w1 ⟨A, c, l, rfl, hl, ho, hb⟩
    all_goals
      obtain ⟨k1, hc1, hn1⟩ := HS1.out w1 A N c l hN30 ho hb hl
      have HC2 := Lib.hid hc1
      have Hn1 := Lib.hid hn1
      clear hc1 hn1 HS1 HC1 ho hb hl
      obtain ⟨⟨r, s2, d2⟩, hr⟩ : ∃ p, s.append d l = p := ⟨_, rfl⟩
      rw [hr] at HC2 Hn1
      go_wp2_with fail
      refine HC2.out.mono ?_
      rintro e w2 ⟨rfl, H2, h2, hm2⟩
      obtain ⟨k3, hc2, hn2⟩ := Hn1.out w2 H2 hm2 h2
      have HC3 := Lib.hid hc2
      have Hn2 := Lib.hid hn2
      clear hc2 hn2 Hn1 HC2 h2 hm2
      go_wp2_with fail
      refine HC3.out.mono ?_
      rintro e w3 ⟨rfl, H3, h3, hm3⟩
      have HC4 := Lib.hid (Hn2.out w3 H3 hm3 h3)
      clear Hn2 h3 hm3 HC3
      go_wp2_with fail
      refine HC4.out.mono ?_
      rintro e w4 ⟨rfl, hR⟩
      have HR := Lib.hid hR
      clear hR HC4
      go_wp2
      go_ret
      simpa using HR.out
end
end Go.Proofs.Ytpfccbojllabjaa

/- Layer 4's laws: an act is played on both: a sync, a new log, nothing; any act. -/
namespace Go.Proofs.Ytpfccbojllabjaa
open Go.RowKit

section
variable {gp gd M : Nat} {d : Dk} {s : Lg} {H : Nat → Prop} {w : World} {B : Nat}
set_option maxRecDepth 100000 in
set_option maxHeartbeats 4000000 in
theorem play_sync (x : Ac4) (hk : x.kind = 2) (hwl : d.waits.length ≤ 700000000) (h6 : 6 ≤ d.safe.length) (h : Pq w H gp gd M d (some s)) :
    Calls Try.prog 12 #[.pointer (some ⟨gp, 0, none⟩), x.v] w (PlayR x w H gp gd M d (some s)) := by
  obtain ⟨gw, gr, h2⟩ := h.two
  have hba := atAct_below x w
  have hN := atAct_bk x w
  have hP0 := h2.below hba
  have c1 := hP0.blk.cell 1
  have c3 := hP0.blk.cell 3
  have b0 := hN.cell 0
  simp only [List.getElem?_toArray, List.getElem?_cons_zero, List.getElem?_cons_succ] at b0 c1 c3
  have HC1 := Lib.hid (hP0.sync (by omega))
  have HS1 : Hid (∀ w2 H2, Mv H H2 (atAct x w) w2 → P2 w2 H2 gp gd M gw gr (s.sync d).2.2 (s.sync d).2.1 d s →
      w2.cell? ⟨gp, 3, none⟩ = some (.pointer (some ⟨gr, 0, none⟩)) ∧ Calls Try.prog 22 #[.pointer (some ⟨gr, 0, none⟩)] w2 (SR w2 H2 gp gd M gw gr (s.sync d).2.2 (s.sync d).2.1 (s.sync d)) ∧
      ∀ w3 H3, Mv H2 H3 w2 w3 → P2 w3 H3 gp gd M gw gr (s.sync d).2.2 (s.sync d).2.1 (s.sync d).2.2 (s.sync d).2.1 → PlayR x w H gp gd M d (some s) (.returned (.bool true)) w3) := fun w2 H2 hm2 h2 =>
    ⟨h2.blk.cell 3, h2.rsync (by omega), fun w3 H3 hm3 h3 => playR_end h3 (((Mv.of (Kp.of_below hba)).trans hm2).trans hm3) (syncL_len s d) (by have := syncL_waits s d; omega) h6 (by omega)⟩
  clear hba hN hP0 h2 h
  unfold Ac4.v
  unfold atAct at *
  rw [hk] at c1 c3 b0 HC1 HS1 ⊢
  obtain ⟨⟨r, s2, d2⟩, hr⟩ : ∃ p, s.sync d = p := ⟨_, rfl⟩
  rw [hr] at HC1 HS1
  go_enter Try.func12, Try.ntmps12
  go_wp2_with fail
  refine HC1.out.mono ?_
  rintro e w2 ⟨rfl, H2, h2, hm2⟩
  obtain ⟨k3, hc2, hn2⟩ := HS1.out w2 H2 hm2 h2
  have HC3 := Lib.hid hc2
  have Hn2 := Lib.hid hn2
  clear hc2 hn2 HC1 HS1 h2 hm2
  go_wp2_with fail
  refine HC3.out.mono ?_
  rintro e w3 ⟨rfl, H3, h3, hm3⟩
  have HR := Lib.hid (Hn2.out w3 H3 hm3 h3)
  clear Hn2 h3 hm3 HC3
  go_wp2
  go_ret
  simpa using HR.out

set_option maxRecDepth 100000 in
set_option maxHeartbeats 4000000 in
theorem play_reset (x : Ac4) (hk : x.kind = 3) (hwl : d.waits.length ≤ 700000000) (h6 : 6 ≤ d.safe.length) (hx : x.Ok w B) (hB : B ≤ w.heap.size) (hBH : ∀ k, H k → B ≤ k) (h : Pq w H gp gd M d (some s)) :
    Calls Try.prog 12 #[.pointer (some ⟨gp, 0, none⟩), x.v] w (PlayR x w H gp gd M d (some s)) := by
  have hlen := h.disks.len
  obtain ⟨gw, gr, h2⟩ := h.two
  have hba := atAct_below x w
  have hN := atAct_bk x w
  have hsz := atAct_size x w
  have hna : ¬ H w.heap.size := fun e => by have := h.lt _ e; omega
  have hP0 := h2.below hba
  have c1 := hP0.blk.cell 1
  have c3 := hP0.blk.cell 3
  have b0 := hN.cell 0
  have b3 := hN.cell 3
  simp only [List.getElem?_toArray, List.getElem?_cons_zero, List.getElem?_cons_succ] at b0 b3 c1 c3
  have hcap := hx.lcap
  have hPt : ∀ W, Below B w W → Parts W W.heap.size x.la x.ln x.list := fun W hb => (hx.list.below hb).more (Nat.le_trans hB hb.size)
  have HC1 : Hid (∀ W, Below (atAct x w).heap.size (atAct x w) W → Calls Try.prog 27 #[.pointer (some ⟨gw, 0, none⟩), .slice x.la x.ln x.lc] W (SP W H gp gd M gw gr (s.reset d x.list) d s)) := fun W hW =>
    (hP0.below hW).reset x.la x.ln x.lc x.list (by omega) h6 (by omega) (hPt W ((hba.mono hB).trans (hW.mono (by omega))))
  have HS1 : Hid (∀ W w2 H2, Below (atAct x w).heap.size (atAct x w) W → Mv H H2 W w2 → P2 w2 H2 gp gd M gw gr (s.reset d x.list).2.2 (s.reset d x.list).2.1 d s →
      w2.cell? ⟨gp, 3, none⟩ = some (.pointer (some ⟨gr, 0, none⟩)) ∧ w2.cell? ⟨w.heap.size, 3, none⟩ = some (.slice x.la x.ln x.lc) ∧ (∀ W2, Below w2.heap.size w2 W2 → Calls Try.prog 28 #[.pointer (some ⟨gr, 0, none⟩), .slice x.la x.ln x.lc] W2 (SR W2 H2 gp gd M gw gr (s.reset d x.list).2.2 (s.reset d x.list).2.1 (s.reset d x.list)) ∧
      ∀ w3 H3, Mv H2 H3 W2 w3 → P2 w3 H3 gp gd M gw gr (s.reset d x.list).2.2 (s.reset d x.list).2.1 (s.reset d x.list).2.2 (s.reset d x.list).2.1 → PlayR x w H gp gd M d (some s) (.returned (.bool true)) w3)) := fun W w2 H2 hW hm2 h2 => by
    have hmW : Mv H H2 (atAct x w) w2 := (Mv.of (Kp.of_below hW)).trans hm2
    have hH2 : ∀ k, H2 k → B ≤ k := hmW.ge (by omega) hBH
    refine ⟨h2.blk.cell 3, (hN.kp hmW.kp hna).cell 3, fun W2 hW2 => ⟨(h2.below hW2).rreset x.la x.ln x.lc x.list (by omega) h6 (by omega) (fun w' hk' => ?_), fun w3 H3 hm3 h3 => ?_⟩⟩
    · have hb2 : Below B w w2 := (hba.mono hB).trans (hmW.kp.below hBH (by omega))
      exact hPt w' ((hb2.trans (hW2.mono (by have := hb2.size; omega))).trans (hk'.below hH2 (by have := hb2.size; have := hW2.size; omega)))
    · exact playR_end h3 ((((Mv.of (Kp.of_below hba)).trans hmW).trans (Mv.of (Kp.of_below hW2))).trans hm3) (reset_len s d x.list) (by have := reset_waits s d x.list hlen.2; omega) h6 (by omega)
  clear hba hN hP0 h2 h hsz hna hx hPt hBH
  unfold Ac4.v
  unfold atAct at *
  rw [hk] at c1 c3 b0 b3 HC1 HS1 ⊢
  obtain ⟨⟨r, s2, d2⟩, hr⟩ : ∃ p, s.reset d x.list = p := ⟨_, rfl⟩
  rw [hr] at HC1 HS1
  go_enter Try.func12, Try.ntmps12
  go_wp2
  go_region_law (go_simp; go_at_call 27; refine (HC1.out _ (Below.refl _ _).drew).mono ?_; rintro e w2 ⟨rfl, H2, h2, hm2⟩)
  all_goals
    obtain ⟨k3, k4, hc2⟩ := HS1.out _ w2 H2 (Below.refl _ _).drew hm2 h2
    have HC3 := Lib.hid hc2
    clear hc2 HC1 HS1 h2 hm2
    go_wp2
    go_region_law (go_simp; go_at_call 28; refine (HC3.out _ (Below.refl _ _).drew).1.mono ?_; rintro e w3 ⟨rfl, H3, h3, hm3⟩)
  all_goals
    have HR := Lib.hid ((HC3.out _ (Below.refl _ _).drew).2 w3 H3 hm3 h3)
    clear h3 hm3 HC3
    go_wp2
    go_ret
    simpa using HR.out

set_option maxRecDepth 100000 in
set_option maxHeartbeats 4000000 in
theorem play_else (x : Ac4) (hk : x.kind < 0 ∨ 5 < x.kind) (h6 : 6 ≤ d.safe.length) (h : Pq w H gp gd M d (some s)) :
    Calls Try.prog 12 #[.pointer (some ⟨gp, 0, none⟩), x.v] w (PlayR x w H gp gd M d (some s)) := by
  obtain ⟨gw, gr, h2⟩ := h.two
  have hba := atAct_below x w
  have hN := atAct_bk x w
  have hP0 := h2.below hba
  have c1 := hP0.blk.cell 1
  have c3 := hP0.blk.cell 3
  have b0 := hN.cell 0
  simp only [List.getElem?_toArray, List.getElem?_cons_zero, List.getElem?_cons_succ] at b0 c1 c3
  have HR : Hid (PlayR x w H gp gd M d (some s) (.returned (.bool true)) (atAct x w)) := playR_end hP0 (Mv.of (Kp.of_below hba)) rfl (by omega) h6 (by omega)
  have q0 : (x.kind == 0) = false := by simp; omega
  have q1 : (x.kind == 1) = false := by simp; omega
  have q2 : (x.kind == 2) = false := by simp; omega
  have q3 : (x.kind == 3) = false := by simp; omega
  have q4 : (x.kind == 4) = false := by simp; omega
  have q5 : (x.kind == 5) = false := by simp; omega
  clear hba hN hP0 h2 h hk
  unfold Ac4.v
  unfold atAct at *
  go_enter Try.func12, Try.ntmps12
  go_wp2
  go_ret
  exact HR.out

theorem play_any (x : Ac4) (o : Option Lg) (hwl : d.waits.length ≤ 700000000) (h6 : o ≠ none → 6 ≤ d.safe.length) (hx : x.Ok w B) (hB : B ≤ w.heap.size) (hBH : ∀ k, H k → B ≤ k) (h : Pq w H gp gd M d o) :
    Calls Try.prog 12 #[.pointer (some ⟨gp, 0, none⟩), x.v] w (PlayR x w H gp gd M d o) := by
  by_cases k4 : x.kind = 4
  · exact play_four x o k4 (by omega) hx hB hBH h
  by_cases k5 : x.kind = 5
  · exact play_five x o k5 h6 hx h
  cases o with
  | none => exact play_none x k4 k5 h
  | some s =>
    have h6' := h6 (by simp)
    by_cases k0 : x.kind = 0 ∨ x.kind = 1
    · exact play_append x k0 hwl h6' hx h
    by_cases k2 : x.kind = 2
    · exact play_sync x k2 hwl h6' h
    by_cases k3 : x.kind = 3
    · exact play_reset x k3 hwl h6' hx hB hBH h
    · exact play_else x (by omega) h6' h
end
end Go.Proofs.Ytpfccbojllabjaa

/- Layer 4's laws: what both logs tell. -/
namespace Go.Proofs.Ytpfccbojllabjaa
open Go.RowKit

/-- A row of rows that is told reads. -/
theorem told_parts {w : World} {base n c : Nat} {A : Option Addr} {vals : List Value} {L : List (List UInt8)} (hn : n = L.length) (h : w.ownsRow base 40 1 (.slice A n c) n vals) (hf : Fam w base vals L) : Parts w w.heap.size A n L := by
  refine ⟨hn.symm, fun i hi => ?_⟩
  have hl := hf.len
  have hiv : i < vals.length := by omega
  have ho := hf.each i _ (List.getElem?_eq_getElem hiv)
  have eg : L.getD i [] = L[i] := by simp [List.getD, hi]
  rw [eg] at ho
  rcases h.2 with ⟨h0, hz⟩ | ⟨g, cap, cur, hv, _, hh, _⟩
  · have := h.1; omega
  · have hA : A = some ⟨g, 0, none⟩ := by injection hv
    subst hA
    have hc := h.cells (g := g) rfl i _ (List.getElem?_eq_getElem hiv)
    rw [Addr.add_lit] at hc
    generalize vals[i] = x at *
    obtain ⟨A2, c2, rfl, q1, q2⟩ := own_shape ho
    exact ⟨g, 0, A2, _, c2, rfl, (Array.getElem?_eq_some_iff.1 hh).1, hc, q1, by unfold maxLen at q2; omega, Rd.of_own ho⟩
theorem Parts.keep {w w' : World} {B n : Nat} {A : Option Addr} {ls : List (List UInt8)} (h : Parts w B A n ls) (hb : Below B w w') (hB : B ≤ w'.heap.size) : Parts w' w'.heap.size A n ls := (h.below hb).more hB

section
variable {gp gd M gw gr : Nat} {d dr : Dk} {s sr : Lg} {H : Nat → Prop} {w : World}
theorem P2.records (h : P2 w H gp gd M gw gr d s dr sr) : Calls Try.prog 24 #[.pointer (some ⟨gw, 0, none⟩)] w (ToldL s.tellL w) := by
  obtain ⟨H1, H2, _, h2, _⟩ := h
  exact records_any gw gd d s H1 w h2
theorem P2.safe (h : P2 w H gp gd M gw gr d s dr sr) : Calls Try.prog 26 #[.pointer (some ⟨gw, 0, none⟩)] w fun e w' => e = .returned (.int .i64 (s.tellN : Nat)) ∧ w = w' := by
  obtain ⟨H1, H2, _, h2, _⟩ := h
  exact safe_any gw gd d s H1 w h2
theorem P2.room (h : P2 w H gp gd M gw gr d s dr sr) : Calls Try.prog 33 #[.pointer (some ⟨gw, 0, none⟩)] w fun e w' => e = .returned (.int .i64 (s.tellR d : Nat)) ∧ Below w.heap.size w w' := by
  obtain ⟨H1, H2, _, h2, _⟩ := h
  exact roomW_any gw gd d s H1 w h2
theorem P2.rroom (h : P2 w H gp gd M gw gr d s dr sr) (h6 : 6 ≤ dr.safe.length) : Calls Try.prog 43 #[.pointer (some ⟨gr, 0, none⟩)] w fun e w' => e = .returned (.int .i64 ((dr.bytes - usedF sr.recs : Nat) : Int)) ∧ Below w.heap.size w w' := by
  obtain ⟨H1, H2, _, _, ⟨F, G, v, vals, hp, hw, _⟩, _⟩ := h
  exact rroom_meth gr M dr F G sr.recs v vals w h6 hw.ok.fits hw.ok.small hw.lst hp (hw.blk.cell 0) (hw.blk.cell 2)
theorem P2.rcells (h : P2 w H gp gd M gw gr d s dr sr) : ∃ A c, w.cell? ⟨gr, 2, none⟩ = some (.slice A sr.recs.length c) ∧ sr.recs.length ≤ c ∧ c ≤ maxLen ∧ Parts w w.heap.size A sr.recs.length sr.recs ∧ w.cell? ⟨gr, 3, none⟩ = some (.int .i64 sr.safe) := by
  obtain ⟨H1, H2, _, _, ⟨F, G, v, vals, hp, hw, _⟩, _⟩ := h
  obtain ⟨A, c, rfl, h1, h2, h3⟩ := hw.lst.parts
  exact ⟨A, c, hw.blk.cell 2, h1, h2, h3, hw.blk.cell 3⟩
theorem P2.ok (h : P2 w H gp gd M gw gr d s dr sr) : s.Ok d.bytes ∧ sr.Ok dr.bytes := by
  obtain ⟨H1, H2, _, ⟨F1, G1, _, q, _⟩, ⟨F, G, v, vals, hp, hw, _⟩, _⟩ := h
  exact ⟨q.ok, hw.ok⟩
theorem P2.gone (h : P2 w H gp gd M gw gr d s dr sr) : Calls Try.prog 42 #[.pointer (some ⟨gr, 0, none⟩)] w fun e w' => e = .returned (.bool sr.gone) ∧ P2 w' H gp gd M gw gr d s dr sr ∧ Kp H w w' := by
  obtain ⟨H1, H2, h1, h2, ⟨F, G, v, vals, hp, hw, hFG, hF, hG, hl, hd⟩, h4, h5, h6, h7, h8, h9, h10⟩ := h
  refine (rgone_meth gr M dr sr v w hd hw.blk hp.downCell).mono ?_
  rintro e w' ⟨rfl, hb, hk⟩
  have hkG : Kp G w w' := hk.mono fun k e => by rw [e]; exact hw.self
  have hkH : Kp H2 w w' := hkG.mono hG
  refine ⟨rfl, ⟨H1, H2, h1.kp hkH h6, h2.kp hkH h4, ⟨F, G, v, vals, hp.kp hkG hFG, hw.turn hk hb rfl hw.ok, hFG, hF, hG, fun k e => Nat.lt_of_lt_of_le (hl k e) hk.size, hd⟩, h4, h5, h6, h7, h8, h9, fun k e => Nat.lt_of_lt_of_le (h10 k e) hk.size⟩, hkH.mono h8⟩
end

def AlikeR (w : World) (H : Nat → Prop) (gp gd M : Nat) (d : Dk) (o : Option Lg) (e : Ending) (w' : World) : Prop := e = .returned (.bool true) ∧ Pq w' H gp gd M d o ∧ Kp H w w'
section
variable {gp gd M gw gr : Nat} {d : Dk} {s : Lg} {H : Nat → Prop} {w : World}
set_option maxRecDepth 100000 in
theorem alike_none (h : Pq w H gp gd M d none) : Calls Try.prog 13 #[.pointer (some ⟨gp, 0, none⟩)] w (AlikeR w H gp gd M d none) := by
  have HE : Hid (AlikeR w H gp gd M d none (.returned (.bool true)) w) := ⟨rfl, h, Kp.refl _ _⟩
  obtain ⟨H1, H2, pw, pr, hb, ⟨rfl, _⟩, ⟨rfl, _⟩, _⟩ := h
  have c1 := hb.cell 1
  simp only [List.getElem?_toArray, List.getElem?_cons_zero, List.getElem?_cons_succ] at c1
  clear hb
  go_enter Try.func13, Try.ntmps13
  go_wp2
  go_ret
  exact HE.out
set_option maxRecDepth 100000 in
set_option maxHeartbeats 4000000 in
theorem alike_gone (hg : s.gone = true) (h : Pq w H gp gd M d (some s)) : Calls Try.prog 13 #[.pointer (some ⟨gp, 0, none⟩)] w (AlikeR w H gp gd M d (some s)) := by
  obtain ⟨gw, gr, h2⟩ := h.two
  have c1 := h2.blk.cell 1
  have c3 := h2.blk.cell 3
  simp only [List.getElem?_toArray, List.getElem?_cons_zero, List.getElem?_cons_succ] at c1 c3
  have hC1 := h2.gone
  rw [hg] at hC1
  have HC1 := Lib.hid hC1
  have hL : s.tellL = [] := by unfold Lg.tellL; rw [hg]; rfl
  have hNN : s.tellN = 0 := by unfold Lg.tellN; rw [hg]; rfl
  have hRR : s.tellR d = 0 := by unfold Lg.tellR; rw [hg]; rfl
  have HA : Hid (∀ w1, P2 w1 H gp gd M gw gr d s d s → w1.cell? ⟨gp, 1, none⟩ = some (.pointer (some ⟨gw, 0, none⟩)) ∧ (Calls Try.prog 24 #[.pointer (some ⟨gw, 0, none⟩)] w1 fun e w' => (∃ A c, e = .returned (.slice A 0 c)) ∧ Below w1.heap.size w1 w') ∧
      (Calls Try.prog 26 #[.pointer (some ⟨gw, 0, none⟩)] w1 fun e w' => e = .returned (.int .i64 0) ∧ w1 = w') ∧ (Calls Try.prog 33 #[.pointer (some ⟨gw, 0, none⟩)] w1 fun e w' => e = .returned (.int .i64 0) ∧ Below w1.heap.size w1 w')) := fun w1 q => by
    refine ⟨q.blk.cell 1, ?_, ?_, ?_⟩
    · refine q.records.mono ?_
      rw [hL]
      rintro e w' ⟨A, c, vals, rfl, _, _, hb⟩
      exact ⟨⟨A, c, rfl⟩, hb⟩
    · have := q.safe; rw [hNN] at this; exact this
    · have := q.room; rw [hRR] at this; exact this
  clear h h2 hC1 hL hNN hRR hg
  go_enter Try.func13, Try.ntmps13
  go_wp2_with fail
  refine HC1.out.mono ?_
  rintro e w1 ⟨rfl, hp1, hk1⟩
  obtain ⟨d1, hr1, _, _⟩ := HA.out w1 hp1
  have HR1 := Lib.hid hr1
  have HP1 := Lib.hid hp1
  have HK1 := Lib.hid hk1
  clear hr1 hp1 hk1 HC1
  go_wp2_with fail
  refine HR1.out.mono ?_
  rintro e w2 ⟨⟨A, c, rfl⟩, hb2⟩
  have hp2 := HP1.out.below hb2
  obtain ⟨d2, _, hs2, _⟩ := HA.out w2 hp2
  have HS2 := Lib.hid hs2
  have HP2 := Lib.hid hp2
  have HK2 : Hid (Kp H w w2) := HK1.out.trans (Kp.of_below hb2)
  clear hs2 hp2 hb2 HR1 HP1 HK1
  go_wp2_with fail
  refine HS2.out.mono ?_
  rintro e w3 ⟨rfl, rfl⟩
  obtain ⟨_, _, _, hq⟩ := HA.out w2 HP2.out
  have HQ := Lib.hid hq
  clear hq HS2
  go_wp2_with fail
  refine HQ.out.mono ?_
  rintro e w3 ⟨rfl, hb3⟩
  have HF : Hid (AlikeR w H gp gd M d (some s) (.returned (.bool true)) w3) := ⟨rfl, (HP2.out.below hb3).pair, HK2.out.trans (Kp.of_below hb3)⟩
  clear hb3 HQ HP2 HK2
  go_wp2
  go_ret
  exact HF.out
end
end Go.Proofs.Ytpfccbojllabjaa

/- Layer 4's laws: what both logs tell, of logs that live. -/
namespace Go.Proofs.Ytpfccbojllabjaa
open Go.RowKit

section
variable {gp gd M gw gr : Nat} {d : Dk} {s : Lg} {H : Nat → Prop} {w : World}
set_option maxRecDepth 100000 in
set_option maxHeartbeats 4000000 in
theorem alike_live (hg : s.gone = false) (h6 : 6 ≤ d.safe.length) (h : Pq w H gp gd M d (some s)) : Calls Try.prog 13 #[.pointer (some ⟨gp, 0, none⟩)] w (AlikeR w H gp gd M d (some s)) := by
  have hlen := h.disks.len
  obtain ⟨gw, gr, h2⟩ := h.two
  have c1 := h2.blk.cell 1
  have c3 := h2.blk.cell 3
  simp only [List.getElem?_toArray, List.getElem?_cons_zero, List.getElem?_cons_succ] at c1 c3
  have hC1 := h2.gone
  rw [hg] at hC1
  have HC1 := Lib.hid hC1
  have hL : s.tellL = s.recs := by unfold Lg.tellL; rw [hg]; rfl
  have hNN : s.tellN = s.safe := by unfold Lg.tellN; rw [hg]; rfl
  have hRR : s.tellR d = d.bytes - usedF s.recs := by unfold Lg.tellR; rw [hg]; rfl
  have hok := h2.ok.1
  have hbs : d.bytes ≤ 40000 := by unfold Dk.bytes Dk.half halfN; omega
  have hcnt := usedF_count s.recs
  have hfit := hok.fits
  have hsafe := hok.safe
  have HA : Hid (∀ w1, P2 w1 H gp gd M gw gr d s d s → w1.cell? ⟨gp, 1, none⟩ = some (.pointer (some ⟨gw, 0, none⟩)) ∧ w1.cell? ⟨gp, 3, none⟩ = some (.pointer (some ⟨gr, 0, none⟩)) ∧ w1.cell? ⟨gr, 3, none⟩ = some (.int .i64 s.safe) ∧ (∃ A c, w1.cell? ⟨gr, 2, none⟩ = some (.slice A s.recs.length c) ∧ Parts w1 w1.heap.size A s.recs.length s.recs) ∧ Calls Try.prog 24 #[.pointer (some ⟨gw, 0, none⟩)] w1 (ToldL s.recs w1) ∧
      (Calls Try.prog 26 #[.pointer (some ⟨gw, 0, none⟩)] w1 fun e w' => e = .returned (.int .i64 (s.safe : Nat)) ∧ w1 = w') ∧ (Calls Try.prog 33 #[.pointer (some ⟨gw, 0, none⟩)] w1 fun e w' => e = .returned (.int .i64 ((d.bytes - usedF s.recs : Nat) : Int)) ∧ Below w1.heap.size w1 w') ∧
      (Calls Try.prog 43 #[.pointer (some ⟨gr, 0, none⟩)] w1 fun e w' => e = .returned (.int .i64 ((d.bytes - usedF s.recs : Nat) : Int)) ∧ Below w1.heap.size w1 w')) := fun w1 q => by
    obtain ⟨A, c, q1, q2, q3, q4, q5⟩ := q.rcells
    refine ⟨q.blk.cell 1, q.blk.cell 3, q5, ⟨A, c, q1, q4⟩, ?_, ?_, ?_, q.rroom h6⟩
    · have := q.records; rw [hL] at this; exact this
    · have := q.safe; rw [hNN] at this; exact this
    · have := q.room; rw [hRR] at this; exact this
  clear h h2 hC1 hL hNN hRR hg hok
  have hll : s.recs.length ≤ 4000 := by omega
  generalize hrm : d.bytes - usedF s.recs = rm at *
  have hrm4 : rm ≤ 40000 := by omega
  clear hrm hcnt hfit
  generalize hLs : s.recs = L at *
  generalize hSf : s.safe = sf at *
  go_enter Try.func13, Try.ntmps13
  go_wp2_with fail
  refine HC1.out.mono ?_
  rintro e w1 ⟨rfl, hp1, hk1⟩
  obtain ⟨d1, d3, d5, ⟨A, c, d2, hpA⟩, _⟩ := HA.out w1 hp1
  have HP1 := Lib.hid hp1
  have HK1 := Lib.hid hk1
  have HPA := Lib.hid hpA
  clear hp1 hk1 HC1 hpA c1 c3
  have HREC : Hid (∀ W, Below w1.heap.size w1 W → Calls Try.prog 24 #[.pointer (some ⟨gw, 0, none⟩)] W (ToldL L W)) := fun W hb => (HA.out W (HP1.out.below hb)).2.2.2.2.1
  have HSF : Hid (∀ W, Below w1.heap.size w1 W → Calls Try.prog 26 #[.pointer (some ⟨gw, 0, none⟩)] W fun e w' => e = .returned (.int .i64 (sf : Nat)) ∧ W = w') := fun W hb => (HA.out W (HP1.out.below hb)).2.2.2.2.2.1
  have HRM : Hid (∀ W, Below w1.heap.size w1 W → Calls Try.prog 33 #[.pointer (some ⟨gw, 0, none⟩)] W fun e w' => e = .returned (.int .i64 (rm : Nat)) ∧ Below W.heap.size W w') := fun W hb => (HA.out W (HP1.out.below hb)).2.2.2.2.2.2.1
  have HRR : Hid (∀ W, Below w1.heap.size w1 W → Calls Try.prog 43 #[.pointer (some ⟨gr, 0, none⟩)] W fun e w' => e = .returned (.int .i64 (rm : Nat)) ∧ Below W.heap.size W w') := fun W hb => (HA.out W (HP1.out.below hb)).2.2.2.2.2.2.2
  have HSL : Hid (∀ W w2 A' c' vals, Below w1.heap.size w1 W → w2.ownsRow W.heap.size 40 1 (.slice A' L.length c') L.length vals → Fam w2 W.heap.size vals L → Below W.heap.size W w2 → Calls Try.prog 31 #[.slice A' L.length c', .slice A L.length c] w2 fun e w' => e = .returned (.bool true) ∧ ∃ q, w2.drewN q = w') := fun W w2 A' c' vals hW ho hf hb => by
    have := sameLists_any A' A L.length c' L.length c _ _ L L w2 (by omega) (by omega) (told_parts rfl ho hf) (HPA.out.below (below_then hW hb))
    simpa using this
  have HK : Hid (∀ W, Below w1.heap.size w1 W → W.cell? ⟨gp, 1, none⟩ = some (.pointer (some ⟨gw, 0, none⟩)) ∧ W.cell? ⟨gp, 3, none⟩ = some (.pointer (some ⟨gr, 0, none⟩)) ∧ W.cell? ⟨gr, 2, none⟩ = some (.slice A L.length c) ∧ W.cell? ⟨gr, 3, none⟩ = some (.int .i64 sf) ∧ Below w1.heap.size w1 W) := fun W hb => by
    have hp2 := HP1.out.below hb
    exact ⟨(HA.out W hp2).1, (HA.out W hp2).2.1, (hb.cell (World.block_lt_of_cell? _ _ d2)).trans d2, (HA.out W hp2).2.2.1, hb⟩
  have HFin : Hid (∀ W, Below w1.heap.size w1 W → AlikeR w H gp gd M d (some s) (.returned (.bool true)) W) := fun W hb => ⟨rfl, (HP1.out.below hb).pair, HK1.out.trans (Kp.of_below hb)⟩
  obtain ⟨ll, hllen⟩ : ∃ ll, L.length = ll := ⟨_, rfl⟩
  rw [hllen] at d2 HSL HK
  have Hll : Hid (∀ W, ToldL L W = fun e w' => ∃ A c vals, e = .returned (.slice A ll c) ∧ w'.ownsRow W.heap.size 40 1 (.slice A ll c) ll vals ∧ Fam w' W.heap.size vals L ∧ Below W.heap.size W w') := fun W => by
    show _ = _
    unfold ToldL
    rw [hllen]
  simp only [Hll.out] at HREC
  go_wp2
  go_region_held3 (fun w' => w'.cell? ⟨gp, 1, none⟩ = some (.pointer (some ⟨gw, 0, none⟩)) ∧ w'.cell? ⟨gp, 3, none⟩ = some (.pointer (some ⟨gr, 0, none⟩)) ∧ w'.cell? ⟨gr, 2, none⟩ = some (.slice A ll c) ∧ w'.cell? ⟨gr, 3, none⟩ = some (.int .i64 sf) ∧ Below w1.heap.size w1 w') (first | (refine HK.out _ ?_; first | assumption | exact (Below.refl _ _).drew | exact Below.refl _ _) | go_keep)
    (first
      | (go_at_call 24; refine (HREC.out _ (by first | assumption | exact (Below.refl _ _).drew)).mono ?_; rintro e w2 ⟨A', c', vals, rfl, ho, hf, hb⟩; (have HT := Lib.hid (HSL.out _ w2 A' c' vals (by first | assumption | exact (Below.refl _ _).drew) ho hf hb)); (have hB2 : Below w1.heap.size w1 w2 := below_then (by first | assumption | exact (Below.refl _ _).drew) hb); clear ho hf hb)
      | (go_at_call 31; refine HT.out.mono ?_; rintro e w3 ⟨rfl, q, rfl⟩; (have hB3 : Below w1.heap.size w1 (w2.drewN q) := bel_drewN hB2 q))
      | (go_at_call 26; refine (HSF.out _ (by first | assumption | exact (Below.refl _ _).drew)).mono ?_; rintro e w3 ⟨rfl, rfl⟩)
      | (go_at_call 33; refine (HRM.out _ (by first | assumption | exact (Below.refl _ _).drew)).mono ?_; rintro e w4 ⟨rfl, hb4⟩; (have hB4 : Below w1.heap.size w1 w4 := below_then (by first | assumption | exact (Below.refl _ _).drew) hb4); clear hb4)
      | (go_at_call 43; refine (HRR.out _ (by first | assumption | exact (Below.refl _ _).drew)).mono ?_; rintro e w5 ⟨rfl, hb5⟩; (have hB5 : Below w1.heap.size w1 w5 := below_then (by first | assumption | exact (Below.refl _ _).drew) hb5); clear hb5))
  have HF := Lib.hid (HFin.out w5 hB5)
  clear hB5 hB4 hB3 hB2 HT HFin HK HSL HRR HRM HSF HREC
  go_wp2
  go_ret
  exact HF.out
theorem alike_any (o : Option Lg) (h6 : o ≠ none → 6 ≤ d.safe.length) (h : Pq w H gp gd M d o) : Calls Try.prog 13 #[.pointer (some ⟨gp, 0, none⟩)] w (AlikeR w H gp gd M d o) := by
  cases o with
  | none => exact alike_none h
  | some s =>
    cases hg : s.gone with
    | true => exact alike_gone hg h
    | false => exact alike_live hg (h6 (by simp)) h
end
end Go.Proofs.Ytpfccbojllabjaa

/- Plain: a log on a disk whose power does not go: each call keeps it lying as it should. -/
namespace Go.Proofs.Ytpfccbojllabjaa

theorem headE_headB {e : Nat} (h : e < 4611686018427387904) : headE (headB e) (e % 2) = e := by
  have hl := Lib.uvarint_length64 (show e < 18446744073709551616 by omega)
  have hg := getF_put (1, Lib.uvarint e) (zeros (32 - (putF (1, Lib.uvarint e)).length)) (by simp only; omega)
  have hu := uu_back 0 e [] (by omega) (by omega) (by omega)
  rw [List.append_nil] at hu
  unfold headB
  rw [headE_ok hg hu, if_pos ⟨rfl, h, rfl⟩]
theorem headE_zeros (n i : Nat) : headE (zeros n) i = 0 := by
  obtain ⟨e, h⟩ := getF_zeros n
  exact headE_err h
theorem chunk_zeros {N j : Nat} (hj : j * 32 + 32 ≤ N) : chunk (zeros N) j = zeros 32 := by
  unfold chunk zeros
  rw [List.drop_replicate, List.take_replicate]
  congr 1
  omega
theorem fullF_nil (N : Nat) : fullF N [] = zeros N := by simp [fullF, framesF, usedF]
/-- A new disk has an empty log. -/
theorem fresh_on (n : Nat) (h : 6 ≤ n) : OnDisk (Dk.new n) { epoch := 0, recs := [], safe := 0, gone := false } := by
  have hs : ∀ j, j < n → (Dk.new n).sec j = zeros 32 := fun j hj => by
    rw [sec_calm rfl]
    simp [Dk.new, List.getD, hj, zeros]
  have hln : (Dk.new n).safe.length = n := by simp [Dk.new]
  have h6 : 6 ≤ (Dk.new n).safe.length := by omega
  obtain ⟨b1, b2, b3⟩ := Dk.base_le h6 0
  have hbe : (Dk.new n).bytes = (Dk.new n).half * 32 := rfl
  refine ⟨Dk.new_ok n, h6, ⟨by simp, by simp [usedF, framesF], by simp, by simp⟩, ?_, ?_⟩
  · unfold Dk.newest
    rw [hs 0 (by omega), hs 1 (by omega), headE_zeros, headE_zeros]
    rfl
  · show (Dk.new n).area 0 = fullF (Dk.new n).bytes []
    rw [fullF_nil]
    refine area_eq (zeros_len _) (fun j hj => ?_)
    rw [hs _ (by omega), chunk_zeros (by omega)]
theorem chunk_push {N : Nat} {rs : List (List UInt8)} {b : List UInt8} (hN : usedF (rs ++ [b]) ≤ N) {j : Nat} (h : j < usedF rs / 32 ∨ usedF (rs ++ [b]) ≤ j * 32) : chunk (fullF N rs) j = chunk (fullF N (rs ++ [b])) j := by
  have hu : usedF (rs ++ [b]) = usedF rs + (10 + b.length) := by rw [usedF_app, usedF_one]
  rcases h with h | h
  · refine chunk_same (en := usedF rs) ?_ h
    rw [full_take]
    unfold fullF
    rw [framesF_app, List.append_assoc]
    exact (List.take_left' (show (framesF rs).length = usedF rs from rfl)).symm
  · apply List.ext_getElem?
    intro t
    rw [chunk_get, chunk_get]
    by_cases ht : t < 32
    · rw [if_pos ht, if_pos ht]
      unfold fullF
      have e1 : (framesF rs).length = usedF rs := rfl
      have e2 : (framesF (rs ++ [b])).length = usedF (rs ++ [b]) := rfl
      rw [List.getElem?_append_right (by omega), List.getElem?_append_right (by omega), e1, e2]
      unfold zeros
      by_cases hi : j * 32 + t < N
      · rw [List.getElem?_replicate_of_lt (by omega), List.getElem?_replicate_of_lt (by omega)]
      · rw [List.getElem?_eq_none (by rw [List.length_replicate]; omega), List.getElem?_eq_none (by rw [List.length_replicate]; omega)]
    · rw [if_neg ht, if_neg ht]

theorem OnDisk.same {d d' : Dk} {s s' : Lg} (h : OnDisk d s) (hok : d'.Ok) (hl : d'.safe.length = d.safe.length) (hs : ∀ j, j < d.safe.length → d'.sec j = d.sec j) (he : s'.epoch = s.epoch) (hr : s'.recs = s.recs) (hsf : s'.safe ≤ s'.recs.length) : OnDisk d' s' := by
  have h6 := h.six
  have hby : d'.bytes = d.bytes := bytes_of hl
  obtain ⟨b1, b2, b3⟩ := Dk.base_le h6 s.epoch
  refine ⟨hok, by omega, ⟨by rw [hr]; exact h.lg.small, by rw [hr, hby]; exact h.lg.fits, by rw [he]; exact h.lg.epoch, hsf⟩, ?_, ?_⟩
  · rw [newest_same (hs 0 (by omega)) (hs 1 (by omega)), he]; exact h.newest
  · rw [he, hr, hby, ← h.area]
    exact area_same hl (fun j hj => hs _ (by omega))

/-- One record more that has room. -/
theorem append_on {d : Dk} {s : Lg} (h : OnDisk d s) (hf : d.Free) (hg : s.gone = false) {b : List UInt8} (hb : b.length ≤ 1024) (hr : usedF s.recs + (10 + b.length) ≤ d.bytes) :
    ∃ d', s.append d b = (0, { s with recs := s.recs ++ [b] }, d') ∧ OnDisk d' { s with recs := s.recs ++ [b] } ∧ d'.Free ∧ d'.safe = d.safe := by
  obtain ⟨b1, b2, b3⟩ := Dk.base_le h.six s.epoch
  have hu : usedF (s.recs ++ [b]) = usedF s.recs + (10 + b.length) := by rw [usedF_app, usedF_one]
  have hbe : d.bytes = d.half * 32 := rfl
  have hfl : (fullF d.bytes (s.recs ++ [b])).length = d.bytes := full_len _ _ (by omega)
  obtain ⟨q1, q2⟩ := layS_free (fullF d.bytes (s.recs ++ [b])) (d.base s.epoch) ((usedF (s.recs ++ [b]) - 1) / 32 + 1 - usedF s.recs / 32) (usedF s.recs / 32) d hf (by omega)
    (fun j h1 h2 => chunk_len32 hfl (by omega))
  have q3 := layS_sec (fullF d.bytes (s.recs ++ [b])) (d.base s.epoch) ((usedF (s.recs ++ [b]) - 1) / 32 + 1 - usedF s.recs / 32) (usedF s.recs / 32) d q1
  have q4 := layS_ok (fullF d.bytes (s.recs ++ [b])) (d.base s.epoch) ((usedF (s.recs ++ [b]) - 1) / 32 + 1 - usedF s.recs / 32) (usedF s.recs / 32) d h.ok
  have q5 := layS_len (fullF d.bytes (s.recs ++ [b])) (d.base s.epoch) ((usedF (s.recs ++ [b]) - 1) / 32 + 1 - usedF s.recs / 32) (usedF s.recs / 32) d
  have q6 : (layS (fullF d.bytes (s.recs ++ [b])) (d.base s.epoch) (usedF s.recs / 32) ((usedF (s.recs ++ [b]) - 1) / 32 + 1 - usedF s.recs / 32) d).2.safe = d.safe := by
    have : ∀ (k i : Nat) (d : Dk), (layS (fullF d.bytes (s.recs ++ [b])) 0 i k d).2.safe = (layS (fullF d.bytes (s.recs ++ [b])) 0 i k d).2.safe := fun _ _ _ => rfl
    have hsafe : ∀ (c : List UInt8) (bs k i : Nat) (d : Dk), (layS c bs i k d).2.safe = d.safe := by
      intro c bs k
      induction k with
      | zero => intro i d; rfl
      | succ k ih =>
        intro i d
        have hw : (d.write ((bs + i : Nat) : Int) (chunk c i)).2.safe = d.safe := by
          unfold Dk.write
          split
          · rfl
          split
          · rfl
          split
          · exact d.act_same.1
          · exact d.act_same.1
        by_cases h0 : (d.write ((bs + i : Nat) : Int) (chunk c i)).1 = 0
        · rw [layS_next h0, ih, hw]
        · rw [layS_stop h0, hw]
    exact hsafe _ _ _ _ _
  have hla : s.laid d b = layS (fullF d.bytes (s.recs ++ [b])) (d.base s.epoch) (usedF s.recs / 32) ((usedF (s.recs ++ [b]) - 1) / 32 + 1 - usedF s.recs / 32) d := rfl
  rw [← hla] at q1 q2 q3 q4 q5 q6
  have hby : (s.laid d b).2.bytes = d.bytes := bytes_of q5
  have hba : (s.laid d b).2.base s.epoch = d.base s.epoch := by unfold Dk.base; rw [q5]
  have hha : (s.laid d b).2.half = d.half := by unfold Dk.half; rw [q5]
  refine ⟨(s.laid d b).2, ?_, ⟨q4, by have := h.six; omega, ?_, ?_, ?_⟩, q2, q6⟩
  · unfold Lg.append
    rw [if_neg (by simp [hg]), if_neg (by omega), if_neg (by unfold Lg.room; omega), if_pos q1]
  · have := append_ok (b := b) h.lg
    unfold Lg.append at this
    rw [if_neg (by simp [hg]), if_neg (by omega), if_neg (by unfold Lg.room; omega), if_pos q1] at this
    rw [hby]
    exact this
  · rw [newest_same (d := d)]
    · exact h.newest
    · rw [q3, if_neg (by omega)]
    · rw [q3, if_neg (by omega)]
  · show (s.laid d b).2.area s.epoch = fullF (s.laid d b).2.bytes (s.recs ++ [b])
    rw [hby]
    refine area_eq (by rw [hfl, hby]) (fun j hj => ?_)
    rw [hha] at hj
    rw [hba, q3]
    by_cases hc : d.base s.epoch + usedF s.recs / 32 ≤ d.base s.epoch + j ∧ d.base s.epoch + j < d.base s.epoch + usedF s.recs / 32 + ((usedF (s.recs ++ [b]) - 1) / 32 + 1 - usedF s.recs / 32)
    · rw [if_pos hc, show d.base s.epoch + j - d.base s.epoch = j by omega]
    · rw [if_neg hc, ← area_chunk h.ok h.six s.epoch j hj, h.area]
      exact chunk_push (by omega) (by omega)
/-- One that has none. -/
theorem append_full {d : Dk} {s : Lg} (hg : s.gone = false) {b : List UInt8} (hb : b.length ≤ 1024) (hr : d.bytes < usedF s.recs + (10 + b.length)) : s.append d b = (5, s, d) := by
  unfold Lg.append
  rw [if_neg (by simp [hg]), if_neg (by omega), if_pos (by unfold Lg.room; omega)]
theorem sync_on {d : Dk} {s : Lg} (h : OnDisk d s) (hf : d.Free) (hg : s.gone = false) :
    ∃ d', s.sync d = (0, { s with safe := s.recs.length }, d') ∧ OnDisk d' { s with safe := s.recs.length } ∧ d'.Free ∧ d'.waits = [] ∧ d'.safe.length = d.safe.length := by
  have hs := hf.sync
  have h0 : d.sync.1 = 0 := by rw [hs]
  refine ⟨d.sync.2, ?_, h.same (Dk.sync_ok h.ok) (Dk.sync_len d) (fun j hj => sec_sync h.ok h0 j hj) rfl rfl (Nat.le_refl _), by rw [hs]; exact ⟨hf.1, hf.2⟩, (sync_went h0).1, Dk.sync_len d⟩
  unfold Lg.sync
  rw [if_neg (by simp [hg]), if_pos h0]
theorem crash_on {d : Dk} {s : Lg} (h : OnDisk d s) (hw : d.waits = []) (ks : List Int) : OnDisk (d.crash ks) s :=
  h.same (Dk.crash_ok h.ok ks) (Dk.crash_len d ks) (fun j _ => sec_crash_calm hw ks j) rfl rfl h.lg.safe
/-- A new log that went well. -/
theorem settle_on {d : Dk} (hok : d.Ok) (h6 : 6 ≤ d.safe.length) {e : Nat} {l : List (List UInt8)} (hn : d.newest < e) (he : e < 4611686018427387904) (hsm : ∀ r ∈ l, r.length ≤ 1024) (hfit : usedF l ≤ d.bytes) (h0 : (settleS d e l).1 = 0) :
    OnDisk (settleS d e l).2 { epoch := e, recs := l, safe := l.length, gone := false } ∧ (settleS d e l).2.waits = [] := by
  obtain ⟨b1, b2, b3⟩ := Dk.base_le h6 e
  have hbe : d.bytes = d.half * 32 := rfl
  have hfl : (fullF d.bytes l).length = d.bytes := full_len _ _ hfit
  unfold settleS at h0 ⊢
  by_cases h1 : (layS (fullF d.bytes l) (d.base e) 0 d.half d).1 ≠ 0
  · rw [if_pos h1] at h0; exact absurd h0 h1
  rw [if_neg h1] at h0 ⊢
  have s1 := layS_sec (fullF d.bytes l) (d.base e) d.half 0 d (Classical.byContradiction h1)
  have o1 := layS_ok (fullF d.bytes l) (d.base e) d.half 0 d hok
  have l1 := layS_len (fullF d.bytes l) (d.base e) d.half 0 d
  generalize (layS (fullF d.bytes l) (d.base e) 0 d.half d).2 = d1 at *
  by_cases h2 : d1.sync.1 ≠ 0
  · rw [if_pos h2] at h0; exact absurd h0 h2
  rw [if_neg h2] at h0 ⊢
  have h2' : d1.sync.1 = 0 := Classical.byContradiction h2
  have s2 := fun j (hj : j < d.safe.length) => sec_sync o1 h2' j (by omega)
  have o2 := Dk.sync_ok o1
  have l2 := Dk.sync_len d1
  generalize d1.sync.2 = d2 at *
  by_cases h3 : (d2.write ((e % 2 : Nat) : Int) (headB e)).1 ≠ 0
  · rw [if_pos h3] at h0; exact absurd h0 h3
  rw [if_neg h3] at h0 ⊢
  have h3' : (d2.write ((e % 2 : Nat) : Int) (headB e)).1 = 0 := Classical.byContradiction h3
  have s3 := fun j => sec_write h3' j
  have o3 := Dk.write_ok o2 ((e % 2 : Nat) : Int) (headB e)
  have l3 := Dk.write_len d2 ((e % 2 : Nat) : Int) (headB e)
  generalize (d2.write ((e % 2 : Nat) : Int) (headB e)).2 = d3 at *
  have s4 := fun j (hj : j < d.safe.length) => sec_sync o3 h0 j (by omega)
  have o4 := Dk.sync_ok o3
  have l4 := Dk.sync_len d3
  have w4 := (sync_went h0).1
  generalize d3.sync.2 = d4 at *
  have hl4 : d4.safe.length = d.safe.length := by omega
  have hby : d4.bytes = d.bytes := bytes_of hl4
  have hba : d4.base e = d.base e := by unfold Dk.base; rw [hl4]
  have hha : d4.half = d.half := by unfold Dk.half; rw [hl4]
  have e01 : e % 2 = 0 ∨ e % 2 = 1 := by omega
  have hold : ∀ j, j < 2 → j ≠ e % 2 → d4.sec j = d.sec j := fun j hj hne => by
    rw [s4 j (by omega), s3 j, if_neg (fun h => hne h.symm), s2 j (by omega), s1 j, if_neg (by omega)]
  have hnew : d4.sec (e % 2) = headB e := by rw [s4 _ (by omega), s3, if_pos rfl]
  refine ⟨⟨o4, by omega, ⟨hsm, by rw [hby]; exact hfit, he, Nat.le_refl _⟩, ?_, ?_⟩, w4⟩
  · show d4.newest = e
    unfold Dk.newest at hn ⊢
    rcases e01 with h | h
    · have q := hnew; rw [h] at q
      have hh := headE_headB he; rw [h] at hh
      rw [q, hh, hold 1 (by omega) (by omega)]; omega
    · have q := hnew; rw [h] at q
      have hh := headE_headB he; rw [h] at hh
      rw [q, hh, hold 0 (by omega) (by omega)]; omega
  · show d4.area e = fullF d4.bytes l
    rw [hby]
    refine area_eq (by rw [hfl, hby]) (fun j hj => ?_)
    rw [hha] at hj
    rw [hba, s4 _ (by omega), s3, if_neg (by omega), s2 _ (by omega), s1, if_pos (by omega), show d.base e + j - d.base e = j by omega]
theorem settle_free {d : Dk} (h6 : 6 ≤ d.safe.length) (hf : d.Free) {e : Nat} {l : List (List UInt8)} (he : e < 4611686018427387904) (hfit : usedF l ≤ d.bytes) : (settleS d e l).1 = 0 ∧ (settleS d e l).2.Free := by
  obtain ⟨b1, b2, b3⟩ := Dk.base_le h6 e
  have hbe : d.bytes = d.half * 32 := rfl
  have hfl : (fullF d.bytes l).length = d.bytes := full_len _ _ hfit
  obtain ⟨q1, q2⟩ := layS_free (fullF d.bytes l) (d.base e) d.half 0 d hf (by omega) (fun j h1 h2 => chunk_len32 hfl (by omega))
  have l1 := layS_len (fullF d.bytes l) (d.base e) d.half 0 d
  have q3 := q2.sync
  have l2 := Dk.sync_len (layS (fullF d.bytes l) (d.base e) 0 d.half d).2
  have f2 : (layS (fullF d.bytes l) (d.base e) 0 d.half d).2.sync.2.Free := by rw [q3]; exact ⟨q2.1, q2.2⟩
  have h2 : (layS (fullF d.bytes l) (d.base e) 0 d.half d).2.sync.1 = 0 := by rw [q3]
  have hhl : (headB e).length = 32 := by
    have := headB_len e (by omega)
    unfold headB
    rw [List.length_append, zeros_len]
    omega
  have hwr := f2.write (a := e % 2) (s := headB e) (by omega) hhl
  have h3 : ((layS (fullF d.bytes l) (d.base e) 0 d.half d).2.sync.2.write ((e % 2 : Nat) : Int) (headB e)).1 = 0 := by rw [hwr]
  have f3 : ((layS (fullF d.bytes l) (d.base e) 0 d.half d).2.sync.2.write ((e % 2 : Nat) : Int) (headB e)).2.Free := by rw [hwr]; exact ⟨f2.1, f2.2⟩
  have h4 := f3.sync
  unfold settleS
  rw [if_neg (fun h => h q1), if_neg (fun h => h h2), if_neg (fun h => h h3), h4]
  exact ⟨rfl, ⟨f3.1, f3.2⟩⟩
theorem reset_on {d : Dk} {s : Lg} (h : OnDisk d s) (hf : d.Free) (hg : s.gone = false) {l : List (List UInt8)} (hn : nextE d.bytes s.epoch l = 0) :
    ∃ d', s.reset d l = (0, { epoch := s.epoch + 1, recs := l, safe := l.length, gone := false }, d') ∧ OnDisk d' { epoch := s.epoch + 1, recs := l, safe := l.length, gone := false } ∧ d'.Free ∧ d'.waits = [] ∧ d'.safe.length = d.safe.length := by
  obtain ⟨q1, q2, q3⟩ := nextE_zero hn
  have he : s.epoch + 1 < 4611686018427387904 := by have := h.lg.epoch; omega
  obtain ⟨f1, f2⟩ := settle_free h.six hf (e := s.epoch + 1) (l := l) he q3
  obtain ⟨o1, o2⟩ := settle_on h.ok h.six (e := s.epoch + 1) (l := l) (by rw [h.newest]; omega) he q1 q3 f1
  refine ⟨(settleS d (s.epoch + 1) l).2, ?_, o1, f2, o2, settle_len _ _ _⟩
  unfold Lg.reset
  rw [if_neg (by simp [hg]), if_neg (by simp [hn]), if_pos f1]
theorem reset_not {d : Dk} {s : Lg} (hg : s.gone = false) {l : List (List UInt8)} (hn : nextE d.bytes s.epoch l ≠ 0) : s.reset d l = (nextE d.bytes s.epoch l, s, d) := by
  unfold Lg.reset
  rw [if_neg (by simp [hg]), if_pos hn]
end Go.Proofs.Ytpfccbojllabjaa

/- Layer 4's laws: known, what the chapter's examples fix. -/
namespace Go.Proofs.Ytpfccbojllabjaa
open Go.RowKit

/-- A disk, or a log on it, of the call's own. -/
def MD (W w : World) (F : Nat → Prop) (g : Nat) (d : Dk) : Prop := PD w F g d ∧ (∀ k, F k → W.heap.size ≤ k) ∧ Below W.heap.size W w
def MB (W w : World) (H : Nat → Prop) (g gd : Nat) (d : Dk) (s : Lg) : Prop := PB w H g gd d s ∧ (∀ k, H k → W.heap.size ≤ k) ∧ Below W.heap.size W w
section
variable {W w w' : World} {F F' H H' : Nat → Prop} {g gd : Nat} {d d' : Dk} {s : Lg}
theorem MD.below (h : MD W w F g d) (hb : Below w.heap.size w w') : MD W w' F g d := ⟨h.1.below hb, h.2.1, h.2.2.trans (hb.mono h.2.2.size)⟩
theorem MD.step (h : MD W w F g d) (hp : PD w' F' g d') (hm : Mv F F' w w') : MD W w' F' g d' := ⟨hp, hm.ge h.2.2.size h.2.1, h.2.2.trans (hm.kp.below h.2.1 h.2.2.size)⟩
theorem MB.below (h : MB W w H g gd d s) (hb : Below w.heap.size w w') : MB W w' H g gd d s := ⟨h.1.below hb, h.2.1, h.2.2.trans (hb.mono h.2.2.size)⟩
theorem MB.disk (h : MB W w H g gd d s) : ∃ F, MD W w F gd d := by
  obtain ⟨⟨F, G, h1, _, _, h2, _⟩, h3, h4⟩ := h
  exact ⟨F, h1, fun k e => h3 k (h2 k e), h4⟩
theorem MD.crash (h : MD W w F gd d) (hwl : d.waits.length ≤ 1000000000) (A : Option Addr) (n c : Nat) (ks : List Int) (hn : n ≤ 9223372036854775807) (hks : RdI w w.heap.size A n ks) (hap : 0 < n → ∀ ad, A = some ad → ¬ F ad.block) :
    Calls Try.prog 14 #[.pointer (some ⟨gd, 0, none⟩), .slice A n c] w fun e w' => e = .returned (.tuple #[]) ∧ ∃ F', MD W w' F' gd (d.crash ks) := by
  refine (crash_any gd d F A n c ks w hn hwl hks hap h.1).mono ?_
  rintro e w' ⟨rfl, F', hp, hm⟩
  exact ⟨rfl, F', h.step hp hm⟩
theorem MD.crash0 (h : MD W w F gd d) (hwl : d.waits.length ≤ 1000000000) :
    Calls Try.prog 14 #[.pointer (some ⟨gd, 0, none⟩), .slice none 0 0] w fun e w' => e = .returned (.tuple #[]) ∧ ∃ F', MD W w' F' gd (d.crash []) := h.crash hwl none 0 0 [] (by omega) (RdI.nil _ _ _) (fun h => by omega)
theorem MD.opened (h : MD W w F gd d) (hwl : d.waits.length ≤ 900000000) (ho : d.openL = (0, some s, d')) :
    Calls Try.prog 32 #[.pointer (some ⟨gd, 0, none⟩)] w fun e w' => ∃ g H, e = .returned (.tuple #[.pointer (some ⟨g, 0, none⟩), .int .i64 0]) ∧ MB W w' H g gd d' s := by
  have hl := openL_len d
  rw [ho] at hl
  have hb : d'.bytes = d.bytes := bytes_of hl
  refine (open_any gd d F w hwl h.1).mono ?_
  rintro e w' ⟨F', hp, hm, hx⟩
  rw [ho] at hp hx
  rcases hx with ⟨h1, _⟩ | ⟨s', g, G, h1, rfl, hw, hG, hGF⟩
  · cases h1
  · injection h1 with h1
    subst h1
    have hD := h.step hp hm
    refine ⟨g, fun k => F' k ∨ G k, rfl, ⟨F', G, hp, by rw [hb]; exact hw, fun k e e2 => hGF k e2 e, fun k e => .inl e, fun k e => .inr e, ?_⟩, ?_, hD.2.2⟩
    · rintro k (e | e)
      · exact hp.lt k e
      · exact hw.lt k e
    · rintro k (e | e)
      · exact hD.2.1 k e
      · have := hG k e; have := h.2.2.size; omega
theorem MB.acted {f : Nat} {args : Array Value} {r : Int × Lg × Dk} (h : MB W w H g gd d s) (hc : Calls Try.prog f args w (Acted w H g gd r)) : Calls Try.prog f args w fun e w' => e = .returned (.int .i64 r.1) ∧ ∃ H', MB W w' H' g gd r.2.2 r.2.1 := by
  refine hc.mono ?_
  rintro e w' ⟨rfl, H', hp, hm⟩
  exact ⟨rfl, H', hp, hm.ge h.2.2.size h.2.1, h.2.2.trans (hm.kp.below h.2.1 h.2.2.size)⟩
theorem MB.append (h : MB W w H g gd d s) (A : Option Addr) (nb cb : Nat) (b : List UInt8) (hwl : d.waits.length ≤ 800000000) (h6 : 6 ≤ d.safe.length) (hcb : nb ≤ cb) (hcm : cb ≤ 9223372036854775807) (hb : Rd w w.heap.size A nb b) :
    Calls Try.prog 19 #[.pointer (some ⟨g, 0, none⟩), .slice A nb cb] w fun e w' => e = .returned (.int .i64 (s.append d b).1) ∧ ∃ H', MB W w' H' g gd (s.append d b).2.2 (s.append d b).2.1 := h.acted (append_any g gd d s H A nb cb b w hwl h6 hcb hcm hb h.1)
theorem MB.sync (h : MB W w H g gd d s) (hwl : d.waits.length ≤ 800000000) :
    Calls Try.prog 21 #[.pointer (some ⟨g, 0, none⟩)] w fun e w' => e = .returned (.int .i64 (s.sync d).1) ∧ ∃ H', MB W w' H' g gd (s.sync d).2.2 (s.sync d).2.1 := h.acted (syncW_any g gd d s H w hwl h.1)
theorem MB.reset (h : MB W w H g gd d s) (A : Option Addr) (nl cl : Nat) (l : List (List UInt8)) (hwl : d.waits.length ≤ 800000000) (h6 : 6 ≤ d.safe.length) (hnl : nl ≤ 9223372036854775807) (hls : Parts w w.heap.size A nl l) :
    Calls Try.prog 27 #[.pointer (some ⟨g, 0, none⟩), .slice A nl cl] w fun e w' => e = .returned (.int .i64 (s.reset d l).1) ∧ ∃ H', MB W w' H' g gd (s.reset d l).2.2 (s.reset d l).2.1 := h.acted (reset_any g gd d s H A nl cl l w hwl h6 hnl hls h.1)
end

def kl0 : Lg := { epoch := 0, recs := [], safe := 0, gone := false }
def kl1 : Lg := { epoch := 0, recs := [[97]], safe := 0, gone := false }
def kl2 : Lg := { epoch := 0, recs := [[97]], safe := 1, gone := false }
def kl3 : Lg := { epoch := 1, recs := [[98], [99]], safe := 2, gone := false }
/-- The disks that known makes. -/
theorem known_disks : (Dk.new 10).openL = (0, some kl0, Dk.new 10) ∧ ∃ d1 d2 d3, kl0.append (Dk.new 10) [97] = (0, kl1, d1) ∧ d1.crash [] = Dk.new 10 ∧ d1.bytes = 128 ∧ d1.waits.length ≤ 2000 ∧ d1.safe.length = 10 ∧ kl1.sync d1 = (0, kl2, d2) ∧ d2.waits = [] ∧ d2.safe.length = 10 ∧ kl2.reset d2 [[98], [99]] = (0, kl3, d3) ∧ d3.waits = [] ∧ (d3.crash []).openL = (0, some kl3, d3.crash []) ∧ (d3.crash []).bytes = 128 := by
  have h0 := fresh_on 10 (by omega)
  have f0 := Dk.new_free 10
  have hby : (Dk.new 10).bytes = 128 := by simp [Dk.bytes, Dk.half, halfN, Dk.new]
  have o0 := open_again h0 rfl
  rw [h0.found] at o0
  obtain ⟨d1, a1, h1, f1, s1⟩ := append_on h0 f0 rfl (b := [97]) (by simp) (by rw [hby]; simp [usedF, framesF])
  have e1 : d1.safe.length = 10 := by rw [s1]; simp [Dk.new]
  obtain ⟨d2, a2, h2, f2, w2, l2⟩ := sync_on h1 f1 rfl
  have hb2 : d2.bytes = 128 := by rw [bytes_of (show d2.safe.length = (Dk.new 10).safe.length by rw [l2, s1]), hby]
  have hn : nextE d2.bytes 0 [[98], [99]] = 0 := by
    rw [hb2]
    unfold nextE
    rw [if_neg (by simp), if_neg]
    rw [usedF_cons, usedF_one]
    simp
  obtain ⟨d3, a3, h3, f3, w3, l3⟩ := reset_on h2 f2 rfl hn
  have h4 := crash_on h3 w3 []
  have o4 := open_again h4 rfl
  rw [h4.found] at o4
  have hcr : d1.crash [] = Dk.new 10 := by
    unfold Dk.crash
    have : crashS d1.safe d1.waits [] = d1.safe := by cases d1.waits <;> rfl
    rw [this, s1]
    rfl
  have hw1 : d1.waits.length ≤ 2000 := by
    have := append_waits kl0 (Dk.new 10) [97] (by simp [Dk.new])
    have e : kl0.append (Dk.new 10) [97] = _ := a1
    rw [e] at this
    have q : (Dk.new 10).waits.length = 0 := rfl
    simp only at this
    omega
  refine ⟨o0, d1, d2, d3, a1, hcr, by rw [bytes_of (show d1.safe.length = (Dk.new 10).safe.length by rw [s1]), hby], hw1, e1, a2, w2, by omega, a3, w3, o4, ?_⟩
  rw [bytes_of (show (d3.crash []).safe.length = (Dk.new 10).safe.length by rw [Dk.crash_len, l3, l2, s1]), hby]

theorem lit2 (W : World) : Parts (((W.alloc (.cells #[.int .u8 98] 5 (1, 2))).alloc (.cells #[.int .u8 99] 5 (1, 2))).alloc (.cells #[.slice (some ⟨W.heap.size, 0, none⟩) 1 1, .slice (some ⟨W.heap.size + 1, 0, none⟩) 1 1] 40)) (W.heap.size + 1 + 1 + 1) (some ⟨W.heap.size + 1 + 1, 0, none⟩) 2 [[98], [99]] := by
  have r1 : Rd (W.alloc (.cells #[.int .u8 98] 5 (1, 2))) (W.heap.size + 1) (some ⟨W.heap.size, 0, none⟩) 1 [98] := Rd.mark rfl [98] (cs := [.int .u8 98]) rfl 5 (1, 2)
  have r2 := Rd.mark (w := W.alloc (.cells #[.int .u8 98] 5 (1, 2))) (g := W.heap.size + 1) (by simp) [99] (cs := [.int .u8 99]) rfl 5 (1, 2)
  exact Parts.lit (w := (W.alloc (.cells #[.int .u8 98] 5 (1, 2))).alloc (.cells #[.int .u8 99] 5 (1, 2))) (t := 40) [(some ⟨W.heap.size, 0, none⟩, 1, 1), (some ⟨W.heap.size + 1, 0, none⟩, 1, 1)] _ rfl rfl (by simp) rfl (by
    intro i k1 k2
    match i, k1, k2 with
    | 0, _, _ => exact ⟨Nat.le_refl 1, show 1 ≤ 9223372036854775807 by decide, (r1.alloc (by simp) _).more (by simp)⟩
    | 1, _, _ => exact ⟨Nat.le_refl 1, show 1 ≤ 9223372036854775807 by decide, r2.more (by simp)⟩)

set_option maxHeartbeats 4000000 in
set_option maxRecDepth 100000 in
theorem known_any (W : World) : Calls Try.prog 9 #[] W fun e w' => e = .returned (.bool true) ∧ Below W.heap.size W w' := by
  have kc := conv_bytes
  obtain ⟨o0, d1, d2, d3, a1, cr1, by1, wl1, sl1, a2, wl2, sl2, a3, wl3, o3, by3⟩ := known_disks
  have wl0 : (Dk.new 10).waits.length = 0 := rfl
  have sl0 : (Dk.new 10).safe.length = 10 := by simp [Dk.new]
  have O0 := Lib.hid o0
  have A1 := Lib.hid a1
  have A2 := Lib.hid a2
  have A3 := Lib.hid a3
  have O3 := Lib.hid o3
  have Cr1 := Lib.hid cr1
  clear o0 a1 a2 a3 o3 cr1
  go_enter Try.func9, Try.ntmps9
  go_wp2_with fail
  refine (new_any 10 W (by omega) (by omega)).mono ?_
  rintro e w0 ⟨gd, F0, rfl, hp0, hge0, hb0⟩
  have M0 : Hid (MD W w0 F0 gd (Dk.new 10)) := ⟨hp0, hge0, hb0⟩
  clear hp0 hge0 hb0
  have C1 := Lib.hid (M0.out.opened (by omega) O0.out)
  clear M0
  go_wp2_with fail
  refine C1.out.mono ?_
  rintro e w1 ⟨g1, H1, rfl, m1⟩
  have M1 := Lib.hid m1
  clear m1 C1
  have C2 : Hid (Calls Try.prog 19 #[.pointer (some ⟨g1, 0, none⟩), .slice (some ⟨w1.heap.size, 0, none⟩) 1 1] (w1.alloc (.cells #[.int .u8 97] 5 (1, 2))) fun e w' => e = .returned (.int .i64 0) ∧ ∃ H', MB W w' H' g1 gd d1 kl1) := by
    have := (M1.out.below ((Below.refl _ _).alloc (Nat.le_refl _) (.cells #[.int .u8 97] 5 (1, 2)))).append (some ⟨w1.heap.size, 0, none⟩) 1 1 [97] (by omega) (by omega) (by omega) (by omega) ((Rd.mark (w := w1) rfl [97] (cs := [.int .u8 97]) rfl 5 (1, 2)).more (by simp))
    rw [A1.out] at this
    exact this
  clear M1
  go_wp2_with fail
  refine C2.out.mono ?_
  rintro e w2 ⟨rfl, H2, m2⟩
  have M2 := Lib.hid m2
  have C3 := roomW_any g1 gd d1 kl1 H2 w2 m2.1
  have hr1 : kl1.tellR d1 = 117 := by unfold Lg.tellR Lg.room; rw [by1]; rfl
  rw [hr1] at C3
  have C3 := Lib.hid C3
  clear m2 C2 hr1
  go_wp2_with fail
  refine C3.out.mono ?_
  rintro e w3 ⟨rfl, hb3⟩
  obtain ⟨F3, m3⟩ := (M2.out.below hb3).disk
  have C4 := m3.crash0 (by omega)
  rw [Cr1.out] at C4
  have C4 := Lib.hid C4
  clear hb3 m3 C3 M2
  go_wp2_with fail
  refine C4.out.mono ?_
  rintro e w4 ⟨rfl, F4, m4⟩
  have C5 := Lib.hid (m4.opened (by omega) O0.out)
  clear m4 C4
  go_wp2_with fail
  refine C5.out.mono ?_
  rintro e w5 ⟨g5, H5, rfl, m5⟩
  have M5 := Lib.hid m5
  have C6 := records_any g5 gd _ kl0 H5 w5 m5.1
  have C6 : Hid (Calls Try.prog 24 #[.pointer (some ⟨g5, 0, none⟩)] w5 fun e w' => ∃ A c, e = .returned (.slice A 0 c) ∧ Below w5.heap.size w5 w') := by
    refine C6.mono ?_
    rintro e w' ⟨A, c, vals, rfl, _, _, hb⟩
    exact ⟨A, c, rfl, hb⟩
  clear m5 C5
  go_wp2_with fail
  refine C6.out.mono ?_
  rintro e w6 ⟨A6, c6, rfl, hb6⟩
  have M6 := Lib.hid (M5.out.below hb6)
  clear hb6 C6 M5
  have C7 : Hid (Calls Try.prog 19 #[.pointer (some ⟨g5, 0, none⟩), .slice (some ⟨w6.heap.size, 0, none⟩) 1 1] (w6.alloc (.cells #[.int .u8 97] 5 (1, 2))) fun e w' => e = .returned (.int .i64 0) ∧ ∃ H', MB W w' H' g5 gd d1 kl1) := by
    have := (M6.out.below ((Below.refl _ _).alloc (Nat.le_refl _) (.cells #[.int .u8 97] 5 (1, 2)))).append (some ⟨w6.heap.size, 0, none⟩) 1 1 [97] (by omega) (by omega) (by omega) (by omega) ((Rd.mark (w := w6) rfl [97] (cs := [.int .u8 97]) rfl 5 (1, 2)).more (by simp))
    rw [A1.out] at this
    exact this
  clear M6
  go_wp2_with fail
  refine C7.out.mono ?_
  rintro e w7 ⟨rfl, H7, m7⟩
  have C8 := m7.sync (by omega)
  rw [A2.out] at C8
  have C8 := Lib.hid C8
  clear m7 C7
  go_wp2_with fail
  refine C8.out.mono ?_
  rintro e w8 ⟨rfl, H8, m8⟩
  have M8 := Lib.hid m8
  clear m8 C8
  have hb8 : Below w8.heap.size w8 (((w8.alloc (.cells #[.int .u8 98] 5 (1, 2))).alloc (.cells #[.int .u8 99] 5 (1, 2))).alloc (.cells #[.slice (some ⟨w8.heap.size, 0, none⟩) 1 1, .slice (some ⟨w8.heap.size + 1, 0, none⟩) 1 1] 40)) := (((Below.refl _ _).alloc (Nat.le_refl _) _).alloc (by simp) _).alloc (by simp; omega) _
  have C9 := (M8.out.below hb8).reset (some ⟨w8.heap.size + 1 + 1, 0, none⟩) 2 2 [[98], [99]] (by rw [wl2]; simp) (by omega) (by omega) ((lit2 w8).more (by simp))
  rw [A3.out] at C9
  have C9 := Lib.hid C9
  clear hb8 M8
  go_wp2_with fail
  refine C9.out.mono ?_
  rintro e w9 ⟨rfl, H9, m9⟩
  obtain ⟨F9, m9d⟩ := m9.disk
  have C10 := Lib.hid (m9d.crash0 (by rw [wl3]; simp))
  clear m9 m9d C9
  go_wp2_with fail
  refine C10.out.mono ?_
  rintro e w10 ⟨rfl, F10, m10⟩
  have C11 := Lib.hid (m10.opened (by simp [Dk.crash]) O3.out)
  clear m10 C10
  go_wp2_with fail
  refine C11.out.mono ?_
  rintro e w11 ⟨g11, H11, rfl, m11⟩
  have M11 := Lib.hid m11
  clear m11 C11
  go_wp2_with fail
  refine (open_nil w11).mono ?_
  rintro e w' ⟨rfl, rfl⟩
  have C12 := Lib.hid (records_any g11 gd _ kl3 H11 w11 M11.out.1)
  go_wp2_with fail
  refine C12.out.mono ?_
  rintro e w12 ⟨A12, c12, vals, rfl, ho12, hf12, hb12⟩
  have hb13 : Below w12.heap.size w12 (((w12.alloc (.cells #[.int .u8 98] 5 (1, 2))).alloc (.cells #[.int .u8 99] 5 (1, 2))).alloc (.cells #[.slice (some ⟨w12.heap.size, 0, none⟩) 1 1, .slice (some ⟨w12.heap.size + 1, 0, none⟩) 1 1] 40)) := (((Below.refl _ _).alloc (Nat.le_refl _) _).alloc (by simp) _).alloc (by simp; omega) _
  have M13 := Lib.hid ((M11.out.below hb12).below hb13)
  have C13 := sameLists_any A12 (some ⟨w12.heap.size + 1 + 1, 0, none⟩) 2 c12 2 2 _ _ [[98], [99]] [[98], [99]] _ (by omega) (by omega) ((told_parts (L := [[98], [99]]) rfl ho12 hf12).below hb13) (lit2 w12)
  have C13 := Lib.hid C13
  clear ho12 hf12 hb12 hb13 C12 M11
  go_wp2_with fail
  refine C13.out.mono ?_
  rintro e w14 ⟨rfl, q, rfl⟩
  have M14 := Lib.hid (M13.out.below (bel_drewN (Below.refl _ _) q))
  have C14 := roomW_any g11 gd _ kl3 H11 _ M14.out.1
  have hr1 : kl3.tellR (d3.crash []) = 106 := by unfold Lg.tellR Lg.room; rw [by3]; rfl
  rw [hr1] at C14
  have C14 := Lib.hid C14
  clear C13 M13 hr1
  go_wp2_with fail
  refine C14.out.mono ?_
  rintro e w15 ⟨rfl, hb15⟩
  have M15 := Lib.hid (M14.out.below hb15)
  have C15 := Lib.hid (safe_any g11 gd _ kl3 H11 w15 M15.out.1)
  have hs1 : Hid ((kl3.tellN : Nat) = 2) := rfl
  clear C14 M14 hb15
  rw [hs1.out] at C15
  go_wp2_with fail
  refine C15.out.mono ?_
  rintro e w' ⟨rfl, rfl⟩
  have HB := Lib.hid M15.out.2.2
  clear M15 C15
  go_wp2
  go_ret
  exact ⟨rfl, HB.out⟩
end Go.Proofs.Ytpfccbojllabjaa
