/- Of the proofs of layer 4, merged: RWal5, RWal6, RWal7, RWal8, RWal9, RWal10, RWal11, WalP4, WalP5, WalP6, WalP7, StoL. -/
import Derived.Test.YtfepjgafamaegaaGreatMPWal6
import Derived.Test.YtfepjgafamaegaaGreatMLent
import Derived.Deep.RegionHeld3
import Derived.Test.YtfepjgafamaegaaGreatMFrameP
import Derived.Laws.OwnMore
import Derived.Laws.StructEq

/- The document's log: sectors are laid. -/
namespace Go.Proofs.YtfepjgafamaegaaGreat
open Go.RowKit

/-- The document's log behind sectors that were laid. -/
def RLaid (w : World) (F : Nat → Prop) (g M : Nat) (ep v nv : Value) (r : Int × Dk) (e : Ending) (w' : World) : Prop :=
  e = .returned (.int .i64 r.1) ∧ ∃ F', RD w' F' M r.2 ∧ Kp (fun k => F k ∨ k = g) w w' ∧ (∀ k, F' k → F k ∨ w.heap.size ≤ k) ∧
    Bk w' g 69 #[.pointer (some ⟨M, 0, none⟩), ep, v, nv, .bool (decide (r.1 ≠ 0))]

set_option maxRecDepth 100000 in
set_option maxHeartbeats 4000000 in
theorem rlay_meth (g M e i0 i1 N c ga : Nat) (ep v nv : Value) (area : List UInt8) (d : Dk) (F : Nat → Prop) (w : World) (he : e < 18446744073709551616) (h6 : 6 ≤ d.safe.length) (hwl : d.waits.length ≤ 900000000)
    (hi : i0 ≤ i1) (hi1 : i1 < d.half) (hN : N = d.bytes) (hNc : N ≤ c) (hcm : c ≤ 9223372036854775807) (hgF : ¬ F g) (hap : ¬ F ga) (hr : Rd w w.heap.size (some ⟨ga, 0, none⟩) N area) (h : RD w F M d)
    (hb : Bk w g 69 #[.pointer (some ⟨M, 0, none⟩), ep, v, nv, .bool false]) :
    Calls Tryz.prog 103 #[.pointer (some ⟨g, 0, none⟩), .int .u64 e, .slice (some ⟨ga, 0, none⟩) N c, .int .i64 i0, .int .i64 i1] w (RLaid w F g M ep v nv (layS area (d.base e) i0 (i1 + 1 - i0) d)) := by
  have hlen := h.len
  have hh : d.half ≤ 1024 := by unfold Dk.half halfN; omega
  have hbb := Dk.base_le h6 e
  have hNb : N = d.half * 32 := hN
  have HP : Hid (∀ F' w', Mv F F' w w' → Bk w' g 69 #[.pointer (some ⟨M, 0, none⟩), ep, v, nv, .bool false] ∧ ¬ F' ga ∧ Rd w' w'.heap.size (some ⟨ga, 0, none⟩) N area) := fun F' w' hm => by
    have h1 : ga < w.heap.size ∨ N = 0 := by
      rcases Nat.eq_zero_or_pos N with h0 | h0
      · exact .inr h0
      · obtain ⟨b, o, e', q1, _⟩ := hr.2 h0; injection e' with e'; injection e' with e'; subst e'; exact .inl q1
    refine ⟨hb.kp hm.kp hgF, fun hf => ?_, (hr.kpA hm.kp (fun ad e => by injection e with e; subst e; exact hap)).more hm.kp.size⟩
    rcases hm.new _ hf with h2 | h2
    · exact hap h2
    · rcases h1 with h1 | h1
      · omega
      · omega
  have HB : Hid (∀ d' : Dk, d'.safe.length = d.safe.length → d'.base e = d.base e ∧ 6 ≤ d'.safe.length) := fun d' hd' => ⟨by unfold Dk.base; rw [hd'], by omega⟩
  have HRD := Lib.hid h
  have HG : Hid (g < w.heap.size) := hb.lt
  clear h hb hr hN
  generalize hB : d.base e = B at *
  generalize hH : d.half = H at *
  subst hNb
  have HB2 : Hid (B + H ≤ d.safe.length) := hbb.2.1
  have hlt := hlen.1
  have Hlen : Hid (d.safe.length ≤ 2048) := hlen.2
  clear hbb hB hH hlen hlt h6
  go_enter Tryz.func103, Tryz.ntmps103
  go_wp2
  go_loopg [11] (i1 + 1 - i0) (fun gk i wr => ∃ m : Nat, i = .int .i64 m ∧ i0 ≤ m ∧ m + gk = i1 + 1 ∧ Hid (∃ F' d', Mv F F' w wr ∧ RD wr F' M d' ∧ d'.safe.length = d.safe.length ∧ d'.waits.length ≤ 900000000 + (m - i0) ∧ layS area B i0 (i1 + 1 - i0) d = layS area B m gk d'))
  case atStart => exact ⟨i0, rfl, by omega, by omega, ⟨F, d, Mv.refl _ _, HRD.out, rfl, by omega, rfl⟩⟩
  case round =>
    obtain ⟨m, rfl, him, hk, HR⟩ := hrel
    obtain ⟨F1, d1, hm1, hp1, hsl, hw1, hls⟩ := HR.out
    by_cases hkn : m < i1 + 1
    · have hmi : (m : Int) ≤ (i1 : Int) := by omega
      obtain ⟨hbase, h61⟩ := HB.out d1 hsl
      have hm1 : Mv F F1 w wr.drew := hm1.trans (Mv.of (Kp.drew F1 wr))
      have hp1 := hp1.below (Below.refl wr.heap.size wr).drew
      obtain ⟨hb1, hga1, hr1⟩ := HP.out F1 wr.drew hm1
      have c0 := hb1.cell 0
      simp only [List.getElem?_toArray, List.getElem?_cons_zero] at c0
      have HC1 := rfirst_any M d1 F1 e wr.drew he h61 hp1
      rw [hbase] at HC1
      have HC1 := Lib.hid HC1
      have HW : Hid (∀ cc, Calls Tryz.prog 124 #[.pointer (some ⟨M, 0, none⟩), .int .i64 ((B : Int) + (m : Int)), .slice (some ⟨ga, 32 * m, none⟩) 32 cc] wr.drew fun e w' => e = .returned (.int .i64 (d1.write ((B + m : Nat) : Int) (chunk area m)).1) ∧ ∃ F', RD w' F' M (d1.write ((B + m : Nat) : Int) (chunk area m)).2 ∧ Mv F1 F' wr.drew w') := fun cc => by
        have := rwrite_any M d1 F1 ((B + m : Nat) : Int) (some ⟨ga, 32 * m, none⟩) 32 cc (chunk area m) wr.drew (by omega) (by omega) (by
          have := rd_part hr1 (32 * m) 32 (by omega)
          unfold chunk
          rw [Nat.mul_comm m 32]
          exact this) (fun ad e hf => by injection e with e; subst e; exact hga1 hf) hp1
        rw [show ((B + m : Nat) : Int) = (B : Int) + (m : Int) by omega] at this ⊢
        exact this
      have hww := dwrite_waits d1 ((B + m : Nat) : Int) (chunk area m)
      have hwln := Dk.write_len d1 ((B + m : Nat) : Int) (chunk area m)
      have hne0 : ∀ k', (d1.write ((B + m : Nat) : Int) (chunk area m)).1 ≠ 0 → layS area B m (k' + 1) d1 = d1.write ((B + m : Nat) : Int) (chunk area m) := fun k' hr => layS_stop (k := k') hr
      have heq0 : ∀ k', (d1.write ((B + m : Nat) : Int) (chunk area m)).1 = 0 → layS area B m (k' + 1) d1 = layS area B (m + 1) k' (d1.write ((B + m : Nat) : Int) (chunk area m)).2 := fun k' hr => layS_next (k := k') hr
      obtain ⟨⟨r1, d2⟩, hrd⟩ : ∃ p, d1.write ((B + m : Nat) : Int) (chunk area m) = p := ⟨_, rfl⟩
      rw [hrd] at HW hww hwln hne0 heq0
      simp only at hww hwln
      have Hww := Lib.hid hww
      have Hwl := Lib.hid hwln
      have Hne0 := Lib.hid hne0
      have Heq0 := Lib.hid heq0
      clear hww hwln hne0 heq0 hrd
      have Hm1 := Lib.hid hm1
      have Hw1 := Lib.hid hw1
      have Hls := Lib.hid hls
      have Hsl := Lib.hid hsl
      have hmb : 32 * m + 32 ≤ H * 32 := by omega
      clear hm1 hp1 hls HR hb1 hr1 hga1 hsl hw1 hbase h61
      have hcu : ¬ c = 32 * m := by omega
      have hwr1 : IntKind.i64.wrap (32 * (m : Int)) = 32 * (m : Int) := by rw [IntKind.wrap_i64]; omega
      have hwr2 : IntKind.i64.wrap (32 * (m : Int) + 32) = 32 * (m : Int) + 32 := by rw [IntKind.wrap_i64]; omega
      have hT1 : (32 * (m : Int)).toNat = 32 * m := by omega
      have hT2 : (32 * (m : Int) + 32).toNat = 32 * m + 32 := by omega
      have hT3 : 32 * m + 32 - 32 * m = 32 := by omega
      have hT5 : 0 ≤ 32 * (m : Int) + 32 := by omega
      have hT6 : 0 ≤ 32 * (m : Int) := by omega
      have hT7 : 32 * (m : Int) ≤ 32 * (m : Int) + 32 := by omega
      have hT4 : (32 * (m : Int) + 32 ≤ (c : Int)) := by omega
      have hwr3 : IntKind.i64.wrap ((B : Int) + (m : Int)) = (B : Int) + (m : Int) := by rw [IntKind.wrap_i64]; have := HB2.out; have := Hlen.out; omega
      go_wp2_with fail
      go_region_law (first | (go_simp; go_at_call 132; refine HC1.out.mono ?_; rintro x w' ⟨rfl, rfl⟩) | (go_simp; go_at_call 124; refine (HW.out _).mono ?_; rintro x w2 ⟨rfl, F2, hp2, hm2⟩))
      all_goals
        have Hp2 := Lib.hid hp2
        have Hm2 := Lib.hid (Hm1.out.trans hm2)
        obtain ⟨hb2, _, _⟩ := HP.out F2 w2 Hm2.out
        clear hp2 hm2 HW HC1 hwr1 hwr2 hwr3 hT1 hT2 hT3 hT4 hT5 hT6 hT7
        obtain ⟨k', rfl⟩ : ∃ k', gk = k' + 1 := ⟨gk - 1, by omega⟩
        by_cases hr : r1 = 0
        · have Hn := Lib.hid (Heq0.out k' hr)
          subst hr
          clear hb2
          go_wp2
          go_roundg k'
          case measure => omega
          case rel => exact ⟨m + 1, by go_num, by omega, by omega, ⟨F2, _, Hm2.out, Hp2.out, Hwl.out.trans Hsl.out, by have := Hw1.out; have := Hww.out; omega, by rw [Hls.out, Hn.out]⟩⟩
        · have Hn := Lib.hid (Hne0.out k' hr)
          have hne : (r1 != 0) = true := by simpa using hr
          have Hr : Hid ((layS area B i0 (i1 + 1 - i0) d).1 = r1) := by rw [Hls.out, Hn.out]; exact Lib.hid rfl
          have c4 := hb2.cell 4
          have f4 := hb2.frozen 4
          simp only [List.getElem?_toArray, List.getElem?_cons_zero, List.getElem?_cons_succ] at c4
          have hk : Kp (· = g) w2 (w2.setCell ⟨g, 4, none⟩ (.bool true)) := Kp.set_ (F := (· = g)) (p := ⟨g, 4, none⟩) rfl _
          have HFin : Hid (∃ F', RD (w2.setCell ⟨g, 4, none⟩ (.bool true)) F' M (layS area B i0 (i1 + 1 - i0) d).2 ∧ Kp (fun k => F k ∨ k = g) w (w2.setCell ⟨g, 4, none⟩ (.bool true)) ∧ (∀ k, F' k → F k ∨ w.heap.size ≤ k) ∧
              Bk (w2.setCell ⟨g, 4, none⟩ (.bool true)) g 69 #[.pointer (some ⟨M, 0, none⟩), ep, v, nv, .bool (decide ((layS area B i0 (i1 + 1 - i0) d).1 ≠ 0))]) := by
            refine ⟨F2, ?_, (Hm2.out.kp.mono (fun k e => .inl e)).trans (hk.mono fun k e => .inr e), Hm2.out.new, ?_⟩
            · rw [Hls.out, Hn.out]
              refine Hp2.out.kp hk (fun k hf e => ?_)
              have e : k = g := e
              subst e
              rcases Hm2.out.new _ hf with h | h
              · exact hgF h
              · have := HG.out; omega
            · have := hb2.set_ 4 (.bool true)
              rw [Hr.out, decide_eq_true hr]
              exact this
          clear hr hb2 hk
          go_wp2
          go_ret
          refine (⟨?_, HFin.out⟩ : RLaid w F g M ep v nv _ _ _)
          rw [Hr.out]
          try rfl
    · have hgk : gk = 0 := by omega
      subst hgk
      have hmi : (i1 : Int) < (m : Int) := by omega
      have hmi2 : ¬ m ≤ i1 := by omega
      obtain ⟨hb1, _, _⟩ := HP.out F1 wr hm1
      have hls' : layS area B i0 (i1 + 1 - i0) d = (0, d1) := hls
      have HFin : Hid (∃ F', RD wr F' M (layS area B i0 (i1 + 1 - i0) d).2 ∧ Kp (fun k => F k ∨ k = g) w wr ∧ (∀ k, F' k → F k ∨ w.heap.size ≤ k) ∧
              Bk wr g 69 #[.pointer (some ⟨M, 0, none⟩), ep, v, nv, .bool (decide ((layS area B i0 (i1 + 1 - i0) d).1 ≠ 0))]) := by
        rw [hls']
        exact ⟨F1, hp1, hm1.kp.mono (fun k e => .inl e), hm1.new, hb1⟩
      have Hr : Hid ((layS area B i0 (i1 + 1 - i0) d).1 = 0) := by rw [hls']; exact Lib.hid rfl
      clear hm1 hp1 hls hls' HR hb1
      go_wp2
      go_ret
      refine (⟨?_, HFin.out⟩ : RLaid w F g M ep v nv _ _ _)
      rw [Hr.out]
      try rfl
end Go.Proofs.YtfepjgafamaegaaGreat

/- The document's log: Sync; its room, asked of the whole. -/
namespace Go.Proofs.YtfepjgafamaegaaGreat
open Go.RowKit

theorem sync_down {d : Dk} (h : d.sync.1 = 0) : d.sync.2.down = false := by
  unfold Dk.sync at h ⊢
  split
  · rename_i ha; exact act_down d ha
  · rename_i ha; rw [if_neg ha] at h; cases h
theorem layS_down (b : List UInt8) (base : Nat) : ∀ (k i : Nat) (d : Dk), d.down = false → (layS b base i k d).1 = 0 → (layS b base i k d).2.down = false := by
  intro k
  induction k with
  | zero => intro i d h _; exact h
  | succ k ih =>
    intro i d h h0
    by_cases hw : (d.write ((base + i : Nat) : Int) (chunk b i)).1 = 0
    · rw [layS_next hw] at h0 ⊢
      exact ih _ _ (write_ok hw).2.2.2.2.2 h0
    · rw [layS_stop hw] at h0
      exact absurd h0 hw

section
variable {w w' : World} {F G F' G' H : Nat → Prop} {g M n : Nat} {d' : Dk} {s s' : Lg} {v v' : Value} {vals vals' : List Value}
theorem RWl.turn (h : RWl w G g M n s v vals) (hk : Kp (· = g) w w') (hb : Bk w' g 69 #[.pointer (some ⟨M, 0, none⟩), .int .u64 s'.epoch, v, .int .i64 s'.safe, .bool s'.gone]) (hr : s'.recs = s.recs) (hok : s'.Ok n) : RWl w' G g M n s' v vals :=
  ⟨h.self, fun k e => Nat.lt_of_lt_of_le (h.lt k e) hk.size, hok, hb, by
    rw [hr]
    exact h.lst.set_ hk h.ne (fun cs e => by
      have := bk_heap h.blk
      rw [this] at e
      injection e with e
      injection e with _ e _
      exact absurd e (by decide)), h.ne⟩
theorem rb_step (hFH : ∀ k, F k → H k) (hGH : ∀ k, G k → H k) (h1 : RD w' F' M d') (h2 : RWl w' G' g M d'.bytes s' v' vals') (hd : ∀ k, F' k → ¬ G' k)
    (hk : Kp (fun k => F k ∨ G k) w w') (hF : ∀ k, F' k → F k ∨ w.heap.size ≤ k) (hG : ∀ k, G' k → G k ∨ w.heap.size ≤ k) (hH : ∀ k, H k → k < w.heap.size) (hdn : s'.gone = false → d'.down = false) : ∃ H', RB w' H' g M d' s' ∧ Mv H H' w w' :=
  ⟨fun k => H k ∨ F' k ∨ G' k, ⟨F', G', v', vals', h1, h2, hd, fun k e => .inr (.inl e), fun k e => .inr (.inr e), fun k e => by
    rcases e with e | e | e
    · exact Nat.lt_of_lt_of_le (hH k e) hk.size
    · exact h1.lt k e
    · exact h2.lt k e, hdn⟩, ⟨hk.mono fun k e => e.elim (hFH k) (hGH k), fun k e => by
    rcases e with e | e | e
    · exact .inl e
    · exact (hF k e).imp (hFH k) id
    · exact (hG k e).imp (hGH k) id⟩⟩
end
def RActed (w : World) (H : Nat → Prop) (g M : Nat) (r : Int × Lg × Dk) (e : Ending) (w' : World) : Prop := e = .returned (.int .i64 r.1) ∧ ∃ H', RB w' H' g M r.2.2 r.2.1 ∧ Mv H H' w w'

set_option maxRecDepth 100000 in
set_option maxHeartbeats 4000000 in
theorem rsyncW_any (g M : Nat) (d : Dk) (s : Lg) (H : Nat → Prop) (w : World) (hwl : d.waits.length ≤ 800000000) (h : RB w H g M d s) :
    Calls Tryz.prog 71 #[.pointer (some ⟨g, 0, none⟩)] w (RActed w H g M (s.sync d)) := by
  obtain ⟨F, G, v, vals, hp, hw, hFG, hFH, hGH, hH, hdn⟩ := h
  have hok := hw.ok
  have hok2 := sync_ok2 hok
  have hgF : ¬ F g := fun hf => hFG _ hf hw.self
  have HC := Lib.hid (rgone_meth g M d s v w hdn hw.blk hp.downCell)
  -- behind the question
  have HG : Hid (∀ w1, Bk w1 g 69 #[.pointer (some ⟨M, 0, none⟩), .int .u64 s.epoch, v, .int .i64 s.safe, .bool s.gone] → Kp (· = g) w w1 → RD w1 F M d ∧ RWl w1 G g M d.bytes s v vals) := fun w1 hb hk =>
    ⟨hp.kp hk (fun k hf e => by have e : k = g := e; subst e; exact hgF hf), hw.turn hk hb rfl hok⟩
  have hHH : Hid ((∀ k, F k → ¬ G k) ∧ (∀ k, F k → H k) ∧ (∀ k, G k → H k) ∧ (∀ k, H k → k < w.heap.size) ∧ G g ∧ ¬ F g) := ⟨hFG, hFH, hGH, hH, hw.self, hgF⟩
  clear hp hFG hFH hGH hH hgF
  cases hgone : s.gone with
  | true =>
    have HR : Hid (s.sync d = (6, s, d)) := by show _ = _; unfold Lg.sync; rw [if_pos hgone]
    rw [hgone] at HC
    have Hgn := Lib.hid hgone
    have HF : Hid (∀ w1, Bk w1 g 69 #[.pointer (some ⟨M, 0, none⟩), .int .u64 s.epoch, v, .int .i64 s.safe, .bool true] → Kp (· = g) w w1 → ∃ H', RB w1 H' g M d s ∧ Mv H H' w w1) := fun w1 hb hk => by
      obtain ⟨q1, q2⟩ := HG.out w1 (by rw [Hgn.out]; exact hb) hk
      obtain ⟨a1, a2, a3, a4, a5, a6⟩ := hHH.out
      exact rb_step a2 a3 q1 q2 a1 (hk.mono fun k e => .inr (by have e : k = g := e; rw [e]; exact a5)) (fun k e => .inl e) (fun k e => .inl e) a4 (fun e => by rw [Hgn.out] at e; cases e)
    clear hw hok hok2 hdn hgone HG
    go_enter Tryz.func71, Tryz.ntmps71
    go_wp2_with fail
    refine HC.out.mono ?_
    rintro x w1 ⟨rfl, hb, hk⟩
    have HF1 := Lib.hid (HF.out w1 hb hk)
    clear hb hk HC HF
    go_wp2
    go_ret
    unfold RActed
    rw [HR.out]
    exact ⟨rfl, HF1.out⟩
  | false =>
    rw [hgone] at HC
    have Hgn := Lib.hid hgone
    obtain ⟨Av, cv, hv, _⟩ := hw.lst.parts
    have hby : (d.sync.2).bytes = d.bytes := bytes_of (Dk.sync_len d)
    have hsy : s.sync d = if d.sync.1 = 0 then (0, { s with safe := s.recs.length }, d.sync.2) else (d.sync.1, { s with gone := true }, d.sync.2) := by
      unfold Lg.sync
      rw [if_neg (by simp [hgone])]
    have Hdown : Hid (d.sync.1 = 0 → d.sync.2.down = false) := sync_down
    have HS : Hid (∀ w1, RD w1 F M d → Calls Tryz.prog 105 #[.pointer (some ⟨M, 0, none⟩)] w1 fun e w' => e = .returned (.int .i64 d.sync.1) ∧ ∃ F', RD w' F' M d.sync.2 ∧ Mv F F' w1 w') := fun w1 q => rsync_any M d F w1 (by omega) q
    obtain ⟨⟨r, d1⟩, hr⟩ : ∃ p, d.sync = p := ⟨_, rfl⟩
    rw [hr] at HS hsy hby Hdown
    simp only at hsy
    have Hok2 := Lib.hid hok2
    have Hby := Lib.hid hby
    have HSY := Lib.hid hsy
    have hlt := hw.lt
    -- behind the sync
    have HN : Hid (∀ w1 w2 F', RD w1 F M d ∧ RWl w1 G g M d.bytes s v vals → Kp (· = g) w w1 → RD w2 F' M d1 → Mv F F' w1 w2 → RWl w2 G g M d1.bytes s v vals ∧ Kp (fun k => F k ∨ G k) w w2 ∧ (∀ k, F' k → F k ∨ w.heap.size ≤ k) ∧ (∀ k, F' k → ¬ G k)) := fun w1 w2 F' q1 hk1 q2 hm => by
      obtain ⟨a1, a2, a3, a4, a5, a6⟩ := hHH.out
      have hF : ∀ k, F' k → F k ∨ w.heap.size ≤ k := fun k hf => (hm.new k hf).imp id fun h => Nat.le_trans hk1.size h
      refine ⟨?_, (hk1.mono fun k e => .inr (by have e : k = g := e; rw [e]; exact a5)).trans (hm.kp.mono fun k e => .inl e), hF, fun k hf hg => ?_⟩
      · have := q1.2.kp hm.kp (fun k hg hf => a1 k hf hg)
        rwa [Hby.out]
      · rcases hF k hf with h | h
        · exact a1 k h hg
        · have := hlt k hg; omega
    clear hw hok hok2 hdn hgone hr hby hsy
    by_cases hr0 : r = 0
    · subst hr0
      have HR : Hid (s.sync d = (0, { s with safe := s.recs.length }, d1)) := HSY.out.trans (if_pos rfl)
      have HF : Hid (∀ w1 w2 F', RD w1 F M d ∧ RWl w1 G g M d.bytes s v vals → Kp (· = g) w w1 → RD w2 F' M d1 → Mv F F' w1 w2 → ∃ H', RB (w2.setCell ⟨g, 3, none⟩ (.int .i64 (s.recs.length : Nat))) H' g M d1 { s with safe := s.recs.length } ∧ Mv H H' w (w2.setCell ⟨g, 3, none⟩ (.int .i64 (s.recs.length : Nat)))) := fun w1 w2 F' q1 hk1 q2 hm => by
        obtain ⟨a1, a2, a3, a4, a5, a6⟩ := hHH.out
        obtain ⟨b1, b2, b3, b4⟩ := HN.out w1 w2 F' q1 hk1 q2 hm
        have hk5 : Kp (· = g) w2 (w2.setCell ⟨g, 3, none⟩ (.int .i64 (s.recs.length : Nat))) := Kp.set_ (F := (· = g)) (p := ⟨g, 3, none⟩) rfl _
        have hok5 := Hok2.out
        rw [HR.out] at hok5
        exact rb_step a2 a3 (q2.kp hk5 (fun k hf e => by have e : k = g := e; subst e; exact b4 _ hf a5)) (b1.turn hk5 (b1.blk.set_ 3 _) rfl (by rw [Hby.out]; exact hok5)) b4 (b2.trans (hk5.mono fun k e => .inr (by have e : k = g := e; rw [e]; exact a5))) b3 (fun k e => .inl e) a4 (fun _ => Hdown.out rfl)
      subst hv
      go_enter Tryz.func71, Tryz.ntmps71
      go_wp2_with fail
      refine HC.out.mono ?_
      rintro x w1 ⟨rfl, hb, hk⟩
      have Hq := Lib.hid (HG.out w1 (by rw [Hgn.out]; exact hb) hk)
      have c0 := hb.cell 0
      simp only [List.getElem?_toArray, List.getElem?_cons_zero] at c0
      have HS1 := Lib.hid (HS.out w1 Hq.out.1)
      have Hk := Lib.hid hk
      clear hb hk HC HS
      go_wp2_with fail
      refine HS1.out.mono ?_
      rintro x w2 ⟨rfl, F', hp2, hm2⟩
      have hb2 := (HN.out w1 w2 F' Hq.out Hk.out hp2 hm2).1.blk
      have HF2 := Lib.hid (HF.out w1 w2 F' Hq.out Hk.out hp2 hm2)
      have e2 := hb2.cell 2
      have e3 := hb2.cell 3
      have f3 := hb2.frozen 3
      simp only [List.getElem?_toArray, List.getElem?_cons_zero, List.getElem?_cons_succ] at e2 e3
      clear hp2 hm2 hb2 HS1 HF HN c0
      go_wp2
      go_ret
      unfold RActed
      rw [HR.out]
      exact ⟨rfl, HF2.out⟩
    · have HR : Hid (s.sync d = (r, { s with gone := true }, d1)) := HSY.out.trans (if_neg hr0)
      have hne : (r != 0) = true := by simpa using hr0
      have HF : Hid (∀ w1 w2 F', RD w1 F M d ∧ RWl w1 G g M d.bytes s v vals → Kp (· = g) w w1 → RD w2 F' M d1 → Mv F F' w1 w2 → ∃ H', RB (w2.setCell ⟨g, 4, none⟩ (.bool true)) H' g M d1 { s with gone := true } ∧ Mv H H' w (w2.setCell ⟨g, 4, none⟩ (.bool true))) := fun w1 w2 F' q1 hk1 q2 hm => by
        obtain ⟨a1, a2, a3, a4, a5, a6⟩ := hHH.out
        obtain ⟨b1, b2, b3, b4⟩ := HN.out w1 w2 F' q1 hk1 q2 hm
        have hk5 : Kp (· = g) w2 (w2.setCell ⟨g, 4, none⟩ (.bool true)) := Kp.set_ (F := (· = g)) (p := ⟨g, 4, none⟩) rfl _
        have hok5 := Hok2.out
        rw [HR.out] at hok5
        exact rb_step a2 a3 (q2.kp hk5 (fun k hf e => by have e : k = g := e; subst e; exact b4 _ hf a5)) (b1.turn hk5 (b1.blk.set_ 4 _) rfl (by rw [Hby.out]; exact hok5)) b4 (b2.trans (hk5.mono fun k e => .inr (by have e : k = g := e; rw [e]; exact a5))) b3 (fun k e => .inl e) a4 (fun e => by cases e)
      clear hr0
      go_enter Tryz.func71, Tryz.ntmps71
      go_wp2_with fail
      refine HC.out.mono ?_
      rintro x w1 ⟨rfl, hb, hk⟩
      have Hq := Lib.hid (HG.out w1 (by rw [Hgn.out]; exact hb) hk)
      have c0 := hb.cell 0
      simp only [List.getElem?_toArray, List.getElem?_cons_zero] at c0
      have HS1 := Lib.hid (HS.out w1 Hq.out.1)
      have Hk := Lib.hid hk
      clear hb hk HC HS
      go_wp2_with fail
      refine HS1.out.mono ?_
      rintro x w2 ⟨rfl, F', hp2, hm2⟩
      have hb2 := (HN.out w1 w2 F' Hq.out Hk.out hp2 hm2).1.blk
      have HF2 := Lib.hid (HF.out w1 w2 F' Hq.out Hk.out hp2 hm2)
      have e4 := hb2.cell 4
      have f4 := hb2.frozen 4
      simp only [List.getElem?_toArray, List.getElem?_cons_zero, List.getElem?_cons_succ] at e4
      clear hp2 hm2 hb2 HS1 HF HN c0
      go_wp2
      go_ret
      unfold RActed
      rw [HR.out]
      exact ⟨rfl, HF2.out⟩
end Go.Proofs.YtfepjgafamaegaaGreat

/- The document's log: Append. -/
namespace Go.Proofs.YtfepjgafamaegaaGreat
open Go.RowKit

section
variable {W w3 : World} {G : Nat → Prop} {g M n B : Nat} {s : Lg} {v v' : Value} {vals : List Value} {A : Option Addr} {k c : Nat} {l : List UInt8}
/-- A record more. -/
theorem RWl.pushed (h : RWl W G g M n s v vals) (ho : W.ownsRow B 5 1 (.slice A k c) k (u8s l)) (hB : B ≤ W.heap.size)
    (ha : App W w3 0 23 1 v v' vals.length 1 vals [.slice A k c]) (hok : ({ s with recs := s.recs ++ [l] } : Lg).Ok n) :
    RWl (w3.setCell ⟨g, 2, none⟩ v') (fun k => G k ∨ (B ≤ k ∧ k < w3.heap.size)) g M n { s with recs := s.recs ++ [l] } v' (vals ++ [.slice A k c]) ∧ Kp G W (w3.setCell ⟨g, 2, none⟩ v') := by
  have hk3 : Kp (fun k => v.ownBlock = some k) W w3 := Kp.of_row ha.grow (fun g e => e)
  have kb := h.blk.kp hk3 (fun e => h.ne e)
  have hg := h.lt g h.self
  have hk4 : Kp (· = g) w3 (w3.setCell ⟨g, 2, none⟩ v') := Kp.set_ (F := (· = g)) (p := ⟨g, 2, none⟩) rfl _
  have hne : v'.ownBlock ≠ some g := by
    rcases ha.block with h1 | h1
    · rw [h1]; exact h.ne
    · rw [h1]; intro e; injection e with e; omega
  have hsz : (w3.setCell ⟨g, 2, none⟩ v').heap.size = w3.heap.size := by simp [World.setCell]
  have hw3 := hk3.size
  have hnew : v'.ownBlock = some W.heap.size → W.heap.size < w3.heap.size := fun e => by
    have := (ha.own.lt _ e).2; exact this
  have hl0 : LstV w3 (fun k => G k ∨ (B ≤ k ∧ k < w3.heap.size)) v' (vals ++ [.slice A k c]) (s.recs ++ [l]) := by
    have hp := LstV.push (G' := fun k => G k ∨ B ≤ k) h.lst (own_mono ho (Nat.zero_le _)) (fun k e => .inr (ho.lt k e).1) (fun k e => .inl e) (.inr hB) ha
    refine ⟨hp.row, fun k e => ?_, hp.len, fun i x hx => ?_⟩
    · rcases hp.inG k e with h1 | h1
      · exact .inl h1
      · exact .inr ⟨h1, (hp.row.lt k e).2⟩
    · obtain ⟨A', n', c', e, q1, q2⟩ := hp.each i x hx
      refine ⟨A', n', c', e, q1, fun k e => ?_⟩
      rcases q2 k e with h1 | h1
      · exact .inl h1
      · exact .inr ⟨h1, (q1.lt k e).2⟩
  refine ⟨⟨.inl h.self, fun k e => ?_, hok, kb.set_ 2 v', ?_, hne⟩, (hk3.mono fun k e => h.lst.inG k e).trans (hk4.mono fun k e => by have e : k = g := e; rw [e]; exact h.self)⟩
  · rw [hsz]
    rcases e with e | e
    · exact Nat.lt_of_lt_of_le (h.lt k e) hw3
    · exact e.2
  · exact hl0.set_ hk4 hne (fun cs e => by
      have := bk_heap kb
      rw [this] at e
      injection e with e
      injection e with _ e _
      exact absurd e (by decide))
/-- The disk turned, and the log's own cells. -/
theorem RWl.turnF {w w' : World} {F : Nat → Prop} {s' : Lg} (h : RWl w G g M n s v vals) (hk : Kp (fun k => F k ∨ k = g) w w') (hFG : ∀ k, F k → ¬ G k) (hb : Bk w' g 69 #[.pointer (some ⟨M, 0, none⟩), .int .u64 s'.epoch, v, .int .i64 s'.safe, .bool s'.gone]) (hr : s'.recs = s.recs) (hok : s'.Ok n) : RWl w' G g M n s' v vals :=
  ⟨h.self, fun k e => Nat.lt_of_lt_of_le (h.lt k e) hk.size, hok, hb, by
    rw [hr]
    refine ⟨own_kp h.lst.row hk fun k e e2 => ?_, h.lst.inG, h.lst.len, fun i x hx => ?_⟩
    · rcases e2 with e2 | e2
      · exact hFG k e2 (h.lst.inG k e)
      · exact h.ne (by rw [e, e2])
    · obtain ⟨A, n, c, e, ho, hg⟩ := h.lst.each i x hx
      refine ⟨A, n, c, e, own_kp ho hk fun k e e2 => ?_, hg⟩
      rcases e2 with e2 | e2
      · exact hFG k e2 (hg k e)
      · rcases ho.2 with ⟨q, _⟩ | ⟨g', cap', cur', q, _, hh', _⟩
        · rw [q] at e; simp [Value.ownBlock] at e
        · rw [q] at e
          have e1 : g' = k := by simpa [Value.ownBlock] using e
          have hb0 := bk_heap h.blk
          rw [e1, e2, hb0] at hh'
          injection hh' with hh'
          injection hh' with _ hh' _
          exact absurd hh' (by decide), h.ne⟩
end

set_option maxRecDepth 100000 in
set_option maxHeartbeats 8000000 in
theorem rappend_any (g M : Nat) (d : Dk) (s : Lg) (H : Nat → Prop) (A : Option Addr) (nb cb : Nat) (b : List UInt8) (w : World) (hwl : d.waits.length ≤ 800000000) (h6 : 6 ≤ d.safe.length)
    (hnb : nb ≤ 140737488355328) (hb : Rd w w.heap.size A nb b) (hbH : ∀ ad, A = some ad → ¬ H ad.block) (h : RB w H g M d s) :
    Calls Tryz.prog 68 #[.pointer (some ⟨g, 0, none⟩), .slice A nb cb] w (RActed w H g M (s.append d b)) := by
  obtain ⟨F, G, v, vals, hp, hw, hFG, hFH, hGH, hH, hdn⟩ := h
  have hok := hw.ok
  have hlen := hp.len
  have hbs : d.bytes ≤ 40000 := by unfold Dk.bytes Dk.half halfN; omega
  have hgF : ¬ F g := fun hf => hFG _ hf hw.self
  have hbl := hb.1
  have HC := Lib.hid (rgone_meth g M d s v w hdn hw.blk hp.downCell)
  have HG : Hid (∀ w1, Bk w1 g 69 #[.pointer (some ⟨M, 0, none⟩), .int .u64 s.epoch, v, .int .i64 s.safe, .bool s.gone] → Kp (· = g) w w1 → RD w1 F M d ∧ RWl w1 G g M d.bytes s v vals ∧ Rd w1 w1.heap.size A nb b ∧ Kp G w w1) := fun w1 hb1 hk =>
    ⟨hp.kp hk (fun k hf e => by have e : k = g := e; subst e; exact hgF hf), hw.turn hk hb1 rfl hok, (hb.kpA hk (fun ad e e2 => by have e2 : ad.block = g := e2; exact hbH ad e (by rw [e2]; exact hGH _ hw.self))).more hk.size, hk.mono fun k e => by have e : k = g := e; rw [e]; exact hw.self⟩
  have HRM : Hid (∀ w1, RD w1 F M d ∧ RWl w1 G g M d.bytes s v vals ∧ Rd w1 w1.heap.size A nb b ∧ Kp G w w1 → Calls Tryz.prog 100 #[.pointer (some ⟨g, 0, none⟩)] w1 fun x w' => x = .returned (.int .i64 (s.room d : Nat)) ∧ Below w1.heap.size w1 w') := fun w1 q =>
    rroom_meth g M d F G s.recs v vals w1 h6 hok.fits hok.small q.2.1.lst q.1 (q.2.1.blk.cell 0) (q.2.1.blk.cell 2)
  -- what holds behind what makes memory only
  have HB : Hid (∀ w1 w2, RD w1 F M d ∧ RWl w1 G g M d.bytes s v vals ∧ Rd w1 w1.heap.size A nb b ∧ Kp G w w1 → Below w1.heap.size w1 w2 → RD w2 F M d ∧ RWl w2 G g M d.bytes s v vals ∧ Rd w2 w2.heap.size A nb b ∧ Kp G w w2) := fun w1 w2 q hb2 =>
    ⟨q.1.below hb2, q.2.1.below hb2, q.2.2.1.up hb2, q.2.2.2.trans (Kp.of_below hb2)⟩
  have hHH : Hid ((∀ k, F k → ¬ G k) ∧ (∀ k, F k → H k) ∧ (∀ k, G k → H k) ∧ (∀ k, H k → k < w.heap.size) ∧ G g ∧ ¬ F g ∧ (s.gone = false → d.down = false) ∧ ∀ k, G k → k < w.heap.size) := ⟨hFG, hFH, hGH, hH, hw.self, hgF, hdn, hw.lt⟩
  have HEnd : Hid (∀ w1, RD w1 F M d ∧ RWl w1 G g M d.bytes s v vals ∧ Rd w1 w1.heap.size A nb b ∧ Kp G w w1 → ∃ H', RB w1 H' g M d s ∧ Mv H H' w w1) := fun w1 q => by
    obtain ⟨a1, a2, a3, a4, a5, a6, a7, a8⟩ := hHH.out
    exact rb_step a2 a3 q.1 q.2.1 a1 (q.2.2.2.mono fun k e => .inr e) (fun k e => .inl e) (fun k e => .inl e) a4 a7
  have hrm : s.room d < b.length + 10 ↔ d.bytes < usedF s.recs + (10 + b.length) := by unfold Lg.room; have := hok.fits; omega
  have hroom : s.room d ≤ 40000 := by unfold Lg.room; omega
  cases hgone : s.gone with
  | true =>
    have HR : Hid (s.append d b = (6, s, d)) := by show _ = _; unfold Lg.append; rw [if_pos hgone]
    rw [hgone] at HC
    have Hgn := Lib.hid hgone
    clear hp hw hok hFG hFH hGH hH hdn hgF hb hbH hgone hrm hbl hlen
    go_enter Tryz.func68, Tryz.ntmps68
    go_wp2_with fail
    refine HC.out.mono ?_
    rintro x w1 ⟨rfl, hb1, hk⟩
    have Hq := Lib.hid (HG.out w1 (by rw [Hgn.out]; exact hb1) hk)
    have HRM1 := Lib.hid (HRM.out w1 Hq.out)
    clear hb1 hk HC HRM HG
    go_wp2_with fail
    refine HRM1.out.mono ?_
    rintro x w2 ⟨rfl, hb2⟩
    have HF := Lib.hid (HEnd.out w2 (HB.out w1 w2 Hq.out hb2))
    clear hb2 HRM1 HEnd HB
    go_wp2
    go_ret
    unfold RActed
    rw [HR.out]
    exact ⟨rfl, HF.out⟩
  | false =>
    rw [hgone] at HC
    have Hgn := Lib.hid hgone
    by_cases h1 : 1024 < nb
    · have HR : Hid (s.append d b = (3, s, d)) := by
        show _ = _
        unfold Lg.append
        rw [if_neg (by simp [hgone]), if_pos (by omega)]
      clear hp hw hok hFG hFH hGH hH hdn hgF hb hbH hgone hrm hbl hlen
      go_enter Tryz.func68, Tryz.ntmps68
      go_wp2_with fail
      refine HC.out.mono ?_
      rintro x w1 ⟨rfl, hb1, hk⟩
      have Hq := Lib.hid (HG.out w1 (by rw [Hgn.out]; exact hb1) hk)
      have HRM1 := Lib.hid (HRM.out w1 Hq.out)
      clear hb1 hk HC HRM HG
      go_wp2_with fail
      refine HRM1.out.mono ?_
      rintro x w2 ⟨rfl, hb2⟩
      have HF := Lib.hid (HEnd.out w2 (HB.out w1 w2 Hq.out hb2))
      clear hb2 HRM1 HEnd HB
      go_wp2
      go_ret
      unfold RActed
      rw [HR.out]
      exact ⟨rfl, HF.out⟩
    · by_cases h2 : s.room d < nb + 10
      · have HR : Hid (s.append d b = (5, s, d)) := by
          show _ = _
          unfold Lg.append
          rw [if_neg (by simp [hgone]), if_neg (by omega), if_pos (by omega)]
        have h2i : ((s.room d : Nat) : Int) < (nb : Int) + 10 := by omega
        clear hp hw hok hFG hFH hGH hH hdn hgF hb hbH hgone hrm hbl hlen h2
        go_enter Tryz.func68, Tryz.ntmps68
        go_wp2_with fail
        refine HC.out.mono ?_
        rintro x w1 ⟨rfl, hb1, hk⟩
        have Hq := Lib.hid (HG.out w1 (by rw [Hgn.out]; exact hb1) hk)
        have HRM1 := Lib.hid (HRM.out w1 Hq.out)
        clear hb1 hk HC HRM HG
        go_wp2_with fail
        refine HRM1.out.mono ?_
        rintro x w2 ⟨rfl, hb2⟩
        have HF := Lib.hid (HEnd.out w2 (HB.out w1 w2 Hq.out hb2))
        clear hb2 HRM1 HEnd HB
        go_wp2
        go_ret
        unfold RActed
        rw [HR.out]
        exact ⟨rfl, HF.out⟩
      · have h2i : ¬ ((s.room d : Nat) : Int) < (nb : Int) + 10 := by omega
        have hap1 : s.append d b = if (s.laid d b).1 = 0 then (0, { s with recs := s.recs ++ [b] }, (s.laid d b).2) else ((s.laid d b).1, { s with recs := s.recs ++ [b], gone := true }, (s.laid d b).2) := by
          unfold Lg.append
          rw [if_neg (by simp [hgone]), if_neg (by omega), if_neg (by omega)]
        have hs2 : ∀ r ∈ s.recs ++ [b], r.length ≤ 1024 := fun r hr => by
          rcases List.mem_append.1 hr with hr | hr
          · exact hok.small r hr
          · simp only [List.mem_singleton] at hr; subst hr; omega
        have hu2 : usedF (s.recs ++ [b]) = usedF s.recs + (10 + nb) := by rw [usedF_app, usedF_one, hbl]
        have hfits := hok.fits
        have hf2 : usedF (s.recs ++ [b]) ≤ d.bytes := by rw [hu2]; unfold Lg.room at h2; omega
        have hok2 : ∀ gn, ({ s with recs := s.recs ++ [b], gone := gn } : Lg).Ok d.bytes := fun gn => ⟨hs2, hf2, hok.epoch, by have := hok.safe; simp; omega⟩
        have hHb : d.half ≤ 1024 := by unfold Dk.half halfN; omega
        have hbe : d.bytes = d.half * 32 := rfl
        have hlay : s.laid d b = layS (fullF d.bytes (s.recs ++ [b])) (d.base s.epoch) (usedF s.recs / 32) ((usedF (s.recs ++ [b]) - 1) / 32 + 1 - usedF s.recs / 32) d := rfl
        have hby : (s.laid d b).2.bytes = d.bytes := bytes_of (by rw [hlay]; exact layS_len _ _ _ _ _)
        have hdown : (s.laid d b).1 = 0 → (s.laid d b).2.down = false := by rw [hlay]; exact layS_down _ _ _ _ _ (hdn hgone)
        have hcnt := usedF_count s.recs
        have hvl : vals.length ≤ 4000 := by have := hw.lst.len; omega
        have HU : Hid (∀ w1, RD w1 F M d ∧ RWl w1 G g M d.bytes s v vals ∧ Rd w1 w1.heap.size A nb b ∧ Kp G w w1 → Calls Tryz.prog 101 #[.pointer (some ⟨g, 0, none⟩)] w1 fun x w' => x = .returned (.int .i64 (usedF s.recs : Nat)) ∧ Below w1.heap.size w1 w') := fun w1 q =>
          rused_meth g d.bytes G s.recs v vals w1 hbs hok.fits hok.small q.2.1.lst (q.2.1.blk.cell 2)
        have HU2 : Hid (∀ w1 G' v' vals', RWl w1 G' g M d.bytes { s with recs := s.recs ++ [b] } v' vals' → Calls Tryz.prog 101 #[.pointer (some ⟨g, 0, none⟩)] w1 fun x w' => x = .returned (.int .i64 (usedF (s.recs ++ [b]) : Nat)) ∧ Below w1.heap.size w1 w') := fun w1 G' v' vals' q =>
          rused_meth g d.bytes G' (s.recs ++ [b]) v' vals' w1 hbs hf2 hs2 q.lst (q.blk.cell 2)
        have HFU : Hid (∀ w1 G' A' n' c' vals', RD w1 F M d → RWl w1 G' g M d.bytes { s with recs := s.recs ++ [b] } (.slice A' n' c') vals' → Calls Tryz.prog 102 #[.pointer (some ⟨g, 0, none⟩), .slice A' n' c'] w1 fun x w' => ∃ ga ca, x = .returned (.slice (some ⟨ga, 0, none⟩) d.bytes ca) ∧ w'.ownsRow w1.heap.size 5 1 (.slice (some ⟨ga, 0, none⟩) d.bytes ca) d.bytes (u8s (fullF d.bytes (s.recs ++ [b]))) ∧ Below w1.heap.size w1 w' ∧ d.bytes ≤ ca ∧ ca ≤ 9223372036854775807) := fun w1 G' A' n' c' vals' q1 q2 => by
          obtain ⟨A2, c2, e2, p1, p2, p3⟩ := q2.lst.parts
          injection e2 with e3 e4 e5
          subst e3 e4 e5
          refine (rfull_meth g M d F A' _ c' (s.recs ++ [b]) w1 h6 (by unfold maxLen at p2; exact Nat.le_trans p1 (by omega)) hf2 hs2 p3 q1 (q2.blk.cell 0)).mono ?_
          rintro x w' ⟨Aa, ca, rfl, ho, hb⟩
          rw [full_len _ _ hf2] at ho ⊢
          obtain ⟨ga, ca', e6⟩ := own_someR ho (by omega)
          obtain ⟨A3, c3, e7, p4, p5⟩ := own_shape ho
          injection e6 with e8 _ e9
          injection e7 with e10 _ e11
          subst e8 e9 e11
          exact ⟨ga, ca, rfl, ho, hb, p4, by unfold maxLen at p5; omega⟩
        have HL : Hid (∀ w1 w2 G' v' vals' ga ca, RD w1 F M d → RWl w1 G' g M d.bytes { s with recs := s.recs ++ [b] } v' vals' → w1.ownsRow w.heap.size 5 1 (.slice (some ⟨ga, 0, none⟩) d.bytes ca) d.bytes (u8s (fullF d.bytes (s.recs ++ [b]))) → d.bytes ≤ ca → ca ≤ 9223372036854775807 → Below w1.heap.size w1 w2 →
            Calls Tryz.prog 103 #[.pointer (some ⟨g, 0, none⟩), .int .u64 s.epoch, .slice (some ⟨ga, 0, none⟩) d.bytes ca, .int .i64 ((usedF s.recs / 32 : Nat) : Int), .int .i64 (((usedF (s.recs ++ [b]) - 1) / 32 : Nat) : Int)] w2 (RLaid w2 F g M (.int .u64 s.epoch) v' (.int .i64 s.safe) (s.laid d b))) := fun w1 w2 G' v' vals' ga ca q1 q2 q3 q4 q5 hb => by
          have hga := q3.lt ga rfl
          have q2' := q2.below hb
          have q3' := own_below q3 hb (fun k e => by injection e with e; subst e; exact hga.2)
          have hblk := q2'.blk
          rw [show ({ s with recs := s.recs ++ [b] } : Lg).gone = false from hgone] at hblk
          refine rlay_meth g M s.epoch (usedF s.recs / 32) ((usedF (s.recs ++ [b]) - 1) / 32) d.bytes ca ga _ _ _ (fullF d.bytes (s.recs ++ [b])) d F w2 (by have := hok.epoch; omega) h6 (by omega) (by omega) (by rw [hu2] at hf2 ⊢; omega) rfl q4 q5 hgF (fun hf => ?_) (Rd.of_own q3') (q1.below hb) hblk
          have := hp.lt _ hf
          omega
        have HCP : Hid (∀ W, Rd W W.heap.size A nb b → Calls Tryz.prog 22 #[.slice A nb cb] W fun e w' => ∃ v, e = .returned v ∧ w'.ownsRow W.heap.size 5 1 v nb (u8s b) ∧ Below W.heap.size W w') := fun W q => copy_any A nb cb W.heap.size b W hnb q
        have Hok2 := Lib.hid hok2
        have Hap := Lib.hid hap1
        have Hby := Lib.hid hby
        have Hdown := Lib.hid hdown
        have hu0b : usedF s.recs ≤ 40000 := by omega
        have hu1b : usedF (s.recs ++ [b]) ≤ 40000 := by omega
        have hu1p : 1 ≤ usedF (s.recs ++ [b]) := by omega
        have hsz := hH
        obtain ⟨i0, hi0, hz0, hz1, hz2⟩ := info_parts Tryz.infoBytes
        have Hi0 := Lib.hid hi0
        have Hz0 := Lib.hid hz0
        have Hz1 := Lib.hid hz1
        have Hz2 := Lib.hid hz2
        clear hi0 hz0 hz1 hz2 hp hw hok hFG hFH hGH hH hdn hgF hb hbH hgone hrm hbl hlen h2 hs2 hu2 hfits hf2 hok2 hHb hbe hlay hby hdown hcnt hap1 hsz hroom hbs
        generalize hU0 : usedF s.recs = u0 at *
        generalize hU1 : usedF (s.recs ++ [b]) = u1 at *
        obtain ⟨j0, hj0⟩ : ∃ j0, u0 / 32 = j0 := ⟨_, rfl⟩
        obtain ⟨j1, hj1⟩ : ∃ j1, (u1 - 1) / 32 = j1 := ⟨_, rfl⟩
        have hj0i : (u0 : Int) / 32 = (j0 : Int) := by omega
        have hj1i : ((u1 : Int) - 1) / 32 = (j1 : Int) := by omega
        rw [hj0, hj1] at HL
        clear hj0 hj1 hU0 hU1
        go_enter Tryz.func68, Tryz.ntmps68
        go_wp2_with fail
        refine HC.out.mono ?_
        rintro x w1 ⟨rfl, hb1, hk⟩
        have Hq := Lib.hid (HG.out w1 (by rw [Hgn.out]; exact hb1) hk)
        have HRM1 := Lib.hid (HRM.out w1 Hq.out)
        clear hb1 hk HC HRM HG
        go_wp2_with fail
        refine HRM1.out.mono ?_
        rintro x w2 ⟨rfl, hb2⟩
        have Hq2 := Lib.hid (HB.out w1 w2 Hq.out hb2)
        have HU1 := Lib.hid (HU.out w2 Hq2.out)
        clear hb2 HRM1 Hq
        go_wp2_with fail
        refine HU1.out.mono ?_
        rintro x w3 ⟨rfl, hb3⟩
        have Hq3 := Lib.hid (HB.out w2 w3 Hq2.out hb3)
        have HB3 : Hid (∀ w4, Below w3.heap.size w3.drew w4 → RD w4 F M d ∧ RWl w4 G g M d.bytes s v vals ∧ Rd w4 w4.heap.size A nb b ∧ Kp G w w4) := fun w4 hb4 => HB.out w3 w4 Hq3.out ((Below.refl _ _).drew.trans hb4)
        clear hb3 HU1 Hq2 HU HB
        have c2 := Hq3.out.2.1.blk.cell 2
        have f2 := Hq3.out.2.1.blk.frozen 2
        simp only [List.getElem?_toArray, List.getElem?_cons_zero, List.getElem?_cons_succ] at c2
        have HCP1 := Lib.hid (HCP.out w3.drew (HB3.out w3.drew (Below.refl _ _)).2.2.1)
        obtain ⟨⟨r, d9⟩, hr⟩ : ∃ p, s.laid d b = p := ⟨_, rfl⟩
        rw [hr] at HL Hap Hby Hdown
        simp only at Hap
        clear hr
        have hw3 : w.heap.size ≤ w3.heap.size := Hq3.out.2.2.2.size
        have Hw3 := Lib.hid hw3
        clear hw3
        go_wp2
        go_region_law (first | ((refine step_append_app _ rfl _ _ 67 (by rfl) 0 23 i0 (.slice none 0 0) 1 24 Tryz.underlying67 Hi0.out Hz0.out Hz1.out Hz2.out rfl v vals.length vals (by rfl) (Hown.out (.cells #[.slice Ac nb cc] 23)) (some ⟨w4.heap.size, 0, none⟩) 1 1 [.slice Ac nb cc] (by rfl) rfl (by intro e; cases e) (one_new _ _ _ rfl) (by intro u hu; simp at hu; subst hu; rfl) (by unfold maxLen; omega) (by omega) (by simp) ?_); intro v' w5 happ; (have hk3 : Kp (fun k => v.ownBlock = some k) _ w5 := Kp.of_row happ.grow (fun g e => e)); (have kb := (Hd.out (.cells #[.slice Ac nb cc] 23)).2.1.blk.kp hk3 (fun e => (Hd.out (.cells #[.slice Ac nb cc] 23)).2.1.ne e)); (have k2 := kb.cell 2); (have kf := kb.frozen 2); (obtain ⟨Av, cv, rfl, _⟩ := own_shape happ.own)) | (go_simp; go_at_call 22; (refine HCP1.out.mono ?_; rintro x w4 ⟨vc, rfl, hoc, hbc⟩; (obtain ⟨Ac, cc, rfl, _⟩ := own_shape hoc); (have Hd : Hid (∀ o, RD (w4.alloc o) F M d ∧ RWl (w4.alloc o) G g M d.bytes s v vals ∧ Rd (w4.alloc o) (w4.alloc o).heap.size A nb b ∧ Kp G w (w4.alloc o)) := fun o => HB3.out _ (hbc.alloc hbc.size o)); (have Hown : Hid (∀ o, (w4.alloc o).ownsRow 0 23 1 v vals.length vals) := fun o => (Hd.out o).2.1.lst.row); (have c2b : w4.cell? ⟨g, 2, none⟩ = some v := (HB3.out w4 hbc).2.1.blk.cell 2); (have c2c : ∀ o, (w4.alloc o).cell? ⟨g, 2, none⟩ = some v := fun o => (Hd.out o).2.1.blk.cell 2); (have Hoc := Lib.hid hoc); (have Hbc := Lib.hid hbc); clear hoc hbc)))
        all_goals
          have hq := Hd.out (.cells #[.slice Ac nb cc] 23)
          have hoc2 : (w4.alloc (.cells #[.slice Ac nb cc] 23)).ownsRow w.heap.size 5 1 (.slice Ac nb cc) nb (u8s b) := own_mono (own_below Hoc.out ((Below.refl w4.heap.size w4).alloc (Nat.le_refl _) (.cells #[.slice Ac nb cc] 23)) (fun k e => (Hoc.out.lt k e).2)) Hw3.out
          obtain ⟨hP, hPk⟩ := RWl.pushed hq.2.1 hoc2 hq.2.2.2.size happ (Hok2.out _)
          obtain ⟨a1, a2, a3, a4, a5, a6, a7, a8⟩ := hHH.out
          have hR6 := hq.1.kp hPk a1
          have hk6 := hq.2.2.2.trans hPk
          have HG6 : Hid (∀ k, (G k ∨ (w.heap.size ≤ k ∧ k < w5.heap.size)) → ¬ F k) := fun k e hf => by
            have h1 := a4 k (a2 k hf)
            rcases e with e | e
            · exact a1 k hf e
            · omega
          have HG6b : Hid (∀ k, (G k ∨ (w.heap.size ≤ k ∧ k < w5.heap.size)) → G k ∨ w.heap.size ≤ k) := fun k e => e.imp id And.left
          generalize hG6 : (fun k => G k ∨ (w.heap.size ≤ k ∧ k < w5.heap.size)) = G6 at hP
          have HG6 : Hid (∀ k, G6 k → ¬ F k) := by rw [← hG6]; exact HG6
          have HG6b : Hid (∀ k, G6 k → G k ∨ w.heap.size ≤ k) := by rw [← hG6]; exact HG6b
          generalize w5.setCell ⟨g, 2, none⟩ (.slice Av (vals.length + 1) cv) = w6 at *
          have Hq6 : Hid (RD w6 F M d ∧ RWl w6 G6 g M d.bytes { s with recs := s.recs ++ [b] } (.slice Av (vals.length + 1) cv) (vals ++ [.slice Ac nb cc]) ∧ Kp G w w6) := ⟨hR6, hP, hk6⟩
          have e2 := hP.blk.cell 2
          have HF6 := Lib.hid (HFU.out w6 G6 _ _ _ _ hR6 hP)
          simp only [List.getElem?_toArray, List.getElem?_cons_zero, List.getElem?_cons_succ] at e2
          clear hq hoc2 hP hPk hR6 hk6 happ hk3 kb k2 kf c2 c2b c2c f2 Hd Hown Hoc Hbc HB3 HCP HCP1 HFU hG6 Hq3 a1 a2 a3 a4 a5 a6 a7 a8
          go_wp2_with fail
          refine HF6.out.mono ?_
          rintro x w7 ⟨ga, ca, rfl, ho7, hb7, p1, p2⟩
          have Hq7 : Hid (RD w7 F M d ∧ RWl w7 G6 g M d.bytes { s with recs := s.recs ++ [b] } (.slice Av (vals.length + 1) cv) (vals ++ [.slice Ac nb cc]) ∧ Kp G w w7) := ⟨Hq6.out.1.below hb7, Hq6.out.2.1.below hb7, Hq6.out.2.2.trans (Kp.of_below hb7)⟩
          have Ho7 : Hid (w7.ownsRow w.heap.size 5 1 (.slice (some ⟨ga, 0, none⟩) d.bytes ca) d.bytes (u8s (fullF d.bytes (s.recs ++ [b])))) := own_mono ho7 Hq6.out.2.2.size
          have e1 := Hq7.out.2.1.blk.cell 1
          simp only [List.getElem?_toArray, List.getElem?_cons_zero, List.getElem?_cons_succ] at e1
          have HU7 := Lib.hid (HU2.out w7.drew G6 _ _ (Hq7.out.2.1.below (Below.refl _ _).drew))
          clear ho7 hb7 HF6 Hq6 e2 HU2
          have hwr1 : IntKind.i64.wrap ((u1 : Int) - 1) = (u1 : Int) - 1 := by rw [IntKind.wrap_i64]; omega
          have hv0 : IntKind.i64.wrap (j0 : Int) = (j0 : Int) := by rw [IntKind.wrap_i64]; omega
          have hv1 : IntKind.i64.wrap (((u1 : Int) - 1).tdiv 32) = (j1 : Int) := by rw [Int.tdiv_eq_ediv_of_nonneg (by omega), hj1i, IntKind.wrap_i64]; omega
          go_wp2
          have hge0 : 0 ≤ (u1 : Int) - 1 := by omega
          clear HEnd Hi0 Hz0 Hz1 Hz2
          have e1d : w7.drew.cell? ⟨g, 1, none⟩ = some (.int .u64 s.epoch) := e1
          go_region_held3 (fun w' => w'.cell? ⟨g, 1, none⟩ = some (.int .u64 s.epoch)) (first | exact e1d | exact e1b | exact e1c)
            (first | (go_at_call 101; refine HU7.out.mono ?_; rintro x w8 ⟨rfl, hb8⟩; (have Hb8 : Hid (Below w7.heap.size w7 w8) := (Below.refl _ _).drew.trans hb8); (have e1b := (Hb8.out.cell (p := ⟨g, 1, none⟩) (World.block_lt_of_cell? _ _ e1)).trans e1); clear hb8) | (go_at_call 103; (try rw [hv0]); (try rw [hv1]); refine (HL.out w7 w8 G6 _ _ ga ca Hq7.out.1 Hq7.out.2.1 Ho7.out p1 p2 Hb8.out).mono ?_; rintro x w9 ⟨rfl, F9, hp9, hk9, hF9, hb9⟩; (have e1c := hb9.cell 1); (simp only [List.getElem?_toArray, List.getElem?_cons_zero, List.getElem?_cons_succ] at e1c)))
          all_goals
            obtain ⟨a1, a2, a3, a4, a5, a6, a7, a8⟩ := hHH.out
            have hq8 := Hq7.out.2.1.below Hb8.out
            have hkk : Kp (fun k => F k ∨ G k) w w9 := ((Hq7.out.2.2.trans (Kp.of_below Hb8.out)).mono fun k e => .inr e).trans (hk9.mono fun k e => e.imp id fun e => by have e : k = g := e; rw [e]; exact a5)
            have hF9w : ∀ k, F9 k → F k ∨ w.heap.size ≤ k := fun k hf => (hF9 k hf).imp id fun h => Nat.le_trans (Hq7.out.2.2.trans (Kp.of_below (F := G) Hb8.out)).size h
            have hd9 : ∀ k, F9 k → ¬ G6 k := fun k hf hg => by
              rcases hF9 k hf with h | h
              · exact HG6.out k hg h
              · have := hq8.lt k hg; omega
            have HFin : Hid (∃ H', RB w9 H' g M (s.append d b).2.2 (s.append d b).2.1 ∧ Mv H H' w w9) := by
              by_cases hr0 : r = 0
              · have HR : s.append d b = (0, { s with recs := s.recs ++ [b] }, d9) := Hap.out.trans (if_pos hr0)
                rw [HR]
                have hfl : decide (r ≠ 0) = s.gone := by rw [Hgn.out]; simp [hr0]
                try simp only at hb9
                rw [hfl] at hb9
                exact rb_step a2 a3 hp9 (by rw [Hby.out]; exact hq8.turnF (s' := { s with recs := s.recs ++ [b] }) hk9 (fun k hf hg => HG6.out k hg hf) hb9 rfl (Hok2.out _)) hd9 hkk hF9w HG6b.out a4 (fun _ => Hdown.out hr0)
              · have HR : s.append d b = (r, { s with recs := s.recs ++ [b], gone := true }, d9) := Hap.out.trans (if_neg hr0)
                rw [HR]
                have hfl : decide (r ≠ 0) = true := by simp [hr0]
                try simp only at hb9
                rw [hfl] at hb9
                exact rb_step a2 a3 hp9 (by rw [Hby.out]; exact hq8.turnF (s' := { s with recs := s.recs ++ [b], gone := true }) hk9 (fun k hf hg => HG6.out k hg hf) hb9 rfl (Hok2.out _)) hd9 hkk hF9w HG6b.out a4 (fun e => by cases e)
            have HR1 : Hid ((s.append d b).1 = r) := by
              show _ = _
              rw [Hap.out]
              by_cases hr0 : r = 0
              · rw [if_pos hr0, hr0]
              · rw [if_neg hr0]
            clear hq8 hkk hF9w hd9 hp9 hk9 hF9 hb9 e1 e1b hwr1 HU7 HL a1 a2 a3 a4 a5 a6 a7 a8
            go_wp2
            go_ret
            exact (⟨by rw [HR1.out], HFin.out⟩ : RActed w H g M (s.append d b) _ _)
end Go.Proofs.YtfepjgafamaegaaGreat

/- The document's log: Reset, its pieces: a head's bytes; the new records. -/
namespace Go.Proofs.YtfepjgafamaegaaGreat
open Go.RowKit

theorem settle_down {d : Dk} {e : Nat} {l : List (List UInt8)} (h : (settleS d e l).1 = 0) : (settleS d e l).2.down = false := by
  unfold settleS at h ⊢
  split
  · rename_i h1; rw [if_pos h1] at h; exact absurd h h1
  rename_i h1
  rw [if_neg h1] at h
  split
  · rename_i h2; rw [if_pos h2] at h; exact absurd h h2
  rename_i h2
  rw [if_neg h2] at h
  split
  · rename_i h3; rw [if_pos h3] at h; exact absurd h h3
  rename_i h3
  rw [if_neg h3] at h
  exact sync_down h
/-- The new log's error is the document's. -/
theorem nextE_frames {N e : Nat} {l : List (List UInt8)} (hN : N ≤ 40000) : nextE N e l = if (framesA l).2 ≠ 0 then ((framesA l).2 : Int) else if N < (framesA l).1.length ∨ e + 1 = 4611686018427387904 then 5 else 0 := by
  unfold nextE framesA
  by_cases h1 : ∃ b ∈ l, 1024 < b.length
  · rw [if_pos h1, if_pos h1]; rfl
  · rw [if_neg h1, if_neg h1]
    by_cases h2 : 65536 < usedF l
    · rw [if_pos h2, if_pos (.inr (by omega))]; rfl
    · rw [if_neg h2]
      have h3 : (framesF l).length = usedF l := rfl
      simp only [h3]
      simp only [ne_eq, not_true_eq_false, ↓reduceIte]
      by_cases h4 : e + 1 = 4611686018427387904 ∨ N < usedF l
      · rw [if_pos h4, if_pos h4.symm]
      · rw [if_neg h4, if_neg (fun h => h4 h.symm)]

/-- Records' copies, one behind the other. -/
def NewL (w : World) (F : Nat → Prop) (g M : Nat) (B : Nat) (d : Dk) (ep nv dv : Value) (ls : List (List UInt8)) (k : Nat) (wr : World) : Prop :=
  ∃ v vals, RD wr F M d ∧ Bk wr g 69 #[.pointer (some ⟨M, 0, none⟩), ep, v, nv, dv] ∧ LstV wr (fun q => B ≤ q ∧ q < wr.heap.size) v vals (ls.take k) ∧ v.ownBlock ≠ some g ∧ Kp (fun q => q = g ∨ B ≤ q) w wr ∧ B ≤ wr.heap.size
theorem NewL.next {w W w3 : World} {F : Nat → Prop} {g M B : Nat} {d : Dk} {ep nv dv : Value} {ls : List (List UInt8)} {k : Nat} {v v' : Value} {vals : List Value} {A : Option Addr} {n c : Nat} (hk : k < ls.length)
    (hF : ∀ q, F q → q < B ∧ q ≠ g) (hD : RD W F M d) (hb : Bk W g 69 #[.pointer (some ⟨M, 0, none⟩), ep, v, nv, dv]) (hl : LstV W (fun q => B ≤ q ∧ q < W.heap.size) v vals (ls.take k)) (hne : v.ownBlock ≠ some g)
    (hkp : Kp (fun q => q = g ∨ B ≤ q) w W) (hB : B ≤ W.heap.size) (ho : W.ownsRow B 5 1 (.slice A n c) n (u8s ls[k])) (ha : App W w3 0 23 1 v v' vals.length 1 vals [.slice A n c]) :
    NewL w F g M B d ep nv dv ls (k + 1) (w3.setCell ⟨g, 2, none⟩ v') := by
  have hk3 : Kp (fun k => v.ownBlock = some k) W w3 := Kp.of_row ha.grow (fun g e => e)
  have kb := hb.kp hk3 (fun e => hne e)
  have hgl := hb.lt
  have hk4 : Kp (· = g) w3 (w3.setCell ⟨g, 2, none⟩ v') := Kp.set_ (F := (· = g)) (p := ⟨g, 2, none⟩) rfl _
  have hne2 : v'.ownBlock ≠ some g := by
    rcases ha.block with h1 | h1
    · rw [h1]; exact hne
    · rw [h1]; intro e; injection e with e; omega
  have hsz : (w3.setCell ⟨g, 2, none⟩ v').heap.size = w3.heap.size := by simp [World.setCell]
  have hw3 := hk3.size
  have hl0 : LstV w3 (fun q => B ≤ q ∧ q < w3.heap.size) v' (vals ++ [.slice A n c]) (ls.take (k + 1)) := by
    rw [List.take_succ_eq_append_getElem hk]
    have hp := LstV.push (G' := fun q => B ≤ q) hl (own_mono ho (Nat.zero_le _)) (fun k e => (ho.lt k e).1) (fun k e => e.1) hB ha
    refine ⟨hp.row, fun k e => ⟨hp.inG k e, (hp.row.lt k e).2⟩, hp.len, fun i x hx => ?_⟩
    obtain ⟨A', n', c', e, q1, q2⟩ := hp.each i x hx
    exact ⟨A', n', c', e, q1, fun k e => ⟨q2 k e, (q1.lt k e).2⟩⟩
  have hkk : Kp (fun q => q = g ∨ B ≤ q) W (w3.setCell ⟨g, 2, none⟩ v') := (hk3.mono fun k e => .inr (hl.inG k e).1).trans (hk4.mono fun k e => .inl e)
  refine ⟨v', vals ++ [.slice A n c], hD.kp hkk (fun k hf e => ?_), kb.set_ 2 v', ?_, hne2, hkp.trans hkk, by rw [hsz]; omega⟩
  · have := hF k hf
    rcases e with e | e
    · exact this.2 e
    · omega
  · rw [hsz]
    exact hl0.set_ hk4 hne2 (fun cs e => by
      have := bk_heap kb
      rw [this] at e
      injection e with e
      injection e with _ e _
      exact absurd e (by decide))

/-- In the midst of a new log: the disk turned, the log's own cells stay. -/
structure RMid (w : World) (F G : Nat → Prop) (g M n : Nat) (s : Lg) (v : Value) (vals : List Value) (d' : Dk) (F' : Nat → Prop) (wx : World) : Prop where
  rd : RD wx F' M d'
  wl : RWl wx G g M n s v vals
  kp : Kp (fun k => F k ∨ G k) w wx
  new : ∀ k, F' k → F k ∨ w.heap.size ≤ k
  apart : ∀ k, F' k → ¬ G k
section
variable {w wx wy : World} {F G F' F'' H : Nat → Prop} {g M n : Nat} {s : Lg} {v : Value} {vals : List Value} {d' d'' : Dk}
theorem RMid.below (h : RMid w F G g M n s v vals d' F' wx) (hb : Below wx.heap.size wx wy) : RMid w F G g M n s v vals d' F' wy :=
  ⟨h.rd.below hb, h.wl.below hb, h.kp.trans (Kp.of_below hb), h.new, h.apart⟩
theorem RMid.step (h : RMid w F G g M n s v vals d' F' wx) (h2 : RD wy F'' M d'') (hm : Mv F' F'' wx wy) (hFG : ∀ k, G k → ¬ F k) (hG : ∀ k, G k → k < w.heap.size) : RMid w F G g M n s v vals d'' F'' wy := by
  have hN : ∀ k, F'' k → F k ∨ w.heap.size ≤ k := fun k hf => (hm.new k hf).elim (h.new k) fun e => .inr (Nat.le_trans h.kp.size e)
  refine ⟨h2, h.wl.kp hm.kp (fun k hg hf => h.apart k hf hg), ⟨h.kp.os ▸ hm.kp.os, h.kp.tape ▸ hm.kp.tape, h.kp.output ▸ hm.kp.output, Nat.le_trans h.kp.size hm.kp.size, fun k hk hf => ?_⟩, hN, fun k hf hg => ?_⟩
  · rw [hm.kp.block k (Nat.lt_of_lt_of_le hk h.kp.size) (fun hf' => by
      rcases h.new k hf' with e | e
      · exact hf (.inl e)
      · omega)]
    exact h.kp.block k hk hf
  · rcases hN k hf with e | e
    · exact hFG k hg e
    · have := hG k hg; omega
/-- It failed: the log is dead. -/
theorem RMid.err (h : RMid w F G g M n s v vals d' F' wx) (hFH : ∀ k, F k → H k) (hGH : ∀ k, G k → H k) (hH : ∀ k, H k → k < w.heap.size) (hn : d'.bytes = n) (hok : ({ s with gone := true } : Lg).Ok n) :
    ∃ H', RB (wx.setCell ⟨g, 4, none⟩ (.bool true)) H' g M d' { s with gone := true } ∧ Mv H H' w (wx.setCell ⟨g, 4, none⟩ (.bool true)) := by
  have hk5 : Kp (· = g) wx (wx.setCell ⟨g, 4, none⟩ (.bool true)) := Kp.set_ (F := (· = g)) (p := ⟨g, 4, none⟩) rfl _
  subst hn
  exact rb_step hFH hGH (h.rd.kp hk5 (fun k hf e => by have e : k = g := e; subst e; exact h.apart _ hf h.wl.self)) (h.wl.turn hk5 (h.wl.blk.set_ 4 _) rfl hok) h.apart (h.kp.trans (hk5.mono fun k e => .inr (by have e : k = g := e; rw [e]; exact h.wl.self))) h.new (fun k e => .inl e) hH (fun e => by cases e)
end
theorem Kp.fresh {w w' : World} {H : Nat → Prop} {B : Nat} (h : Kp (fun k => H k ∨ B ≤ k) w w') (hB : w.heap.size ≤ B) : Kp H w w' :=
  ⟨h.os, h.tape, h.output, h.size, fun k hk hf => h.block k hk fun e => e.elim hf fun e => by omega⟩
end Go.Proofs.YtfepjgafamaegaaGreat

/- The document's log: Reset. -/
namespace Go.Proofs.YtfepjgafamaegaaGreat
open Go.RowKit

set_option maxRecDepth 100000 in
set_option maxHeartbeats 8000000 in
theorem rreset_any (g M : Nat) (d : Dk) (s : Lg) (H : Nat → Prop) (A : Option Addr) (nl cl : Nat) (l : List (List UInt8)) (w : World) (hwl : d.waits.length ≤ 800000000) (h6 : 6 ≤ d.safe.length)
    (hnl : nl ≤ 9223372036854775807) (hst : ∀ w', Kp H w w' → Parts w' w'.heap.size A nl l) (h : RB w H g M d s) :
    Calls Tryz.prog 92 #[.pointer (some ⟨g, 0, none⟩), .slice A nl cl] w (RActed w H g M (s.reset d l)) := by
  obtain ⟨F, G, v, vals, hp, hw, hFG, hFH, hGH, hH, hdn⟩ := h
  have hok := hw.ok
  have hep := hok.epoch
  have hlen := hp.len
  have hbs : d.bytes ≤ 40000 := by unfold Dk.bytes Dk.half halfN; omega
  have hgF : ¬ F g := fun hf => hFG _ hf hw.self
  have HC := Lib.hid (rgone_meth g M d s v w hdn hw.blk hp.downCell)
  have HG : Hid (∀ w1, Bk w1 g 69 #[.pointer (some ⟨M, 0, none⟩), .int .u64 s.epoch, v, .int .i64 s.safe, .bool s.gone] → Kp (· = g) w w1 → RD w1 F M d ∧ RWl w1 G g M d.bytes s v vals ∧ Kp G w w1) := fun w1 hb1 hk =>
    ⟨hp.kp hk (fun k hf e => by have e : k = g := e; subst e; exact hgF hf), hw.turn hk hb1 rfl hok, hk.mono fun k e => by have e : k = g := e; rw [e]; exact hw.self⟩
  have HB : Hid (∀ w1 w2, RD w1 F M d ∧ RWl w1 G g M d.bytes s v vals ∧ Kp G w w1 → Below w1.heap.size w1 w2 → RD w2 F M d ∧ RWl w2 G g M d.bytes s v vals ∧ Kp G w w2) := fun w1 w2 q hb2 =>
    ⟨q.1.below hb2, q.2.1.below hb2, q.2.2.trans (Kp.of_below hb2)⟩
  have hHH : Hid ((∀ k, F k → ¬ G k) ∧ (∀ k, F k → H k) ∧ (∀ k, G k → H k) ∧ (∀ k, H k → k < w.heap.size) ∧ G g ∧ ¬ F g ∧ (s.gone = false → d.down = false) ∧ ∀ k, G k → k < w.heap.size) := ⟨hFG, hFH, hGH, hH, hw.self, hgF, hdn, hw.lt⟩
  have HEnd : Hid (∀ w1, RD w1 F M d ∧ RWl w1 G g M d.bytes s v vals ∧ Kp G w w1 → ∃ H', RB w1 H' g M d s ∧ Mv H H' w w1) := fun w1 q => by
    obtain ⟨a1, a2, a3, a4, a5, a6, a7, a8⟩ := hHH.out
    exact rb_step a2 a3 q.1 q.2.1 a1 (q.2.2.mono fun k e => .inr e) (fun k e => .inl e) (fun k e => .inl e) a4 a7
  have HFr : Hid (∀ w1, Kp G w w1 → Calls Tryz.prog 121 #[.slice A nl cl] w1 (FramesR l w1)) := fun w1 q => rframes_any A nl cl l w1 hnl (hst w1 (q.mono hGH))
  have hnE := nextE_frames (e := s.epoch) (l := l) hbs
  cases hgone : s.gone with
  | true =>
    have HR : Hid (s.reset d l = (6, s, d)) := by show _ = _; unfold Lg.reset; rw [if_pos hgone]
    rw [hgone] at HC
    have Hgn := Lib.hid hgone
    clear hp hw hok hFG hFH hGH hH hdn hgF hgone hlen hst hnE hep HFr
    go_enter Tryz.func92, Tryz.ntmps92
    go_wp2_with fail
    refine HC.out.mono ?_
    rintro x w1 ⟨rfl, hb1, hk⟩
    have HF := Lib.hid (HEnd.out w1 (HG.out w1 (by rw [Hgn.out]; exact hb1) hk))
    clear hb1 hk HC HG HEnd HB
    go_wp2
    go_ret
    unfold RActed
    rw [HR.out]
    exact ⟨rfl, HF.out⟩
  | false =>
    rw [hgone] at HC
    have Hgn := Lib.hid hgone
    have hre : s.reset d l = if nextE d.bytes s.epoch l ≠ 0 then (nextE d.bytes s.epoch l, s, d)
      else if (settleS d (s.epoch + 1) l).1 = 0 then (0, { epoch := s.epoch + 1, recs := l, safe := l.length, gone := false }, (settleS d (s.epoch + 1) l).2)
      else ((settleS d (s.epoch + 1) l).1, { s with gone := true }, (settleS d (s.epoch + 1) l).2) := by
      unfold Lg.reset
      rw [if_neg (by simp [hgone])]
    have HH : Hid (∀ W, RD W F M d → Calls Tryz.prog 122 #[.pointer (some ⟨M, 0, none⟩)] W fun x w' => x = .returned (.int .i64 d.half) ∧ W = w') := fun W q => rhalf_meth M d F W h6 q
    have hbe : d.bytes = d.half * 32 := rfl
    have hhb : d.half ≤ 1024 := by unfold Dk.half halfN; omega
    have hfl : (framesA l).1.length ≤ 65536 := by
      unfold framesA
      split
      · simp
      split
      · simp
      · rename_i h2; show usedF l ≤ _; omega
    have HFX : Hid (∀ w1, FramesR l w1 = fun e w' => ∃ A c, e = .returned (.tuple #[.slice A (framesA l).1.length c, .int .i64 ((framesA l).2 : Nat)]) ∧ w'.ownsRow w1.heap.size 5 1 (.slice A (framesA l).1.length c) (framesA l).1.length (u8s (framesA l).1) ∧ Below w1.heap.size w1 w') := fun w1 => rfl
    obtain ⟨fe, hfe⟩ : ∃ fe, (framesA l).2 = fe := ⟨_, rfl⟩
    obtain ⟨fl, hfll⟩ : ∃ fl, (framesA l).1.length = fl := ⟨_, rfl⟩
    rw [hfe, hfll] at hnE HFX
    rw [hfll] at hfl
    have Hfe := Lib.hid hfe
    have Hfl := Lib.hid hfll
    clear hfe hfll
    by_cases he0 : fe = 0
    · subst he0
      by_cases hful : d.bytes < fl
      · have HR : Hid (s.reset d l = (5, s, d)) := by
          show _ = _
          rw [hre, hnE]
          simp [hful]
        have hfi : (32 : Int) * (d.half : Int) < (fl : Int) := by omega
        clear hp hw hok hFG hFH hGH hH hdn hgF hgone hlen hst hnE hep hre hful
        generalize d.half = H0 at *
        go_enter Tryz.func92, Tryz.ntmps92
        go_wp2_with fail
        refine HC.out.mono ?_
        rintro x w1 ⟨rfl, hb1, hk⟩
        have Hq := Lib.hid (HG.out w1 (by rw [Hgn.out]; exact hb1) hk)
        have HFr1 := HFr.out w1 Hq.out.2.2
        rw [HFX.out] at HFr1
        have HFr1 := Lib.hid HFr1
        clear hb1 hk HC HG HFr HFX
        go_wp2_with fail
        refine HFr1.out.mono ?_
        rintro x w2 ⟨A2, c2, rfl, _, hb2⟩
        have Hq2 := Lib.hid (HB.out w1 w2 Hq.out hb2)
        have e0 := Hq2.out.2.1.blk.cell 0
        simp only [List.getElem?_toArray, List.getElem?_cons_zero] at e0
        have HH2 := Lib.hid (HH.out w2 Hq2.out.1)
        have HF := Lib.hid (HEnd.out w2 Hq2.out)
        clear hb2 HFr1 Hq HB HH HEnd
        go_wp2_with fail
        refine HH2.out.mono ?_
        rintro x w' ⟨rfl, rfl⟩
        go_wp2
        go_ret
        unfold RActed
        rw [HR.out]
        exact ⟨rfl, HF.out⟩
      · have hfi : ¬ (32 : Int) * (d.half : Int) < (fl : Int) := by omega
        by_cases hmax : s.epoch + 1 = 4611686018427387904
        · have HR : Hid (s.reset d l = (5, s, d)) := by
            show _ = _
            rw [hre, hnE]
            simp [hmax]
          have hmi : (IntKind.u64.wrap ((s.epoch : Int) + 1) == 4611686018427387904) = true := by rw [IntKind.wrap_u64]; simp; omega
          clear hp hw hok hFG hFH hGH hH hdn hgF hgone hlen hst hnE hep hre hful hmax
          generalize d.half = H0 at *
          go_enter Tryz.func92, Tryz.ntmps92
          go_wp2_with fail
          refine HC.out.mono ?_
          rintro x w1 ⟨rfl, hb1, hk⟩
          have Hq := Lib.hid (HG.out w1 (by rw [Hgn.out]; exact hb1) hk)
          have HFr1 := HFr.out w1 Hq.out.2.2
          rw [HFX.out] at HFr1
          have HFr1 := Lib.hid HFr1
          clear hb1 hk HC HG HFr HFX
          go_wp2_with fail
          refine HFr1.out.mono ?_
          rintro x w2 ⟨A2, c2, rfl, _, hb2⟩
          have Hq2 := Lib.hid (HB.out w1 w2 Hq.out hb2)
          have e0 := Hq2.out.2.1.blk.cell 0
          have e1 := Hq2.out.2.1.blk.cell 1
          simp only [List.getElem?_toArray, List.getElem?_cons_zero, List.getElem?_cons_succ] at e0 e1
          have HH2 := Lib.hid (HH.out w2 Hq2.out.1)
          have HF := Lib.hid (HEnd.out w2 Hq2.out)
          clear hb2 HFr1 Hq HB HH HEnd
          go_wp2_with fail
          refine HH2.out.mono ?_
          rintro x w' ⟨rfl, rfl⟩
          go_wp2
          go_ret
          unfold RActed
          rw [HR.out]
          exact ⟨rfl, HF.out⟩
        · have hn0 : nextE d.bytes s.epoch l = 0 := by rw [hnE]; simp [hful, hmax]
          obtain ⟨q1, q2, q3⟩ := nextE_zero hn0
          rw [if_neg (fun h => h hn0)] at hre
          have hh2 : 2 ≤ d.half := (Dk.base_le h6 s.epoch).2.2
          have HFU : Hid (∀ w1, RD w1 F M d ∧ RWl w1 G g M d.bytes s v vals ∧ Kp G w w1 → Calls Tryz.prog 102 #[.pointer (some ⟨g, 0, none⟩), .slice A nl cl] w1 fun x w' => ∃ ga ca, x = .returned (.slice (some ⟨ga, 0, none⟩) d.bytes ca) ∧ w'.ownsRow w1.heap.size 5 1 (.slice (some ⟨ga, 0, none⟩) d.bytes ca) d.bytes (u8s (fullF d.bytes l)) ∧ Below w1.heap.size w1 w' ∧ d.bytes ≤ ca ∧ ca ≤ 9223372036854775807) := fun w1 q => by
            refine (rfull_meth g M d F A nl cl l w1 h6 hnl q3 q1 (hst w1 (q.2.2.mono hGH)) q.1 (q.2.1.blk.cell 0)).mono ?_
            rintro x w' ⟨Aa, ca, rfl, ho, hb⟩
            rw [full_len _ _ q3] at ho ⊢
            obtain ⟨ga, ca', e6⟩ := own_someR ho (by omega)
            obtain ⟨A3, c3, e7, p4, p5⟩ := own_shape ho
            injection e6 with e8 _ e9
            injection e7 with e10 _ e11
            subst e8 e9 e11
            exact ⟨ga, ca, rfl, ho, hb, p4, by unfold maxLen at p5; omega⟩
          have HL : Hid (∀ w1 w2 ga ca, RD w1 F M d ∧ RWl w1 G g M d.bytes s v vals ∧ Kp G w w1 → w1.ownsRow w.heap.size 5 1 (.slice (some ⟨ga, 0, none⟩) d.bytes ca) d.bytes (u8s (fullF d.bytes l)) → d.bytes ≤ ca → ca ≤ 9223372036854775807 → Below w1.heap.size w1 w2 →
              Calls Tryz.prog 103 #[.pointer (some ⟨g, 0, none⟩), .int .u64 (s.epoch + 1 : Nat), .slice (some ⟨ga, 0, none⟩) d.bytes ca, .int .i64 0, .int .i64 ((d.half - 1 : Nat) : Int)] w2 (RLaid w2 F g M (.int .u64 s.epoch) v (.int .i64 s.safe) (layS (fullF d.bytes l) (d.base (s.epoch + 1)) 0 d.half d))) := fun w1 w2 ga ca q p1 p2 p3 hb => by
            have hga := p1.lt ga rfl
            have q' := q.2.1.below hb
            have p1' := own_below p1 hb (fun k e => by injection e with e; subst e; exact hga.2)
            have hblk := q'.blk
            rw [hgone] at hblk
            have hgF2 : ¬ F ga := fun hf => by have := hp.lt _ hf; omega
            have := rlay_meth g M (s.epoch + 1) 0 (d.half - 1) d.bytes ca ga _ _ _ (fullF d.bytes l) d F w2 (by omega) h6 (by omega) (by omega) (by omega) rfl p2 p3 hgF hgF2 (Rd.of_own p1') (q.1.below hb) hblk
            rw [show d.half - 1 + 1 - 0 = d.half by omega] at this
            exact this
          have hS : settleS d (s.epoch + 1) l = if (layS (fullF d.bytes l) (d.base (s.epoch + 1)) 0 d.half d).1 ≠ 0 then layS (fullF d.bytes l) (d.base (s.epoch + 1)) 0 d.half d
            else if (layS (fullF d.bytes l) (d.base (s.epoch + 1)) 0 d.half d).2.sync.1 ≠ 0 then (layS (fullF d.bytes l) (d.base (s.epoch + 1)) 0 d.half d).2.sync
            else if ((layS (fullF d.bytes l) (d.base (s.epoch + 1)) 0 d.half d).2.sync.2.write (((s.epoch + 1) % 2 : Nat) : Int) (headB (s.epoch + 1))).1 ≠ 0 then (layS (fullF d.bytes l) (d.base (s.epoch + 1)) 0 d.half d).2.sync.2.write (((s.epoch + 1) % 2 : Nat) : Int) (headB (s.epoch + 1))
            else ((layS (fullF d.bytes l) (d.base (s.epoch + 1)) 0 d.half d).2.sync.2.write (((s.epoch + 1) % 2 : Nat) : Int) (headB (s.epoch + 1))).2.sync := rfl
          have hw1 := layS_waits (fullF d.bytes l) (d.base (s.epoch + 1)) d.half 0 d
          have hl1 := layS_len (fullF d.bytes l) (d.base (s.epoch + 1)) d.half 0 d
          obtain ⟨⟨r1, d1⟩, hr1⟩ : ∃ p, layS (fullF d.bytes l) (d.base (s.epoch + 1)) 0 d.half d = p := ⟨_, rfl⟩
          rw [hr1] at HL hS hw1 hl1
          simp only at hw1 hl1
          have HS0 := Lib.hid hS
          have Hdn4 : Hid ((settleS d (s.epoch + 1) l).1 = 0 → (settleS d (s.epoch + 1) l).2.down = false) := settle_down
          have Hby4 : Hid ((settleS d (s.epoch + 1) l).2.bytes = d.bytes) := bytes_of (settle_len _ _ _)
          have Hok4 : Hid (({ epoch := s.epoch + 1, recs := l, safe := l.length, gone := false } : Lg).Ok d.bytes) := ⟨q1, q3, Nat.lt_of_le_of_ne hep hmax, Nat.le_refl _⟩
          have Hokg : Hid (({ s with gone := true } : Lg).Ok d.bytes) := ⟨hok.small, hok.fits, hok.epoch, hok.safe⟩
          have Hre := Lib.hid hre
          have hep1 : s.epoch + 1 < 18446744073709551616 := by omega
          have Hbs := Lib.hid hbs
          have HstI : Hid (∀ w', Kp H w w' → Parts w' w'.heap.size A nl l) := hst
          have hmi : (IntKind.u64.wrap ((s.epoch : Int) + 1) == 4611686018427387904) = false := by rw [IntKind.wrap_u64]; simp; omega
          obtain ⟨e1, he1⟩ : ∃ e1, s.epoch + 1 = e1 := ⟨_, rfl⟩
          have hv0 : IntKind.u64.wrap ((s.epoch : Int) + 1) = (e1 : Int) := by rw [IntKind.wrap_u64]; omega
          rw [he1] at HL HS0 Hdn4 Hby4 Hok4 Hre hep1
          have Hv0 := Lib.hid hv0
          have Hmi := Lib.hid hmi
          clear hp hw hok hFG hFH hGH hH hdn hgF hgone hlen hst hnE hep hre hful hmax hn0 q1 q2 q3 hr1 hS hbs he1 hv0
          obtain ⟨h1, hh1⟩ : ∃ h1, d.half - 1 = h1 := ⟨_, rfl⟩
          have hv1 : IntKind.i64.wrap ((d.half : Int) - 1) = (h1 : Int) := by rw [IntKind.wrap_i64]; omega
          rw [hh1] at HL
          generalize hH0 : d.half = H0 at *
          clear hh1 hH0 hbe
          go_enter Tryz.func92, Tryz.ntmps92
          go_wp2_with fail
          refine HC.out.mono ?_
          rintro x w1 ⟨rfl, hb1, hk⟩
          have Hq := Lib.hid (HG.out w1 (by rw [Hgn.out]; exact hb1) hk)
          have HFr1 := HFr.out w1 Hq.out.2.2
          rw [HFX.out] at HFr1
          have HFr1 := Lib.hid HFr1
          clear hb1 hk HC HG HFr HFX
          go_wp2_with fail
          refine HFr1.out.mono ?_
          rintro x w2 ⟨A2, c2, rfl, _, hb2⟩
          have Hq2 := Lib.hid (HB.out w1 w2 Hq.out hb2)
          have e0 := Hq2.out.2.1.blk.cell 0
          have e1c := Hq2.out.2.1.blk.cell 1
          simp only [List.getElem?_toArray, List.getElem?_cons_zero, List.getElem?_cons_succ] at e0 e1c
          have HH2 := Lib.hid (HH.out w2 Hq2.out.1)
          clear hb2 HFr1 Hq
          go_wp2_with fail
          refine HH2.out.mono ?_
          rintro x w' ⟨rfl, rfl⟩
          have hmi := Hmi.out
          go_wp2
          have e0d : w2.drew.cell? ⟨g, 0, none⟩ = some (.pointer (some ⟨M, 0, none⟩)) := e0
          have e1d : w2.drew.cell? ⟨g, 1, none⟩ = some (.int .u64 s.epoch) := e1c
          have hv0 := Hv0.out
          have hsz2 : w.heap.size ≤ w2.heap.size := Hq2.out.2.2.size
          have Hsz2 := Lib.hid hsz2
          clear hsz2
          go_region_held3 (fun w' => w'.cell? ⟨g, 0, none⟩ = some (.pointer (some ⟨M, 0, none⟩)) ∧ w'.cell? ⟨g, 1, none⟩ = some (.int .u64 s.epoch)) (first | exact ⟨e0d, e1d⟩ | exact ⟨f0, f1⟩ | exact ⟨k0, k1⟩)
            (first | (go_at_call 102; refine (HFU.out w2.drew (HB.out w2 w2.drew Hq2.out (Below.refl _ _).drew)).mono ?_; rintro x w3 ⟨ga, ca, rfl, ho3, hb3, p1, p2⟩; (have Hq3 := Lib.hid (HB.out w2 w3 Hq2.out ((Below.refl _ _).drew.trans hb3))); (have Ho3 := Lib.hid (own_mono ho3 Hsz2.out)); (have f0 : w3.cell? ⟨g, 0, none⟩ = some (.pointer (some ⟨M, 0, none⟩)) := Hq3.out.2.1.blk.cell 0); (have f1 : w3.cell? ⟨g, 1, none⟩ = some (.int .u64 s.epoch) := Hq3.out.2.1.blk.cell 1); clear ho3 hb3) | (go_at_call 122; refine (HH.out w3 Hq3.out.1).mono ?_; rintro x w' ⟨rfl, rfl⟩) | (go_at_call 103; (try rw [hv0]); (try rw [hv1]); refine (HL.out w3 w3 ga ca Hq3.out Ho3.out p1 p2 (Below.refl _ _)).mono ?_; rintro x w5 ⟨rfl, F5, hp5, hk5, hF5, hb5⟩; (have k0 : w5.cell? ⟨g, 0, none⟩ = some (.pointer (some ⟨M, 0, none⟩)) := hb5.cell 0); (have k1 : w5.cell? ⟨g, 1, none⟩ = some (.int .u64 s.epoch) := hb5.cell 1)))
          have HErrF : Hid (∀ (r : Int) (dd : Dk), settleS d e1 l = (r, dd) → r ≠ 0 → s.reset d l = (r, { s with gone := true }, dd) ∧ dd.bytes = d.bytes) := fun r dd h hr => by
            have hb := Hby4.out
            have hr2 := Hre.out
            rw [h] at hb hr2
            exact ⟨hr2.trans (if_neg hr), hb⟩
          have hkk : Kp (fun k => F k ∨ G k) w w5 := (Hq3.out.2.2.mono fun k e => .inr e).trans (hk5.mono fun k e => e.imp id fun e => by have e : k = g := e; rw [e]; exact hHH.out.2.2.2.2.1)
          have hF5w : ∀ k, F5 k → F k ∨ w.heap.size ≤ k := fun k hf => (hF5 k hf).imp id fun h => Nat.le_trans Hq3.out.2.2.size h
          have hd5 : ∀ k, F5 k → ¬ G k := fun k hf hg => by
            rcases hF5 k hf with h | h
            · exact hHH.out.1 k h hg
            · have := Hq3.out.2.1.lt k hg; omega
          clear e0 e1c e0d e1d f0 f1 k1 HH HB HL HFU HH2 Ho3 hmi
          by_cases r1n : r1 ≠ 0
          · have hfl1 : decide ((r1, d1).1 ≠ 0) = true := by simp [r1n]
            rw [hfl1] at hb5
            have hmid : RMid w F G g M d.bytes { s with gone := true } v vals d1 F5 w5 := ⟨hp5, Hq3.out.2.1.turnF (s' := { s with gone := true }) hk5 hHH.out.1 hb5 rfl Hokg.out, hkk, hF5w, hd5⟩
            obtain ⟨a1, a2, a3, a4, a5, a6, a7, a8⟩ := hHH.out
            have hst5 : settleS d e1 l = (r1, d1) := HS0.out.trans (if_pos r1n)
            have Hmid := Lib.hid hmid
            have Hst5 := Lib.hid hst5
            clear hmid hst5 hkk hF5w hd5 hp5 hk5 hF5 hb5 hfl1 Hq3 Hq2
            have hx := HErrF.out r1 d1 Hst5.out r1n
            have HFin := Lib.hid (Hmid.out.err a2 a3 a4 hx.2 Hokg.out)
            have HRx := Lib.hid hx.1
            have c4 := Hmid.out.wl.blk.cell 4
            have f4 := Hmid.out.wl.blk.frozen 4
            simp only [List.getElem?_toArray, List.getElem?_cons_zero, List.getElem?_cons_succ] at c4
            have hne1 : (r1 == 0) = false := by simpa using r1n
            have hne2 : (r1 != 0) = true := by simpa using r1n
            clear hx r1n a1 a2 a3 a4 a5 a6 a7 a8
            go_wp2
            go_ret
            unfold RActed
            rw [HRx.out]
            exact ⟨rfl, HFin.out⟩
          · have r10 : r1 = 0 := Classical.byContradiction r1n
            subst r10
            have hfl1 : decide (((0 : Int), d1).1 ≠ 0) = s.gone := by rw [Hgn.out]; rfl
            rw [hfl1] at hb5
            have Hmid : Hid (RMid w F G g M d.bytes s v vals d1 F5 w5) := ⟨hp5, Hq3.out.2.1.turnF (s' := s) hk5 hHH.out.1 hb5 rfl Hq3.out.2.1.ok, hkk, hF5w, hd5⟩
            have HS1 := HS0.out
            rw [if_neg r1n] at HS1
            have hwb : d1.waits.length ≤ 900000000 := by omega
            have HSy := rsync_any M d1 F5 w5 (by omega) Hmid.out.rd
            have hl2 := Dk.sync_len d1
            have hw2 : d1.sync.2.waits.length ≤ 900000000 := by
              unfold Dk.sync
              split
              · simp
              · rw [d1.act_same.2]; omega
            obtain ⟨⟨r2, d2⟩, hr2⟩ : ∃ p, d1.sync = p := ⟨_, rfl⟩
            rw [hr2] at HSy HS1 hl2 hw2
            simp only at hl2 hw2
            have HSy := Lib.hid HSy
            have HS2 := Lib.hid HS1
            clear hkk hF5w hd5 hp5 hk5 hF5 hb5 hfl1 Hq3 Hq2 HS0 HS1 hr2 r1n hw1 hwb
            go_wp2_with fail
            refine HSy.out.mono ?_
            rintro x w6 ⟨rfl, F6, hp6, hm6⟩
            have Hmid6 : Hid (RMid w F G g M d.bytes s v vals d2 F6 w6) := Hmid.out.step hp6 hm6 (fun k hg hf => hHH.out.1 k hf hg) hHH.out.2.2.2.2.2.2.2
            clear hp6 hm6 HSy Hmid k0
            by_cases r2n : r2 ≠ 0
            · have Hst6 : Hid (settleS d e1 l = (r2, d2)) := HS2.out.trans (if_pos r2n)
              obtain ⟨a1, a2, a3, a4, a5, a6, a7, a8⟩ := hHH.out
              have hx := HErrF.out r2 d2 Hst6.out r2n
              have HFin := Lib.hid (Hmid6.out.err a2 a3 a4 hx.2 Hokg.out)
              have HRx := Lib.hid hx.1
              have c4 := Hmid6.out.wl.blk.cell 4
              have f4 := Hmid6.out.wl.blk.frozen 4
              simp only [List.getElem?_toArray, List.getElem?_cons_zero, List.getElem?_cons_succ] at c4
              have hne1 : (r2 == 0) = false := by simpa using r2n
              have hne2 : (r2 != 0) = true := by simpa using r2n
              clear hx r2n a1 a2 a3 a4 a5 a6 a7 a8
              go_wp2
              go_ret
              unfold RActed
              rw [HRx.out]
              exact ⟨rfl, HFin.out⟩
            · have r20 : r2 = 0 := Classical.byContradiction r2n
              subst r20
              have HS3 : Hid (settleS d e1 l = if (d2.write (↑(e1 % 2)) (headB e1)).fst ≠ 0 then d2.write (↑(e1 % 2)) (headB e1) else (d2.write (↑(e1 % 2)) (headB e1)).snd.sync) := HS2.out.trans (if_neg r2n)
              clear HS2 r2n
              obtain ⟨i0, hi0, hz0, hz1, hz2⟩ := info_parts Tryz.infoU8
              have HC1 : Hid (∀ W, Calls Tryz.prog 54 #[.int .u64 e1] W fun e w' => ∃ v, e = .returned v ∧ w'.ownsRow W.heap.size 5 1 v (Lib.uvarint e1).length (u8s (Lib.uvarint e1)) ∧ Below W.heap.size W w') := fun W => refPut_any e1 W hep1
              have hlu := Lib.uvarint_length64 hep1
              have hhl := headB_len e1 hep1
              have HHd : Hid (headB e1 = putF (1, Lib.uvarint e1) ++ zeros (32 - (putF (1, Lib.uvarint e1)).length)) := rfl
              have hpl : (putF (1, Lib.uvarint e1)).length = 10 + (Lib.uvarint e1).length := putF_len _
              obtain ⟨p, hp⟩ : ∃ p, putF (1, Lib.uvarint e1) = p := ⟨_, rfl⟩
              have HPut : Hid (∀ A c W, Rd W W.heap.size A (Lib.uvarint e1).length (Lib.uvarint e1) → Calls Tryz.prog 123 #[.int .u8 1, .slice A (Lib.uvarint e1).length c] W fun e' w' => ∃ v, e' = .returned (.tuple #[v, .int .i64 0]) ∧ w'.ownsRow W.heap.size 5 1 v (10 + (Lib.uvarint e1).length) (u8s p) ∧ Below W.heap.size W w') := fun A c W h3 => by
                rw [← hp]
                exact refPutF_ok 1 A _ c (Lib.uvarint e1) W (by omega) h3
              rw [hp] at hpl hhl HHd
              clear hp
              generalize Lib.uvarint e1 = U at *
              generalize hul : U.length = ul at *
              obtain ⟨pl, hple⟩ : ∃ pl, 10 + ul = pl := ⟨_, rfl⟩
              rw [hple] at HPut hpl
              have Hpl := Lib.hid hpl
              have hpl20 : pl ≤ 20 := by omega
              clear hple hul hpl hhl
              have k1 := Hmid6.out.wl.blk.cell 1
              simp only [List.getElem?_toArray, List.getElem?_cons_zero, List.getElem?_cons_succ] at k1
              go_wp2_with fail
              refine (HC1.out _).mono ?_
              rintro x w7 ⟨vu, rfl, ho7, hb7⟩
              obtain ⟨Au, cu, rfl, _⟩ := own_shape ho7
              have HP7 := Lib.hid (HPut.out Au cu w7 (Rd.of_own ho7))
              have Hb7 := Lib.hid hb7
              clear ho7 hb7 HC1 HPut
              go_wp2_with fail
              refine HP7.out.mono ?_
              rintro x w8 ⟨vp, rfl, ho8, hb8⟩
              have HSt : Hid (w8.ownsRow w6.heap.size 5 1 vp (pl + 0) (u8s (p ++ zeros 0)) ∧ Below w6.heap.size w6 w8) := ⟨by rw [show zeros 0 = [] from rfl, List.append_nil]; exact own_mono ho8 Hb7.out.size, below_then Hb7.out hb8⟩
              obtain ⟨Ap, cp, rfl, _⟩ := own_shape ho8
              clear ho8 hb8 HP7 Hb7 k1
              have HNz : Hid (∀ k, p ++ zeros (k + 1) = (p ++ zeros k) ++ [0]) := fun k => by
                rw [List.append_assoc]
                congr 1
                exact List.replicate_succ'
              go_wp2
              go_loopg [8] (32 - pl) (fun gk v wr => ∃ k : Nat, k + gk = 32 - pl ∧ Hid (wr.ownsRow w6.heap.size 5 1 v (pl + k) (u8s (p ++ zeros k)) ∧ Below w6.heap.size w6 wr))
              case atStart => exact ⟨0, by omega, HSt⟩
              case round =>
                obtain ⟨k, hk, HR⟩ := hrel
                obtain ⟨hown, hb⟩ := HR.out
                obtain ⟨Av, cv, rfl, _⟩ := own_shape hown
                by_cases hkn : pl + k < 32
                · have hci : ((pl : Int) + (k : Int) < 32) := by omega
                  have Hown := Lib.hid hown
                  have Hb := Lib.hid hb
                  have HNk := Lib.hid (HNz.out k)
                  clear hown hb HR HSt
                  go_wp2_with (at_builtin; go_loud (refine wpList_append_app _ rfl _ _ 23 rfl w6.heap.size 5 i0 (.int .u8 0) 1 1 Tryz.underlying23 hi0 hz0 hz1 hz2 rfl _ _ _ rfl (Hown.out.alloc _) (some ⟨wr.heap.size, 0, none⟩) 1 1 [Value.int .u8 0] rfl rfl (by intro h; cases h) (cell_new1 _ _ _) (by intro u hu; simp at hu; subst hu; rfl) (by unfold maxLen; omega) (by omega) (by have := Hb.out.size; simp; omega) ?_))
                  intro v' w9 ha
                  have hb1 := ha.below (Hb.out.alloc Hb.out.size _) (by have := Hb.out.size; simp; omega) (own_block_ge Hown.out)
                  have HF2 : Hid (w9.ownsRow w6.heap.size 5 1 v' (pl + (k + 1)) (u8s (p ++ zeros (k + 1))) ∧ Below w6.heap.size w6 w9) := by
                    refine ⟨?_, hb1⟩
                    rw [HNk.out, u8s_append]
                    exact ha.own
                  clear ha hb1 Hown Hb
                  go_wp2
                  go_roundg (gk - 1)
                  case measure => omega
                  case rel => exact ⟨k + 1, by omega, HF2.out⟩
                · have hci : ¬ ((pl : Int) + (k : Int) < 32) := by omega
                  have hkk : k = 32 - pl := by omega
                  have h32 : pl + k = 32 := by omega
                  have Hrow : Hid (wr.ownsRow w6.heap.size 5 1 (.slice Av 32 cv) 32 (u8s (headB e1)) ∧ Below w6.heap.size w6 wr) := by
                    refine ⟨?_, hb⟩
                    rw [HHd.out, Hpl.out, ← hkk]
                    rw [h32] at hown
                    exact hown
                  rw [h32]
                  have hci2 : ¬ ((32 : Nat) : Int) < 32 := by omega
                  have Hmid9 := Lib.hid (Hmid6.out.below Hrow.out.2)
                  clear hown hb HR HSt hkn hci hkk h32 hk
                  have HWr : Hid (∀ W (x : Int), RMid w F G g M d.bytes s v vals d2 F6 W → Below wr.heap.size wr W → x = ((e1 % 2 : Nat) : Int) → Calls Tryz.prog 124 #[.pointer (some ⟨M, 0, none⟩), .int .i64 x, .slice (Av) 32 cv] W fun e w' => e = .returned (.int .i64 (d2.write ((e1 % 2 : Nat) : Int) (headB e1)).1) ∧ ∃ F', RD w' F' M (d2.write ((e1 % 2 : Nat) : Int) (headB e1)).2 ∧ Mv F6 F' W w') := fun W x hm hb hx => by
                    subst hx
                    have ho := own_below Hrow.out.1 hb (fun k e => (Hrow.out.1.lt k e).2)
                    exact rwrite_any M d2 F6 _ Av 32 cv (headB e1) W (by omega) (by omega) (Rd.of_own ho) (fun ad e hf => by
                      have h1 := (ho.lt ad.block (by subst e; rfl)).1
                      have h2 := Hmid6.out.rd.lt _ hf
                      omega) hm.rd
                  have hw3 := dwrite_waits d2 ((e1 % 2 : Nat) : Int) (headB e1)
                  have hl3 := Dk.write_len d2 ((e1 % 2 : Nat) : Int) (headB e1)
                  obtain ⟨⟨r3, d3⟩, hr3⟩ : ∃ p, d2.write ((e1 % 2 : Nat) : Int) (headB e1) = p := ⟨_, rfl⟩
                  rw [hr3] at HWr hw3 hl3 HS3
                  simp only at hw3 hl3
                  have k0 : wr.drew.cell? ⟨g, 0, none⟩ = some (.pointer (some ⟨M, 0, none⟩)) := Hmid9.out.wl.blk.cell 0
                  have k1 : wr.drew.cell? ⟨g, 1, none⟩ = some (.int .u64 s.epoch) := Hmid9.out.wl.blk.cell 1
                  have e0w : wr.cell? ⟨g, 0, none⟩ = some (.pointer (some ⟨M, 0, none⟩)) := k0
                  have e1w : wr.cell? ⟨g, 1, none⟩ = some (.int .u64 s.epoch) := k1
                  clear hr3
                  have Hx : Hid (IntKind.i64.wrap ((e1 : Int).tmod 2) = ((e1 % 2 : Nat) : Int)) := by show _ = _; rw [Int.tmod_eq_emod_of_nonneg (by omega), IntKind.wrap_i64]; omega
                  go_wp2
                  go_region_held3 (fun w' => w'.cell? ⟨g, 0, none⟩ = some (.pointer (some ⟨M, 0, none⟩)) ∧ w'.cell? ⟨g, 1, none⟩ = some (.int .u64 s.epoch)) (first | exact ⟨k0, k1⟩ | exact ⟨m0, m1⟩)
                    (first | (go_at_call 124; refine (HWr.out _ _ (Hmid9.out.below (Below.refl _ _).drew) (Below.refl _ _).drew Hx.out).mono ?_; rintro x w10 ⟨rfl, F10, hp10, hm10⟩; (have Hmid10 : Hid (RMid w F G g M d.bytes s v vals d3 F10 w10) := (Hmid9.out.below (Below.refl _ _).drew).step hp10 hm10 (fun k hg hf => hHH.out.1 k hf hg) hHH.out.2.2.2.2.2.2.2); (have m0 : w10.cell? ⟨g, 0, none⟩ = some (.pointer (some ⟨M, 0, none⟩)) := Hmid10.out.wl.blk.cell 0); (have m1 : w10.cell? ⟨g, 1, none⟩ = some (.int .u64 s.epoch) := Hmid10.out.wl.blk.cell 1)))
                  clear hp10 hm10 HWr k0 k1 e0w e1w Hmid9 Hmid6 Hrow m1
                  by_cases r3n : r3 ≠ 0
                  · have Hst7 : Hid (settleS d e1 l = (r3, d3)) := HS3.out.trans (if_pos r3n)
                    obtain ⟨a1, a2, a3, a4, a5, a6, a7, a8⟩ := hHH.out
                    have hx := HErrF.out r3 d3 Hst7.out r3n
                    have HFin := Lib.hid (Hmid10.out.err a2 a3 a4 hx.2 Hokg.out)
                    have HRx := Lib.hid hx.1
                    have c4 := Hmid10.out.wl.blk.cell 4
                    have f4 := Hmid10.out.wl.blk.frozen 4
                    simp only [List.getElem?_toArray, List.getElem?_cons_zero, List.getElem?_cons_succ] at c4
                    have hne1 : (r3 == 0) = false := by simpa using r3n
                    have hne2 : (r3 != 0) = true := by simpa using r3n
                    clear hx r3n a1 a2 a3 a4 a5 a6 a7 a8
                    go_wp2
                    go_ret
                    unfold RActed
                    rw [HRx.out]
                    exact ⟨rfl, HFin.out⟩
                  · have r30 : r3 = 0 := Classical.byContradiction r3n
                    subst r30
                    have HS4 : Hid (settleS d e1 l = d3.sync) := HS3.out.trans (if_neg r3n)
                    have HSy := rsync_any M d3 F10 w10 (by omega) Hmid10.out.rd
                    obtain ⟨⟨r4, d4⟩, hr4⟩ : ∃ p, d3.sync = p := ⟨_, rfl⟩
                    rw [hr4] at HSy HS4
                    have HSy := Lib.hid HSy
                    clear HS3 r3n hr4
                    go_wp2_with fail
                    refine HSy.out.mono ?_
                    rintro x w11 ⟨rfl, F11, hp11, hm11⟩
                    have Hmid11 : Hid (RMid w F G g M d.bytes s v vals d4 F11 w11) := Hmid10.out.step hp11 hm11 (fun k hg hf => hHH.out.1 k hf hg) hHH.out.2.2.2.2.2.2.2
                    clear hp11 hm11 HSy Hmid10 m0
                    by_cases r4n : r4 ≠ 0
                    · obtain ⟨a1, a2, a3, a4, a5, a6, a7, a8⟩ := hHH.out
                      have hx := HErrF.out r4 d4 HS4.out r4n
                      have HFin := Lib.hid (Hmid11.out.err a2 a3 a4 hx.2 Hokg.out)
                      have HRx := Lib.hid hx.1
                      have c4 := Hmid11.out.wl.blk.cell 4
                      have f4 := Hmid11.out.wl.blk.frozen 4
                      simp only [List.getElem?_toArray, List.getElem?_cons_zero, List.getElem?_cons_succ] at c4
                      have hne1 : (r4 == 0) = false := by simpa using r4n
                      have hne2 : (r4 != 0) = true := by simpa using r4n
                      clear hx r4n a1 a2 a3 a4 a5 a6 a7 a8
                      go_wp2
                      go_ret
                      unfold RActed
                      rw [HRx.out]
                      exact ⟨rfl, HFin.out⟩
                    · have r40 : r4 = 0 := Classical.byContradiction r4n
                      subst r40
                      have HRx : Hid (s.reset d l = (0, { epoch := e1, recs := l, safe := l.length, gone := false }, d4) ∧ d4.bytes = d.bytes ∧ d4.down = false) := by
                        have h1 := Hre.out
                        have h2 := Hdn4.out
                        have h3 := Hby4.out
                        rw [HS4.out] at h1 h2 h3
                        exact ⟨h1.trans (if_pos rfl), h3, h2 rfl⟩
                      have HNL0 : Hid (NewL w11 F11 g M w11.heap.size d4 (.int .u64 e1) (.int .i64 s.safe) (.bool false) l 0 ((w11.setCell ⟨g, 1, none⟩ (.int .u64 e1)).setCell ⟨g, 2, none⟩ (.slice none 0 0))) := by
                        have hk1 : ∀ (W : World) (i : Nat) (z : Value), Kp (· = g) W (W.setCell ⟨g, i, none⟩ z) := fun W i z => Kp.set_ (F := (· = g)) (p := ⟨g, i, none⟩) rfl z
                        have hkk := (hk1 w11 1 (.int .u64 e1)).trans (hk1 (w11.setCell ⟨g, 1, none⟩ (.int .u64 e1)) 2 (.slice none 0 0))
                        have hb := (Hmid11.out.wl.blk.set_ 1 (.int .u64 e1)).set_ 2 (.slice none 0 0)
                        rw [Hgn.out] at hb
                        refine ⟨.slice none 0 0, [], Hmid11.out.rd.kp hkk (fun k hf e => by have e : k = g := e; subst e; exact Hmid11.out.apart _ hf Hmid11.out.wl.self), hb, LstV.nil _ _, by simp [Value.ownBlock], hkk.mono fun k e => .inl e, by simp [World.setCell]⟩
                      have c1 := Hmid11.out.wl.blk.cell 1
                      have c2 := Hmid11.out.wl.blk.cell 2
                      have fz1 := Hmid11.out.wl.blk.frozen 1
                      have fz2 := Hmid11.out.wl.blk.frozen 2
                      simp only [List.getElem?_toArray, List.getElem?_cons_zero, List.getElem?_cons_succ] at c1 c2
                      clear r4n HErrF HS4
                      obtain ⟨i1, hi1, hy0, hy1, hy2⟩ := info_parts Tryz.infoBytes
                      have Hi1 := Lib.hid hi1
                      have Hy0 := Lib.hid hy0
                      have Hy1 := Lib.hid hy1
                      have Hy2 := Lib.hid hy2
                      clear hi1 hy0 hy1 hy2 hi0 hz0 hz1 hz2
                      have hP0 := (HstI.out w (Kp.refl _ _)).1
                      have hcnt := usedF_count l
                      have hfit : usedF l ≤ d.bytes := Hok4.out.fits
                      have hsmall : Hid (∀ r ∈ l, r.length ≤ 1024) := Hok4.out.small
                      have hnl4 : nl ≤ 4000 := by have := Hbs.out; omega
                      have HP0 := Lib.hid hP0
                      have hBw : w.heap.size ≤ w11.heap.size := Hmid11.out.kp.size
                      have HBw := Lib.hid hBw
                      have HF11 : Hid (∀ q, F11 q → q < w11.heap.size ∧ q ≠ g) := fun q hf => ⟨Hmid11.out.rd.lt q hf, fun e => by subst e; exact Hmid11.out.apart _ hf Hmid11.out.wl.self⟩
                      have HKH : Hid (∀ wr, Kp (fun q => q = g ∨ w11.heap.size ≤ q) w11 wr → Kp (fun k => F k ∨ G k) w wr) := fun wr hk =>
                        Kp.fresh (B := w11.heap.size) ((Hmid11.out.kp.mono fun k e => .inl e).trans (hk.mono fun k e => e.elim (fun e => .inl (.inr (by rw [e]; exact Hmid11.out.wl.self))) .inr)) HBw.out
                      clear hP0 hcnt hfit hBw
                      go_wp2
                      go_loopg [10] nl (fun gk i wr => ∃ k : Nat, i = .int .i64 k ∧ k + gk = nl ∧ Hid (NewL w11 F11 g M w11.heap.size d4 (.int .u64 e1) (.int .i64 s.safe) (.bool false) l k wr))
                      case atStart => exact ⟨0, rfl, by omega, HNL0⟩
                      case round =>
                        clear HNL0 c1 c2 fz1 fz2
                        obtain ⟨k, rfl, hk, HR⟩ := hrel
                        obtain ⟨v2, vals2, hD, hb, hl2x, hne2, hkp2, hB2⟩ := HR.out
                        by_cases hkn : k < nl
                        · have hkl : k < l.length := by rw [HP0.out]; exact hkn
                          obtain ⟨bq, oq, A', n', c', hAe, hbw, hcell, hn', hc', hrd⟩ := (HstI.out wr ((HKH.out wr hkp2).mono fun q e => e.elim (hHH.out.2.1 q) (hHH.out.2.2.1 q))).2 k hkl
                          have hrl := hrd.1
                          have hn4 : n' ≤ 1024 := by rw [← hrl]; exact hsmall.out _ (List.getElem_mem hkl)
                          have hvl : vals2.length ≤ 4000 := by have := hl2x.len; rw [List.length_take] at this; omega
                          have HCP := Lib.hid (copy_any A' n' c' wr.heap.size l[k] wr.drew (by omega) (hrd.below (Below.refl _ _).drew))
                          have HSt2 : Hid (∀ w4, Below wr.heap.size wr.drew w4 → RD w4 F11 M d4 ∧ Bk w4 g 69 #[.pointer (some ⟨M, 0, none⟩), .int .u64 e1, v2, .int .i64 s.safe, .bool false] ∧ LstV w4 (fun q => w11.heap.size ≤ q ∧ q < w4.heap.size) v2 vals2 (l.take k) ∧ Kp (fun q => q = g ∨ w11.heap.size ≤ q) w11 w4 ∧ w11.heap.size ≤ w4.heap.size) := fun w4 hb4 => by
                            have hbb := (Below.refl wr.heap.size wr).drew.trans hb4
                            exact ⟨hD.below hbb, hb.below hbb hb.lt, (hl2x.below hbb).mono (fun q e => ⟨e.1, Nat.lt_of_lt_of_le e.2 hbb.size⟩), hkp2.trans (Kp.of_below hbb), Nat.le_trans hB2 hbb.size⟩
                          have Hne2 := Lib.hid hne2
                          have Hkl := Lib.hid hkl
                          have c2 := hb.cell 2
                          have fz2 := hb.frozen 2
                          simp only [List.getElem?_toArray, List.getElem?_cons_zero, List.getElem?_cons_succ] at c2
                          have hki : (k : Int) < (nl : Int) := by omega
                          subst hAe
                          clear hD hb hl2x hne2 hkp2 hB2 HR hrd hrl hbw hn' hc'
                          go_wp2
                          go_region_law (first | ((refine step_append_app _ rfl _ _ 67 (by rfl) 0 23 i1 (.slice none 0 0) 1 24 Tryz.underlying67 Hi1.out Hy0.out Hy1.out Hy2.out rfl v2 vals2.length vals2 (by rfl) (Hd.out (.cells #[.slice Ac n' cc] 23)).2.2.1.row (some ⟨w4.heap.size, 0, none⟩) 1 1 [.slice Ac n' cc] (by rfl) rfl (by intro e; cases e) (one_new _ _ _ rfl) (by intro u hu; simp at hu; subst hu; rfl) (by unfold maxLen; omega) (by omega) (by simp) ?_); intro v' w5 happ; (have hk3 : Kp (fun k => v2.ownBlock = some k) _ w5 := Kp.of_row happ.grow (fun g e => e)); (have kb := (Hd.out (.cells #[.slice Ac n' cc] 23)).2.1.kp hk3 (fun e => Hne2.out e)); (have k2 := kb.cell 2); (have kf := kb.frozen 2); (obtain ⟨Av2, cv2, rfl, _⟩ := own_shape happ.own)) | (go_simp; go_at_call 22; (refine HCP.out.mono ?_; rintro x w4 ⟨vc, rfl, hoc, hbc⟩; (obtain ⟨Ac, cc, rfl, _⟩ := own_shape hoc); (have Hd : Hid (∀ o, RD (w4.alloc o) F11 M d4 ∧ Bk (w4.alloc o) g 69 #[.pointer (some ⟨M, 0, none⟩), .int .u64 e1, v2, .int .i64 s.safe, .bool false] ∧ LstV (w4.alloc o) (fun q => w11.heap.size ≤ q ∧ q < (w4.alloc o).heap.size) v2 vals2 (l.take k) ∧ Kp (fun q => q = g ∨ w11.heap.size ≤ q) w11 (w4.alloc o) ∧ w11.heap.size ≤ (w4.alloc o).heap.size) := fun o => HSt2.out _ (hbc.alloc hbc.size o)); (have c2b : w4.cell? ⟨g, 2, none⟩ = some v2 := (HSt2.out w4 hbc).2.1.cell 2); (have c2c : ∀ o, (w4.alloc o).cell? ⟨g, 2, none⟩ = some v2 := fun o => (Hd.out o).2.1.cell 2); (have hcellb := (hbc.cell (p := ⟨bq, oq + k, none⟩) (World.block_lt_of_cell? _ _ hcell)).trans hcell); (have Hoc := Lib.hid hoc); (have Hbc := Lib.hid hbc); clear hoc hbc)))
                          all_goals
                            obtain ⟨q1, q2, q3, q4, q5⟩ := Hd.out (.cells #[.slice Ac n' cc] 23)
                            have hwr : w11.heap.size ≤ wr.heap.size := (HSt2.out wr.drew (Below.refl _ _)).2.2.2.2
                            have hoc2 : (w4.alloc (.cells #[.slice Ac n' cc] 23)).ownsRow w11.heap.size 5 1 (.slice Ac n' cc) n' (u8s l[k]) := own_mono (own_below Hoc.out ((Below.refl w4.heap.size w4).alloc (Nat.le_refl _) (.cells #[.slice Ac n' cc] 23)) (fun k e => (Hoc.out.lt k e).2)) hwr
                            have HN2 : Hid (NewL w11 F11 g M w11.heap.size d4 (.int .u64 e1) (.int .i64 s.safe) (.bool false) l (k + 1) (w5.setCell ⟨g, 2, none⟩ (.slice Av2 (vals2.length + 1) cv2))) := NewL.next Hkl.out HF11.out q1 q2 q3 Hne2.out q4 q5 hoc2 happ
                            clear q1 q2 q3 q4 q5 hwr hoc2 happ hk3 kb k2 kf c2 c2b c2c fz2 Hd Hoc Hbc HSt2 HCP hcell hcellb
                            go_wp2
                            go_roundg (gk - 1)
                            case measure => omega
                            case rel => exact ⟨k + 1, by go_num, by omega, HN2⟩
                        · obtain rfl : k = nl := by omega
                          have hall : l.take k = l := List.take_of_length_le (by rw [HP0.out]; exact Nat.le_refl _)
                          rw [hall] at hl2x
                          have c3 := hb.cell 3
                          have fz3 := hb.frozen 3
                          simp only [List.getElem?_toArray, List.getElem?_cons_zero, List.getElem?_cons_succ] at c3
                          have HF : Hid (∃ H', RB (wr.setCell ⟨g, 3, none⟩ (.int .i64 (k : Nat))) H' g M d4 { epoch := e1, recs := l, safe := l.length, gone := false } ∧ Mv H H' w (wr.setCell ⟨g, 3, none⟩ (.int .i64 (k : Nat)))) := by
                            obtain ⟨a1, a2, a3, a4, a5, a6, a7, a8⟩ := hHH.out
                            have hk5 : Kp (· = g) wr (wr.setCell ⟨g, 3, none⟩ (.int .i64 (k : Nat))) := Kp.set_ (F := (· = g)) (p := ⟨g, 3, none⟩) rfl _
                            have hkk := hkp2.trans (hk5.mono fun q e => .inl e)
                            have hsz : (wr.setCell ⟨g, 3, none⟩ (.int .i64 (k : Nat))).heap.size = wr.heap.size := by simp [World.setCell]
                            have hglt := hb.lt
                            have hb3 := hb.set_ 3 (.int .i64 (k : Nat))
                            have hlen2 : (l.length : Int) = ((k : Nat) : Int) := by rw [HP0.out]
                            refine rb_step (G' := fun q => q = g ∨ (w11.heap.size ≤ q ∧ q < wr.heap.size)) a2 a3 (hD.kp hk5 (fun q hf e => (HF11.out q hf).2 e)) (v' := v2) (vals' := vals2) ⟨.inl rfl, fun q e => ?_, by rw [HRx.out.2.1]; exact Hok4.out, ?_, ?_, hne2⟩ (fun q hf e => ?_) (HKH.out _ hkk) Hmid11.out.new (fun q e => ?_) a4 (fun _ => HRx.out.2.2)
                            · rw [hsz]
                              rcases e with rfl | e
                              · exact hglt
                              · exact e.2
                            · show Bk _ g _ #[_, .int .u64 (e1 : Nat), v2, .int .i64 (l.length : Nat), .bool false]
                              rw [hlen2]
                              exact hb3
                            · exact (hl2x.mono (fun q e => .inr e)).set_ hk5 hne2 (fun cs e => by
                                have := bk_heap hb
                                rw [this] at e
                                injection e with e
                                injection e with _ e _
                                exact absurd e (by decide))
                            · rcases e with e | e
                              · exact (HF11.out q hf).2 e
                              · have := (HF11.out q hf).1; omega
                            · rcases e with rfl | e
                              · exact .inl a5
                              · exact .inr (by have := HBw.out; omega)
                          clear hD hb hl2x hne2 hkp2 hB2 HR hall
                          go_wp2
                          go_ret
                          unfold RActed
                          rw [HRx.out.1]
                          exact ⟨rfl, HF.out⟩
    · have HR : Hid (s.reset d l = ((fe : Int), s, d)) := by
        show _ = _
        have hx : nextE d.bytes s.epoch l = (fe : Int) := by rw [hnE, if_pos he0]
        rw [hre, hx, if_pos (by omega)]
      have hfi : ((fe : Int) != 0) = true := by simpa using he0
      clear hp hw hok hFG hFH hGH hH hdn hgF hgone hlen hst hnE hep hre he0 HH
      go_enter Tryz.func92, Tryz.ntmps92
      go_wp2_with fail
      refine HC.out.mono ?_
      rintro x w1 ⟨rfl, hb1, hk⟩
      have Hq := Lib.hid (HG.out w1 (by rw [Hgn.out]; exact hb1) hk)
      have HFr1 := HFr.out w1 Hq.out.2.2
      rw [HFX.out] at HFr1
      have HFr1 := Lib.hid HFr1
      clear hb1 hk HC HG HFr HFX
      go_wp2_with fail
      refine HFr1.out.mono ?_
      rintro x w2 ⟨A2, c2, rfl, _, hb2⟩
      have HF := Lib.hid (HEnd.out w2 (HB.out w1 w2 Hq.out hb2))
      clear hb2 HFr1 Hq HB HEnd
      go_wp2
      go_ret
      unfold RActed
      rw [HR.out]
      exact ⟨rfl, HF.out⟩
end Go.Proofs.YtfepjgafamaegaaGreat

/- The document's log: noughts behind the records. -/
namespace Go.Proofs.YtfepjgafamaegaaGreat
open Go.RowKit

/-- What wiped answers. -/
def RWiped (w : World) (F : Nat → Prop) (g M : Nat) (r : Int × Dk) (e : Ending) (w' : World) : Prop :=
  (r.1 = 0 ∧ e = .returned (.tuple #[.pointer (some ⟨g, 0, none⟩), .int .i64 0]) ∨ r.1 ≠ 0 ∧ e = .returned (.tuple #[.pointer none, .int .i64 r.1])) ∧ ∃ F', RD w' F' M r.2 ∧ Mv F F' w w'

set_option maxRecDepth 100000 in
set_option maxHeartbeats 8000000 in
theorem rwiped_meth (g M e en N c ga : Nat) (b : List UInt8) (rs : List (List UInt8)) (d : Dk) (F : Nat → Prop) (w : World) (he : e < 18446744073709551616) (h6 : 6 ≤ d.safe.length) (hwl : d.waits.length ≤ 900000000)
    (hN : N = d.bytes) (hNc : N ≤ c) (hcm : c ≤ 9223372036854775807) (hen : en ≤ N) (hfr : framesF rs = b.take en) (hgF : ¬ F g) (hap : ¬ F ga) (hr : Rd w w.heap.size (some ⟨ga, 0, none⟩) N b) (h : RD w F M d)
    (c0 : w.cell? ⟨g, 0, none⟩ = some (.pointer (some ⟨M, 0, none⟩))) (c1 : w.cell? ⟨g, 1, none⟩ = some (.int .u64 e)) :
    Calls Tryz.prog 137 #[.pointer (some ⟨g, 0, none⟩), .slice (some ⟨ga, 0, none⟩) N c, .int .i64 en] w (RWiped w F g M (afterW (wipeS b (fullF N rs) (d.base e) 0 d.half false d))) := by
  have hlen := h.len
  have hh : d.half ≤ 1024 := by unfold Dk.half halfN; omega
  have hbb := Dk.base_le h6 e
  have hNb : N = d.half * 32 := hN
  have hbl := hr.1
  have hgw := World.block_lt_of_cell? _ _ c0
  have HZ : Hid (∀ i, i < d.half → zk en (i * 32) (chunk b i) 32 = chunk (fullF N rs) i) := fun i hi => zk_full hbl hfr hen i (by omega)
  have HP : Hid (∀ F' w', Mv F F' w w' → w'.cell? ⟨g, 0, none⟩ = some (.pointer (some ⟨M, 0, none⟩)) ∧ w'.cell? ⟨g, 1, none⟩ = some (.int .u64 e) ∧ ¬ F' ga ∧ ¬ F' g ∧ Rd w' w'.heap.size (some ⟨ga, 0, none⟩) N b) := fun F' w' hm => by
    have h1 : ga < w.heap.size := by
      obtain ⟨b, o, e', q1, _⟩ := hr.2 (by omega); injection e' with e'; injection e' with e'; subst e'; exact q1
    refine ⟨cell_kp c0 hm.kp hgF, cell_kp c1 hm.kp hgF, fun hf => ?_, fun hf => ?_, (hr.kpA hm.kp (fun ad e => by injection e with e; subst e; exact hap)).more hm.kp.size⟩
    · rcases hm.new _ hf with h2 | h2
      · exact hap h2
      · omega
    · rcases hm.new _ hf with h2 | h2
      · exact hgF h2
      · have : g < w.heap.size := hgw; omega
  have HB : Hid (∀ d' : Dk, d'.safe.length = d.safe.length → d'.base e = d.base e ∧ 6 ≤ d'.safe.length ∧ d'.half = d.half) := fun d' hd' => ⟨by unfold Dk.base; rw [hd'], by omega, by unfold Dk.half; rw [hd']⟩
  have HRD := Lib.hid h
  clear h hr hN c0 c1 hgw hfr
  generalize hC : fullF N rs = C at *
  generalize hB : d.base e = B at *
  generalize hH : d.half = H at *
  have HC : Hid (∀ i, i < H → (chunk b i).length = 32) := fun i hi => by unfold chunk; rw [List.length_take, List.length_drop, hbl, hNb]; omega
  subst hNb
  have HB2 : Hid (B + H ≤ d.safe.length) := hbb.2.1
  have Hlen : Hid (d.safe.length ≤ 2048) := hlen.2
  clear hbb hB hH hlen h6 hC hbl
  go_enter Tryz.func137, Tryz.ntmps137
  go_wp2
  go_loopg [8, 9] H (fun gk z i wr => ∃ (m : Nat) (zb : Bool), z = .bool zb ∧ i = .int .i64 m ∧ m + gk = H ∧ Hid (∃ F' d', Mv F F' w wr ∧ RD wr F' M d' ∧ d'.safe.length = d.safe.length ∧ d'.waits.length ≤ 900000000 + m ∧ wipeS b C B 0 H false d = wipeS b C B m gk zb d'))
  case atStart => exact ⟨0, false, rfl, rfl, by omega, ⟨F, d, Mv.refl _ _, HRD.out, rfl, by omega, rfl⟩⟩
  case round =>
    obtain ⟨m, zb, rfl, rfl, hk, HR⟩ := hrel
    obtain ⟨F1, d1, hm1, hp1, hsl, hw1, hls⟩ := HR.out
    obtain ⟨k0, k1, hga1, hg1, hr1⟩ := HP.out F1 wr hm1
    obtain ⟨hba, h61, hha⟩ := HB.out d1 hsl
    have HHf := rhalf_meth M d1 F1 wr h61 hp1
    rw [hha] at HHf
    have HHf := Lib.hid HHf
    have Hm1 := Lib.hid hm1
    have Hp1 := Lib.hid hp1
    have Hw1 := Lib.hid hw1
    have Hls := Lib.hid hls
    have Hsl := Lib.hid hsl
    have Hr1 := Lib.hid hr1
    clear hm1 hp1 hsl hw1 hls HR hba hha hr1
    go_wp2_with fail
    refine HHf.out.mono ?_
    rintro x w' ⟨rfl, rfl⟩
    by_cases hmn : m < H
    · have hcl := HC.out m hmn
      have HCopy : Hid (∀ cc, Calls Tryz.prog 22 #[.slice (some ⟨ga, 32 * m, none⟩) 32 cc] wr fun e w' => ∃ v, e = .returned v ∧ w'.ownsRow wr.heap.size 5 1 v 32 (u8s (chunk b m)) ∧ Below wr.heap.size wr w') := fun cc => copy_any (some ⟨ga, 32 * m, none⟩) 32 cc wr.heap.size (chunk b m) wr (by omega) (by
        have := rd_part Hr1.out (32 * m) 32 (by omega)
        unfold chunk
        rw [Nat.mul_comm m 32]
        exact this)
      have hcu : ¬ c = 32 * m := by omega
      have hmi : (m : Int) < (H : Int) := by omega
      have hT1 : (32 * (m : Int)).toNat = 32 * m := by omega
      have hT2 : (32 * (m : Int) + 32).toNat = 32 * m + 32 := by omega
      have hT3 : 32 * m + 32 - 32 * m = 32 := by omega
      have hT4 : (32 * (m : Int) + 32 ≤ (c : Int)) := by omega
      clear k0 k1 HHf
      go_wp2_with fail
      refine (HCopy.out _).mono ?_
      rintro x w3 ⟨vs, rfl, ho3, hb3⟩
      have HSt : Hid (w3.ownsRow wr.heap.size 5 1 vs 32 (u8s (zk en (m * 32) (chunk b m) 0)) ∧ Below wr.heap.size wr w3) := ⟨ho3, hb3⟩
      obtain ⟨gs, cs, rfl⟩ := own_someR ho3 (by omega)
      clear ho3 hb3 HCopy hT1 hT2 hT3 hT4
      obtain ⟨g9, hg9⟩ : ∃ x, x = gk := ⟨_, rfl⟩
      subst hg9
      obtain ⟨w2, hw2⟩ : ∃ x, x = wr := ⟨_, rfl⟩
      subst hw2
      go_wp2
      go_loopg [10, 12] 32 (fun gj dz i2 wr2 => ∃ (j : Nat) (dbo : Bool), dz = .bool dbo ∧ i2 = .int .i64 j ∧ j + gj = 32 ∧ Hid (wr2.ownsRow w2.heap.size 5 1 (.slice (some ⟨gs, 0, none⟩) 32 cs) 32 (u8s (zk en (m * 32) (chunk b m) j)) ∧ Below w2.heap.size w2 wr2 ∧ dbo = decide (zk en (m * 32) (chunk b m) j ≠ chunk b m)))
      case atStart => exact ⟨0, false, rfl, rfl, by omega, ⟨HSt.out.1, HSt.out.2, by simp [zk]⟩⟩
      case round =>
        clear HSt
        obtain ⟨j, dbo, rfl, rfl, hj, HRj⟩ := hrel
        by_cases hj32 : j < 32
        · have hjl : j < (chunk b m).length := by omega
          have hzj := zk_at en (m * 32) (chunk b m) j
          rw [List.getElem?_eq_getElem hjl] at hzj
          obtain ⟨xb, hxb⟩ : ∃ xb, (chunk b m)[j] = xb := ⟨_, rfl⟩
          rw [hxb] at hzj
          have hcx : (chunk b m)[j]? = some xb := by rw [List.getElem?_eq_getElem hjl, hxb]
          have hcell : wr.cell? ⟨gs, j, none⟩ = some (.int .u8 (xb.toNat : Int)) := by
            have := HRj.out.1.cells (g := gs) rfl j (.int .u8 (xb.toNat : Int)) (by unfold u8s; rw [List.getElem?_map, hzj]; rfl)
            rwa [Addr.add_lit, Nat.zero_add] at this
          have hfro := HRj.out.1.frozenAt j
          have hji : (j : Int) < 32 := by omega
          by_cases hge : en ≤ m * 32 + j
          · have hgi : (en : Int) ≤ 32 * (m : Int) + (j : Int) := by omega
            by_cases hx0 : xb = 0
            · subst hx0
              have hN2 : Hid (wr.ownsRow w2.heap.size 5 1 (.slice (some ⟨gs, 0, none⟩) 32 cs) 32 (u8s (zk en (m * 32) (chunk b m) (j + 1))) ∧ Below w2.heap.size w2 wr ∧ dbo = decide (zk en (m * 32) (chunk b m) (j + 1) ≠ chunk b m)) := by
                rw [zk_same hcx]
                exact HRj.out
              clear HRj hzj hcx hge hxb
              go_wp2
              go_roundg (gk - 1)
              case measure => omega
              case rel => exact ⟨j + 1, dbo, rfl, by go_num, by omega, hN2⟩
            · have hxi : (((xb.toNat : Int)) != 0) = true := by
                have : xb.toNat ≠ 0 := fun e => hx0 (by apply UInt8.toNat_inj.1; simpa using e)
                simp; omega
              have hs := HRj.out.1.stored j (.int .u8 0)
              have hN2 : Hid ((wr.setCell ⟨gs, j, none⟩ (.int .u8 0)).ownsRow w2.heap.size 5 1 (.slice (some ⟨gs, 0, none⟩) 32 cs) 32 (u8s (zk en (m * 32) (chunk b m) (j + 1))) ∧ Below w2.heap.size w2 (wr.setCell ⟨gs, j, none⟩ (.int .u8 0)) ∧ true = decide (zk en (m * 32) (chunk b m) (j + 1) ≠ chunk b m)) := by
                have hz1 : zk en (m * 32) (chunk b m) (j + 1) = (zk en (m * 32) (chunk b m) j).set j 0 := if_pos hge
                have hu : u8s ((zk en (m * 32) (chunk b m) j).set j 0) = (u8s (zk en (m * 32) (chunk b m) j)).set j (.int .u8 0) := (u8s_set _ _ 0).symm
                refine ⟨by rw [hz1, hu]; exact hs.1, HRj.out.2.1.grown hs.2 HRj.out.2.1.size (fun k e => by injection e with e; subst e; exact (HRj.out.1.lt gs rfl).1), ?_⟩
                exact (decide_eq_true (zk_ne hcx hx0 hge (j + 1) (by omega))).symm
              clear HRj hzj hcx hge hxb hs
              go_wp2
              go_roundg (gk - 1)
              case measure => omega
              case rel => exact ⟨j + 1, true, rfl, by go_num, by omega, hN2⟩
          · have hgi : ¬ (en : Int) ≤ 32 * (m : Int) + (j : Int) := by omega
            have hN2 : Hid (wr.ownsRow w2.heap.size 5 1 (.slice (some ⟨gs, 0, none⟩) 32 cs) 32 (u8s (zk en (m * 32) (chunk b m) (j + 1))) ∧ Below w2.heap.size w2 wr ∧ dbo = decide (zk en (m * 32) (chunk b m) (j + 1) ≠ chunk b m)) := by
              have hz1 : zk en (m * 32) (chunk b m) (j + 1) = zk en (m * 32) (chunk b m) j := if_neg hge
              rw [hz1]
              exact HRj.out
            clear HRj hzj hcx hge hxb
            go_wp2
            go_roundg (gk - 1)
            case measure => omega
            case rel => exact ⟨j + 1, dbo, rfl, by go_num, by omega, hN2⟩
        · obtain rfl : j = 32 := by omega
          have hz := HZ.out m hmn
          have hrow := HRj.out.1
          have hdb := HRj.out.2.2
          rw [hz] at hrow hdb
          have HmB : Hid (Mv F F1 w wr) := Hm1.out.trans (Mv.of (Kp.of_below HRj.out.2.1))
          have HpB : Hid (RD wr F1 M d1) := Hp1.out.below HRj.out.2.1
          have hj32i : ¬ ((32 : Nat) : Int) < 32 := by omega
          obtain ⟨k', rfl⟩ : ∃ k', g9 = k' + 1 := ⟨g9 - 1, by omega⟩
          by_cases hsame : chunk b m = chunk C m
          · have hdf : dbo = false := by rw [hdb]; simp [hsame]
            have HN := Lib.hid (wipe_same (base := B) (z := zb) (k := k') (d := d1) hsame)
            subst hdf
            clear HRj hrow hdb hz hsame
            go_wp2
            go_roundg k'
            case measure => omega
            case rel => exact ⟨m + 1, zb, rfl, by go_num, by omega, ⟨F1, d1, HmB.out, HpB.out, Hsl.out, by have := Hw1.out; omega, Hls.out.trans HN.out⟩⟩
          · have hdt : dbo = true := by rw [hdb]; simp; exact fun e => hsame e.symm
            subst hdt
            have Hrow := Lib.hid hrow
            have Hns := Lib.hid hsame
            obtain ⟨k0, k1, hga2, hg2, _⟩ := HP.out F1 wr HmB.out
            have e0 : wr.drew.cell? ⟨g, 0, none⟩ = some (.pointer (some ⟨M, 0, none⟩)) := k0
            have e1 : wr.drew.cell? ⟨g, 1, none⟩ = some (.int .u64 e) := k1
            have HFi := rfirst_any M d1 F1 e wr.drew he h61 (HpB.out.below (Below.refl _ _).drew)
            rw [(HB.out d1 Hsl.out).1] at HFi
            have HFi := Lib.hid HFi
            have hga1w : ∀ ad, (some ⟨gs, 0, none⟩ : Option Addr) = some ad → ¬ F1 ad.block := fun ad ee hf => by
              injection ee with ee
              subst ee
              have h1 := (hrow.lt gs rfl).1
              have h2 := Hp1.out.lt _ hf
              have h2 : gs < w2.heap.size := h2
              omega
            have HWr : Hid (Calls Tryz.prog 124 #[.pointer (some ⟨M, 0, none⟩), .int .i64 ((B : Int) + (m : Int)), .slice (some ⟨gs, 0, none⟩) 32 cs] wr.drew fun e w' => e = .returned (.int .i64 (d1.write ((B + m : Nat) : Int) (chunk C m)).1) ∧ ∃ F', RD w' F' M (d1.write ((B + m : Nat) : Int) (chunk C m)).2 ∧ Mv F1 F' wr.drew w') := by
              have := rwrite_any M d1 F1 ((B + m : Nat) : Int) (some ⟨gs, 0, none⟩) 32 cs (chunk C m) wr.drew (by omega) (by have := Hw1.out; omega) (Rd.of_own (own_below hrow (Below.refl _ _).drew (fun k e => (hrow.lt k e).2))) hga1w (HpB.out.below (Below.refl _ _).drew)
              rw [show ((B + m : Nat) : Int) = (B : Int) + (m : Int) by omega] at this ⊢
              exact this
            have hww := dwrite_waits d1 ((B + m : Nat) : Int) (chunk C m)
            have hwln := Dk.write_len d1 ((B + m : Nat) : Int) (chunk C m)
            have hst0 : (d1.write ((B + m : Nat) : Int) (chunk C m)).1 ≠ 0 → wipeS b C B m (k' + 1) zb d1 = ((d1.write ((B + m : Nat) : Int) (chunk C m)).1, true, (d1.write ((B + m : Nat) : Int) (chunk C m)).2) := wipe_stop hsame
            have hnx0 : (d1.write ((B + m : Nat) : Int) (chunk C m)).1 = 0 → wipeS b C B m (k' + 1) zb d1 = wipeS b C B (m + 1) k' true (d1.write ((B + m : Nat) : Int) (chunk C m)).2 := wipe_next hsame
            obtain ⟨⟨r1, d2⟩, hrd⟩ : ∃ p, d1.write ((B + m : Nat) : Int) (chunk C m) = p := ⟨_, rfl⟩
            rw [hrd] at HWr hww hwln hst0 hnx0
            simp only at hww hwln hst0 hnx0
            have Hst0 := Lib.hid hst0
            have Hnx0 := Lib.hid hnx0
            have hwr3 : IntKind.i64.wrap ((B : Int) + (m : Int)) = (B : Int) + (m : Int) := by rw [IntKind.wrap_i64]; have := HB2.out; have := Hlen.out; omega
            clear HRj hrow hdb hz hsame hst0 hnx0 hrd hga1w
            go_wp2
            go_region_held3 (fun w' => w'.cell? ⟨g, 0, none⟩ = some (.pointer (some ⟨M, 0, none⟩)) ∧ w'.cell? ⟨g, 1, none⟩ = some (.int .u64 e)) (first | exact ⟨e0, e1⟩ | exact ⟨m0, m1⟩)
              (first | (go_at_call 132; refine HFi.out.mono ?_; rintro x w' ⟨rfl, rfl⟩) | (go_at_call 124; (try rw [hwr3]); refine HWr.out.mono ?_; rintro x w5 ⟨rfl, F2, hp2, hm2⟩; (have Hm2 : Hid (Mv F F2 w w5) := (HmB.out.trans (Mv.of (Kp.drew F1 wr))).trans hm2); (have Hp2 := Lib.hid hp2); (have m0 : w5.cell? ⟨g, 0, none⟩ = some (.pointer (some ⟨M, 0, none⟩)) := (HP.out F2 w5 Hm2.out).1); (have m1 : w5.cell? ⟨g, 1, none⟩ = some (.int .u64 e) := (HP.out F2 w5 Hm2.out).2.1)))
            clear hp2 hm2 k0 k1 e0 e1 HFi HWr hwr3 m0 m1
            by_cases hr0 : r1 = 0
            · have HN := Lib.hid (Hnx0.out hr0)
              subst hr0
              go_wp2
              go_roundg k'
              case measure => omega
              case rel => exact ⟨m + 1, true, rfl, by go_num, by omega, ⟨F2, d2, Hm2.out, Hp2.out, hwln.trans Hsl.out, by have := Hw1.out; omega, Hls.out.trans HN.out⟩⟩
            · have hne : (r1 != 0) = true := by simpa using hr0
              have hSt : Hid (afterW (wipeS b C B 0 H false d) = (r1, d2)) := by
                show _ = _
                rw [Hls.out, Hst0.out hr0]
                unfold afterW
                simp only
                rw [if_pos (.inl hr0)]
              have Hr0 := Lib.hid hr0
              clear hr0
              go_wp2
              go_ret2
              unfold RWiped
              rw [hSt.out]
              exact ⟨.inr ⟨Hr0.out, rfl⟩, F2, Hp2.out, Hm2.out⟩
    · obtain rfl : m = H := by omega
      have hk0 : gk = 0 := by omega
      subst hk0
      have hmi : ¬ ((m : Int) < (m : Int)) := by omega
      have hS0 : wipeS b C B 0 m false d = (0, zb, d1) := Hls.out
      cases zb with
      | false =>
        have hSt : Hid (afterW (wipeS b C B 0 m false d) = (0, d1)) := by
          show _ = _
          rw [hS0]
          rfl
        clear hS0
        go_wp2
        go_ret2
        unfold RWiped
        rw [hSt.out]
        exact ⟨.inl ⟨rfl, rfl⟩, F1, Hp1.out, Hm1.out⟩
      | true =>
        have hSt : Hid (afterW (wipeS b C B 0 m false d) = d1.sync) := by
          show _ = _
          rw [hS0]
          rfl
        have HSy := rsync_any M d1 F1 wr (by have := Hw1.out; omega) Hp1.out
        obtain ⟨⟨r2, d2⟩, hr2⟩ : ∃ p, d1.sync = p := ⟨_, rfl⟩
        rw [hr2] at HSy hSt
        have HSy := Lib.hid HSy
        clear hS0 hr2
        go_wp2_with fail
        refine HSy.out.mono ?_
        rintro x w5 ⟨rfl, F2, hp2, hm2⟩
        have Hfin : Hid (RD w5 F2 M d2 ∧ Mv F F2 w w5) := ⟨hp2, Hm1.out.trans hm2⟩
        clear hp2 hm2 HSy
        by_cases hr0 : r2 = 0
        · subst hr0
          go_wp2
          go_ret2
          unfold RWiped
          rw [hSt.out]
          exact ⟨.inl ⟨rfl, rfl⟩, F2, Hfin.out⟩
        · have hne : (r2 != 0) = true := by simpa using hr0
          have Hr0 := Lib.hid hr0
          clear hr0
          go_wp2
          go_ret2
          unfold RWiped
          rw [hSt.out]
          exact ⟨.inr ⟨Hr0.out, rfl⟩, F2, Hfin.out⟩
end Go.Proofs.YtfepjgafamaegaaGreat

/- The document's log: Open. -/
namespace Go.Proofs.YtfepjgafamaegaaGreat
open Go.RowKit

/-- A log of the document that was opened, or none. -/
def ROpened (w : World) (F : Nat → Prop) (M : Nat) (d : Dk) (e : Ending) (w' : World) : Prop :=
  ∃ F', RD w' F' M d.openL.2.2 ∧ Mv F F' w w' ∧
    ((d.openL.2.1 = none ∧ e = .returned (.tuple #[.pointer none, .int .i64 d.openL.1])) ∨
     (∃ s g G v vals, d.openL.2.1 = some s ∧ e = .returned (.tuple #[.pointer (some ⟨g, 0, none⟩), .int .i64 d.openL.1]) ∧ RWl w' G g M d.bytes s v vals ∧ (∀ k, G k → w.heap.size ≤ k) ∧ ∀ k, G k → ¬ F' k))
/-- The greatest one of the epochs of the first k heads. -/
def upto (d : Dk) : Nat → Nat
  | 0 => 0
  | k + 1 => max (upto d k) (headE (d.sec k) k)
theorem upto_two (d : Dk) : upto d 2 = d.newest := by simp [upto, Dk.newest]
theorem NewL.below {w w1 w' : World} {F : Nat → Prop} {g M B : Nat} {d : Dk} {ep nv dv : Value} {ls : List (List UInt8)} {k : Nat} (h : NewL w F g M B d ep nv dv ls k w1) (hb : Below w1.heap.size w1 w') : NewL w F g M B d ep nv dv ls k w' := by
  obtain ⟨v, vals, h1, h2, h3, h4, h5, h6⟩ := h
  exact ⟨v, vals, h1.below hb, h2.below hb h2.lt, (h3.below hb).mono (fun q e => ⟨e.1, Nat.lt_of_lt_of_le e.2 hb.size⟩), h4, h5.trans (Kp.of_below hb), Nat.le_trans h6 hb.size⟩
theorem find_stop {l : List UInt8} {p : Nat} (hp : p ≤ l.length) (h : ¬ ∃ f m, getF (l.drop p) = .ok (f, m) ∧ f.1 = 2) :
    findR (l.drop p) = ([], 0) ∧ ∃ kd body tt er, getA l p = (kd, body, tt, er) ∧ (er ≠ 0 ∨ er = 0 ∧ kd ≠ 2) := by
  cases hg : getF (l.drop p) with
  | error e =>
    have he := getF_err hg
    exact ⟨findR_err hg, _, _, _, _, getA_err hp hg, .inl (by omega)⟩
  | ok fk =>
    obtain ⟨f, k⟩ := fk
    have h2 : f.1 ≠ 2 := fun e => h ⟨f, k, hg, e⟩
    exact ⟨findR_kind hg h2, _, _, _, _, getA_ok hp hg, .inr ⟨rfl, h2⟩⟩

set_option maxRecDepth 100000 in
set_option maxHeartbeats 8000000 in
theorem ropen_any (M : Nat) (d : Dk) (F : Nat → Prop) (w : World) (hwl : d.waits.length ≤ 900000000) (h : RD w F M d) :
    Calls Tryz.prog 106 #[.pointer (some ⟨M, 0, none⟩)] w (ROpened w F M d) := by
  have hlen := h.len
  have hM := h.downCell
  obtain ⟨ms, cs, c0⟩ := h.safeCell
  have HL := Lib.hid (openL_after d)
  by_cases h6 : d.safe.length < 6
  · have HE : Hid (d.openL = (40, none, d)) := by show _ = _; rw [HL.out, if_pos h6]
    have HP := Lib.hid h
    clear h HL
    generalize d.safe.length = n at *
    go_enter Tryz.func106, Tryz.ntmps106
    go_wp2
    go_ret2
    unfold ROpened
    rw [HE.out]
    exact ⟨F, HP.out, Mv.refl _ _, .inl ⟨rfl, rfl⟩⟩
  · by_cases hd : d.down = true
    · have HE : Hid (d.openL = (6, none, d)) := by show _ = _; rw [HL.out, if_neg h6, if_pos hd]
      have HP := Lib.hid h
      rw [hd] at hM
      clear h HL hd
      generalize d.safe.length = n at *
      go_enter Tryz.func106, Tryz.ntmps106
      go_wp2
      go_ret2
      unfold ROpened
      rw [HE.out]
      exact ⟨F, HP.out, Mv.refl _ _, .inl ⟨rfl, rfl⟩⟩
    · have hdf : d.down = false := by simpa using hd
      rw [hdf] at hM
      have h6' : 6 ≤ d.safe.length := by omega
      have HE : Hid (d.openL = if (afterW d.wiped).1 = 0 then (0, some d.found, (afterW d.wiped).2) else ((afterW d.wiped).1, none, (afterW d.wiped).2)) := by show _ = _; rw [HL.out, if_neg h6, if_neg hd]
      have hok := h.ok
      have hal := Dk.area_len hok h6' d.newest
      have HRD : Hid (∀ W, Below w.heap.size w W → RD W F M d) := fun W hb => h.below hb
      have HHd : Hid (∀ W i, Below w.heap.size w W → i < 2 → Calls Tryz.prog 134 #[.pointer (some ⟨M, 0, none⟩), .int .i64 (i : Nat)] W (HeadR (d.sec i) i W)) := fun W i hb hi => rhead_meth M d F i W (by omega) hdf hi h6' (h.below hb)
      have hnl := newest_lt d
      have hb64 : 64 ≤ d.bytes := by have := (Dk.base_le h6' d.newest).2.2; unfold Dk.bytes; omega
      have HBy : Hid (∀ W, Below w.heap.size w W → Calls Tryz.prog 135 #[.pointer (some ⟨M, 0, none⟩), .int .u64 d.newest] W fun e w' => ∃ ga c, e = .returned (.slice (some ⟨ga, 0, none⟩) d.bytes c) ∧ w'.ownsRow W.heap.size 5 1 (.slice (some ⟨ga, 0, none⟩) d.bytes c) d.bytes (u8s (d.area d.newest)) ∧ Below W.heap.size W w' ∧ d.bytes ≤ c ∧ c ≤ 9223372036854775807) := fun W hb => by
        refine (rbytes_meth M d F d.newest W (by omega) (by omega) hdf h6' (h.below hb)).mono ?_
        rintro x w' ⟨Aa, ca, rfl, ho, hb⟩
        rw [hal] at ho ⊢
        obtain ⟨ga, ca', e6⟩ := own_someR ho (by omega)
        obtain ⟨A3, c3, e7, p4, p5⟩ := own_shape ho
        injection e6 with e8 _ e9
        injection e7 with e10 _ e11
        subst e8 e9 e11
        exact ⟨ga, ca, rfl, ho, hb, p4, by unfold maxLen at p5; omega⟩
      have hfo := found_ok d hok h6'
      have HFO := Lib.hid hfo
      have hFlt := Lib.hid h.lt
      have hbs : d.bytes ≤ 40000 := by unfold Dk.bytes Dk.half halfN; omega
      obtain ⟨hli1, hli2, hli3⟩ := findR_lies (d.area d.newest)
      have hliu := findR_used (d.area d.newest)
      have HW : Hid (∀ W g ga c, ¬ F g → ¬ F ga → RD W F M d → d.bytes ≤ c → c ≤ 9223372036854775807 → Rd W W.heap.size (some ⟨ga, 0, none⟩) d.bytes (d.area d.newest) → W.cell? ⟨g, 0, none⟩ = some (.pointer (some ⟨M, 0, none⟩)) → W.cell? ⟨g, 1, none⟩ = some (.int .u64 d.newest) →
          Calls Tryz.prog 137 #[.pointer (some ⟨g, 0, none⟩), .slice (some ⟨ga, 0, none⟩) d.bytes c, .int .i64 (findR (d.area d.newest)).2] W (RWiped W F g M (afterW d.wiped))) := fun W g ga c q1 q2 q3 q4 q5 q6 q7 q8 =>
        rwiped_meth g M d.newest (findR (d.area d.newest)).2 d.bytes c ga (d.area d.newest) (findR (d.area d.newest)).1 d F W (by omega) h6' hwl rfl q4 q5 (by rw [← hal]; exact hli2) hli1 q1 q2 q6 q3 q7 q8
      have Hrs : Hid (d.found = { epoch := d.newest, recs := (findR (d.area d.newest)).1, safe := (findR (d.area d.newest)).1.length, gone := false }) := rfl
      have hU2 := upto_two d
      have HUs : Hid (∀ k, upto d (k + 1) = max (upto d k) (headE (d.sec k) k)) := fun k => rfl
      have HU0 : Hid (upto d 0 = 0) := rfl
      have HUlt : Hid (∀ k, k ≤ 2 → upto d k < 18446744073709551616) := by
        have hh0 := headE_lt (d.sec 0) 0
        have hh1 := headE_lt (d.sec 1) 1
        intro k hk
        match k, hk with
        | 0, _ => show 0 < _; omega
        | 1, _ => show max 0 (headE (d.sec 0) 0) < _; omega
        | 2, _ => rw [hU2]; omega
      generalize d.area d.newest = area at *
      generalize d.newest = ep at *
      generalize hN : d.bytes = N at *
      generalize hnn : d.safe.length = n at *
      obtain ⟨⟨rs, en⟩, hfr⟩ : ∃ p, findR area = p := ⟨_, rfl⟩
      rw [hfr] at HW Hrs hli1 hli2 hli3 hliu
      simp only at HW Hrs hli1 hli2 hli3 hliu
      have hcnt := usedF_count rs
      have HN := Lib.hid hN
      have Hfr := Lib.hid hfr
      have Hal := Lib.hid hal
      have HU2 := Lib.hid hU2
      obtain ⟨i1, hi1, hy0, hy1, hy2⟩ := info_parts Tryz.infoBytes
      have Hi1 := Lib.hid hi1
      have Hy0 := Lib.hid hy0
      have Hy1 := Lib.hid hy1
      have Hy2 := Lib.hid hy2
      clear h HL hok hfo hd hdf hfr hal hi1 hy0 hy1 hy2 hN hU2 hli1 hli2 hli3
      go_enter Tryz.func106, Tryz.ntmps106
      go_wp2
      go_loopg [5] 2 (fun gk i wr => ∃ k : Nat, i = .int .i64 k ∧ k + gk = 2 ∧ Hid (Below w.heap.size w wr ∧ Bk wr w.heap.size 69 #[.pointer (some ⟨M, 0, none⟩), .int .u64 (upto d k : Nat), .slice none 0 0, .int .i64 0, .bool false]))
      case atStart => exact ⟨0, rfl, by omega, ⟨(Below.refl w.heap.size w).alloc (Nat.le_refl _) _, Bk.new w _ _⟩⟩
      case round =>
        obtain ⟨k, rfl, hk, HR⟩ := hrel
        obtain ⟨hb1, hbk⟩ := HR.out
        by_cases hk2 : k < 2
        · have HC := Lib.hid (HHd.out wr k hb1 hk2)
          have hki : (k : Int) < 2 := by omega
          have Hb1 := Lib.hid hb1
          have Hbk := Lib.hid hbk
          have HUk := HUs.out k
          have hul := HUlt.out k (by omega)
          clear hb1 hbk HR
          generalize upto d k = u at *
          go_wp2_with fail
          refine HC.out.mono ?_
          rintro x w2 ⟨v, b, rfl, hE, hv, hb2⟩
          rw [hE] at HUk
          have HB2 := Lib.hid (below_then Hb1.out hb2)
          have hbk2 := Hbk.out.below hb2 Hbk.out.lt
          have c1 := hbk2.cell 1
          have f1 := hbk2.frozen 1
          simp only [List.getElem?_toArray, List.getElem?_cons_zero, List.getElem?_cons_succ] at c1
          have Hbk2 := Lib.hid hbk2
          clear hb2 hbk2 HC Hb1 Hbk
          cases b with
          | false =>
            have HUk2 : Hid (upto d (k + 1) = u) := by show _ = _; rw [HUk]; simp
            clear HUk hE
            go_wp2
            go_roundg (gk - 1)
            case measure => omega
            case rel => exact ⟨k + 1, by go_num, by omega, ⟨HB2.out, by rw [HUk2.out]; exact Hbk2.out⟩⟩
          | true =>
            by_cases hvu : u < v
            · have HUk2 : Hid (upto d (k + 1) = v) := by show _ = _; rw [HUk]; simp; omega
              have hvi : (u : Int) < (v : Int) := by omega
              have HS : Hid (Below w.heap.size w (w2.setCell ⟨w.heap.size, 1, none⟩ (.int .u64 v)) ∧ Bk (w2.setCell ⟨w.heap.size, 1, none⟩ (.int .u64 v)) w.heap.size 69 #[.pointer (some ⟨M, 0, none⟩), .int .u64 v, .slice none 0 0, .int .i64 0, .bool false]) := ⟨HB2.out.setCell (Nat.le_refl _) _, Hbk2.out.set_ 1 _⟩
              clear HUk hE HB2 Hbk2
              go_wp2
              go_roundg (gk - 1)
              case measure => omega
              case rel => exact ⟨k + 1, by go_num, by omega, ⟨HS.out.1, by rw [HUk2.out]; exact HS.out.2⟩⟩
            · have HUk2 : Hid (upto d (k + 1) = u) := by show _ = _; rw [HUk]; simp; omega
              have hvi : ¬ (u : Int) < (v : Int) := by omega
              clear HUk hE
              go_wp2
              go_roundg (gk - 1)
              case measure => omega
              case rel => exact ⟨k + 1, by go_num, by omega, ⟨HB2.out, by rw [HUk2.out]; exact Hbk2.out⟩⟩
        · obtain rfl : k = 2 := by omega
          rw [HU2.out] at hbk
          have c1 := hbk.cell 1
          simp only [List.getElem?_toArray, List.getElem?_cons_zero, List.getElem?_cons_succ] at c1
          have Hb1 := Lib.hid hb1
          have Hbk := Lib.hid hbk
          have HC := Lib.hid (HBy.out wr hb1)
          clear hb1 hbk HR HHd HBy HUs HU0 HUlt HU2
          go_wp2_with fail
          refine HC.out.mono ?_
          rintro x w2 ⟨ga, cb, rfl, ho2, hb2, hcb, hcm⟩
          have hga := ho2.lt ga rfl
          have hgl : w.heap.size < wr.heap.size := Hbk.out.lt
          have hbk2 := Hbk.out.below hb2 Hbk.out.lt
          have HFg : Hid (∀ q, F q → q < w2.heap.size ∧ q ≠ w.heap.size) := fun q hf => by have := hFlt.out q hf; have := hb2.size; omega
          have HRow : Hid (∀ W, Kp (fun q => q = w.heap.size ∨ w2.heap.size ≤ q) w2 W → Rd W W.heap.size (some ⟨ga, 0, none⟩) N area) := fun W hk => ((Rd.of_own ho2).kpA hk (fun ad e => by injection e with e; subst e; simp only; omega)).more hk.size
          have HBw : Hid (Below w.heap.size w w2) := below_then Hb1.out hb2
          have HNL0 : Hid (NewL w2 F w.heap.size M w2.heap.size d (.int .u64 ep) (.int .i64 0) (.bool false) rs 0 w2) := ⟨.slice none 0 0, [], HRD.out w2 HBw.out, hbk2, by rw [List.take_zero]; exact LstV.nil _ _, by simp [Value.ownBlock], Kp.refl _ _, Nat.le_refl _⟩
          have Hga : Hid (¬ F ga) := fun hf => by have := hFlt.out ga hf; omega
          have Hgs : Hid (w.heap.size < w2.heap.size) := by show _ < _; have := hb2.size; omega
          have c1 := hbk2.cell 1
          simp only [List.getElem?_toArray, List.getElem?_cons_zero, List.getElem?_cons_succ] at c1
          clear ho2 hb2 hga hgl hbk2 HC Hb1 Hbk c1
          obtain ⟨g, hg⟩ : ∃ g, w.heap.size = g := ⟨_, rfl⟩
          rw [hg] at HFg HRow HNL0 Hgs
          have Hg := Lib.hid hg
          rw [hg]
          clear hg
          go_wp2
          go_loopg [9] N (fun gk at_ wr => ∃ (k p : Nat), at_ = .int .i64 (p : Nat) ∧ p + gk = N ∧ 10 * k ≤ p ∧ Hid (∃ dn : List (List UInt8), dn.length = k ∧ findR area = (dn ++ (findR (area.drop p)).1, p + (findR (area.drop p)).2)) ∧ Hid (NewL w2 F g M w2.heap.size d (.int .u64 ep) (.int .i64 0) (.bool false) rs k wr))
          case atStart => exact ⟨0, 0, rfl, by omega, by omega, ⟨[], rfl, by simp⟩, HNL0⟩
          case round =>
            clear HNL0
            obtain ⟨k, p, rfl, hp, hkp, HD, HR⟩ := hrel
            obtain ⟨v0, vals0, _, _, _, _, hkp0, _⟩ := HR.out
            have hrow := HRow.out wr hkp0
            have HG := refGetF_any (some ⟨ga, 0, none⟩) N cb p area wr hcb (by omega) hcm hrow
            have HX : Hid (∀ W, Below wr.heap.size wr W → NewL w2 F g M w2.heap.size d (.int .u64 ep) (.int .i64 0) (.bool false) rs k W) := fun W hb => HR.out.below hb
            clear hrow hkp0 HR
            by_cases hok2 : ∃ f m, getF (area.drop p) = .ok (f, m) ∧ f.1 = 2
            · obtain ⟨⟨kd, body⟩, m, hgf, hf2⟩ := hok2
              have hf2 : kd = 2 := hf2
              subst hf2
              have hle := getF_le hgf
              rw [List.length_drop, Hal.out] at hle
              rw [getA_ok (by rw [Hal.out]; omega) hgf] at HG
              have hnx := findR_ok hgf rfl
              rw [List.drop_drop] at hnx
              obtain ⟨dn, hdn, hfd⟩ := HD.out
              rw [hnx] at hfd
              simp only at hfd
              have hrs : rs = dn ++ (body :: (findR (area.drop (p + m))).1) := by rw [Hfr.out] at hfd; injection hfd
              have hkr : k < rs.length := by rw [hrs, ← hdn]; simp
              have hrk : rs[k] = body := by
                have : rs[k]? = some body := by rw [hrs, List.getElem?_append_right (by omega), hdn, Nat.sub_self]; rfl
                rw [List.getElem?_eq_getElem hkr] at this
                injection this
              have HD2 : Hid (∃ dn : List (List UInt8), dn.length = k + 1 ∧ findR area = (dn ++ (findR (area.drop (p + m))).1, p + m + (findR (area.drop (p + m))).2)) := ⟨dn ++ [body], by simp [hdn], by rw [hfd, Nat.add_assoc]; simp⟩
              have Hkr := Lib.hid hkr
              have Hrk : Hid (∀ h : k < rs.length, rs[k] = body) := fun _ => hrk
              have hb4 : body.length ≤ 1024 := by have := hle.2.2.1; simp only at this; omega
              have hm10 : 10 ≤ m ∧ p + m ≤ N := by omega
              simp only at HG
              have HG := Lib.hid HG
              have Hb4 : Hid (∃ nb, body.length = nb) := ⟨_, rfl⟩
              obtain ⟨nb, hnb⟩ := Hb4.out
              rw [hnb] at hb4 HG
              have Hnb := Lib.hid hnb
              clear hgf hle hnx hfd hrs hkr hrk hdn HD Hb4 hnb
              go_wp2_with fail
              refine HG.out.mono ?_
              rintro x w3 ⟨vb, rfl, hob, hbb⟩
              obtain ⟨Av, cv, rfl, hc3, hc4⟩ := own_shape hob
              have hbX : Below wr.heap.size wr (w3.alloc (.cells #[.int .u8 2, .slice Av nb cv] 167)) := hbb.alloc hbb.size _
              have hbk := Bk.new w3 167 #[.int .u8 2, .slice Av nb cv]
              have n0 := hbk.cell 0
              have n1 := hbk.cell 1
              simp only [List.getElem?_toArray, List.getElem?_cons_zero, List.getElem?_cons_succ] at n0 n1
              obtain ⟨v2, vals2, hD, hb, hl2, hne2, hkp2, hB2⟩ := HX.out _ hbX
              have hvl : vals2.length ≤ 4000 := by have := hl2.len; rw [List.length_take] at this; omega
              have hwr2 : w2.heap.size ≤ wr.heap.size := by obtain ⟨_, _, _, _, _, _, _, q⟩ := HX.out wr (Below.refl _ _); exact q
              have hob1 : (w3.alloc (.cells #[.int .u8 2, .slice Av nb cv] 167)).ownsRow w2.heap.size 5 1 (.slice Av nb cv) nb (u8s body) := own_mono (own_below hob ((Below.refl w3.heap.size w3).alloc (Nat.le_refl _) _) (fun k e => (hob.lt k e).2)) hwr2
              go_wp2
              obtain ⟨X, hXX⟩ : ∃ X, w3.alloc (.cells #[.int .u8 2, .slice Av nb cv] 167) = X := ⟨_, rfl⟩
              rw [hXX] at hob1 hD hb hl2 hkp2 hB2 n0 n1
              rw [hXX]
              have HSt2 : Hid (∀ W, Below X.heap.size X W → RD W F M d ∧ Bk W g 69 #[.pointer (some ⟨M, 0, none⟩), .int .u64 ep, v2, .int .i64 0, .bool false] ∧ LstV W (fun q => w2.heap.size ≤ q ∧ q < W.heap.size) v2 vals2 (rs.take k) ∧ Kp (fun q => q = g ∨ w2.heap.size ≤ q) w2 W ∧ w2.heap.size ≤ W.heap.size ∧ W.ownsRow w2.heap.size 5 1 (.slice Av nb cv) nb (u8s body)) := fun W hbb =>
                ⟨hD.below hbb, hb.below hbb hb.lt, (hl2.below hbb).mono (fun q e => ⟨e.1, Nat.lt_of_lt_of_le e.2 hbb.size⟩), hkp2.trans (Kp.of_below hbb), Nat.le_trans hB2 hbb.size, own_below hob1 hbb (fun k e => (hob1.lt k e).2)⟩
              have Hd : Hid (∀ o, RD (X.alloc o).drew F M d ∧ Bk (X.alloc o).drew g 69 #[.pointer (some ⟨M, 0, none⟩), .int .u64 ep, v2, .int .i64 0, .bool false] ∧ LstV (X.alloc o).drew (fun q => w2.heap.size ≤ q ∧ q < (X.alloc o).drew.heap.size) v2 vals2 (rs.take k) ∧ Kp (fun q => q = g ∨ w2.heap.size ≤ q) w2 (X.alloc o).drew ∧ w2.heap.size ≤ (X.alloc o).drew.heap.size ∧ (X.alloc o).drew.ownsRow w2.heap.size 5 1 (.slice Av nb cv) nb (u8s body)) := fun o => HSt2.out _ ((Below.refl _ _).alloc (Nat.le_refl _) o).drew
              have c2 : X.cell? ⟨g, 2, none⟩ = some v2 := hb.cell 2
              have c2c : ∀ o, (X.alloc o).drew.cell? ⟨g, 2, none⟩ = some v2 := fun o => (Hd.out o).2.1.cell 2
              have fz2 : X.frozen? ⟨g, 2, none⟩ = false := hb.frozen 2
              have Hne2 := Lib.hid hne2
              clear hXX hob1 hD hb hl2 hne2 hkp2 hB2 hbX hob hbb hbk HG HX n0
              go_region_law ((refine step_append_app _ rfl _ _ 67 (by rfl) 0 23 i1 (.slice none 0 0) 1 24 Tryz.underlying67 Hi1.out Hy0.out Hy1.out Hy2.out rfl v2 vals2.length vals2 (by rfl) (Hd.out (.cells #[.slice Av nb cv] 23)).2.2.1.row (some ⟨X.heap.size, 0, none⟩) 1 1 [.slice Av nb cv] (by rfl) rfl (by intro e; cases e) (one_new _ _ _ rfl) (by intro u hu; simp at hu; subst hu; rfl) (by unfold maxLen; omega) (by omega) (by simp) ?_); intro v' w5 happ; (have hk3 : Kp (fun k => v2.ownBlock = some k) _ w5 := Kp.of_row happ.grow (fun g e => e)); (have kb := (Hd.out (.cells #[.slice Av nb cv] 23)).2.1.kp hk3 (fun e => Hne2.out e)); (have k2 := kb.cell 2); (have kf := kb.frozen 2); (obtain ⟨Av2, cv2, rfl, _⟩ := own_shape happ.own))
              all_goals
                obtain ⟨q1, q2, q3, q4, q5, q6⟩ := Hd.out (.cells #[.slice Av nb cv] 23)
                have HN2 : Hid (NewL w2 F g M w2.heap.size d (.int .u64 ep) (.int .i64 0) (.bool false) rs (k + 1) (w5.setCell ⟨g, 2, none⟩ (.slice Av2 (vals2.length + 1) cv2))) := NewL.next Hkr.out HFg.out q1 q2 q3 Hne2.out q4 q5 (by rw [Hrk.out _]; exact q6) happ
                clear q1 q2 q3 q4 q5 q6 happ hk3 kb k2 kf c2 c2c fz2 Hd HSt2
                go_wp2
                go_roundg (gk - m)
                case measure => omega
                case rel => exact ⟨k + 1, p + m, by go_num, by omega, by omega, HD2, HN2⟩
            · obtain ⟨hst, kd, body, tt, er, hA, hcnd⟩ := find_stop (by rw [Hal.out]; omega) hok2
              rw [hA] at HG
              simp only at HG
              obtain ⟨dn, hdn, hfd⟩ := HD.out
              rw [hst, Hfr.out] at hfd
              have hrs : rs = dn := by have := congrArg Prod.fst hfd; simpa using this
              have hen : en = p := by have := congrArg Prod.snd hfd; simpa using this
              have hk : rs.length = k := by rw [hrs]; exact hdn
              subst hen
              have Hk := Lib.hid hk
              have HG := Lib.hid HG
              have Hb4 : Hid (∃ nb, body.length = nb) := ⟨_, rfl⟩
              obtain ⟨nb, hnb⟩ := Hb4.out
              rw [hnb] at HG
              clear hst hA hfd hrs hdn HD hok2 Hb4 hnb hk
              have hkdl := kd.toNat_lt
              have hcn : ((er != 0) = true) ∨ (er = 0 ∧ ((kd.toNat : Int) != 2) = true) := by
                rcases hcnd with hne | ⟨h0, hkd⟩
                · exact .inl (by simpa using hne)
                · exact .inr ⟨h0, by simp; intro h; exact hkd (UInt8.toNat_inj.1 (by have : (2 : UInt8).toNat = 2 := rfl; omega))⟩
              clear hcnd
              rcases hcn with hne1 | ⟨rfl, hkd1⟩
              all_goals
                go_wp2_with fail
                refine HG.out.mono ?_
                rintro x w3 ⟨vb, rfl, hob, hbb⟩
                obtain ⟨Av, cv, rfl, _⟩ := own_shape hob
                have hbX : Below wr.heap.size wr (w3.alloc (.cells #[.int .u8 (kd.toNat : Int), .slice Av nb cv] 167)) := hbb.alloc hbb.size _
                obtain ⟨v2, vals2, hD, hb, hl2, hne2, hkp2, hB2⟩ := HX.out _ hbX
                obtain ⟨Av2, cv2, rfl, _⟩ := own_shape hl2.row
                have hvl : vals2.length = rs.length := by have := hl2.len; rw [List.length_take] at this; rw [this, Hk.out]; omega
                have Hhl : Hid (vals2.length = rs.length) := hvl
                have hall : rs.take k = rs := List.take_of_length_le (by rw [Hk.out]; exact Nat.le_refl _)
                rw [hall] at hl2
                have c2 := hb.cell 2
                have fz3 := hb.frozen 3
                have c3 := hb.cell 3
                simp only [List.getElem?_toArray, List.getElem?_cons_zero, List.getElem?_cons_succ] at c2 c3
                have hk4 : ∀ W, Kp (· = g) W (W.setCell ⟨g, 3, none⟩ (.int .i64 (vals2.length : Nat))) := fun W => Kp.set_ (F := (· = g)) (p := ⟨g, 3, none⟩) rfl _
                have hb4 := hb.set_ 3 (.int .i64 (vals2.length : Nat))
                have hD4 := hD.kp (hk4 _) (fun q hf e => (HFg.out q hf).2 e)
                have hkp4 := hkp2.trans ((hk4 _).mono fun q e => .inl e)
                have HCw := Lib.hid (HW.out _ g ga cb (fun hf => (HFg.out g hf).2 rfl) Hga.out hD4 hcb hcm (HRow.out _ hkp4) (hb4.cell 0) (hb4.cell 1))
                have hMv : Mv F F w _ := Mv.of (Kp.fresh (B := w.heap.size) (((Kp.of_below (F := fun q => F q ∨ w.heap.size ≤ q) HBw.out).trans (hkp4.mono (fun q e => .inr (by have := Hg.out; have := Hgs.out; rcases e with e | e <;> omega))))) (Nat.le_refl _))
                have hl4 : LstV _ (fun q => q = g ∨ (w2.heap.size ≤ q ∧ q < _)) (.slice Av2 vals2.length cv2) vals2 rs := (hl2.mono (fun q e => .inr e)).set_ (hk4 _) hne2 (fun cs e => by
                  have := bk_heap hb
                  rw [this] at e
                  injection e with e
                  injection e with _ e _
                  exact absurd e (by decide))
                have hsz : (w3.alloc (.cells #[.int .u8 (kd.toNat : Int), .slice Av nb cv] 167)).heap.size = ((w3.alloc (.cells #[.int .u8 (kd.toNat : Int), .slice Av nb cv] 167)).setCell ⟨g, 3, none⟩ (.int .i64 (vals2.length : Nat))).heap.size := by simp [World.setCell]
                have hg4 : g < (w3.alloc (.cells #[.int .u8 (kd.toNat : Int), .slice Av nb cv] 167)).heap.size := hb.lt
                have HS4 : Hid (Bk ((w3.alloc (.cells #[.int .u8 (kd.toNat : Int), .slice Av nb cv] 167)).setCell ⟨g, 3, none⟩ (.int .i64 (vals2.length : Nat))) g 69 #[.pointer (some ⟨M, 0, none⟩), .int .u64 ep, .slice Av2 vals2.length cv2, .int .i64 (vals2.length : Nat), .bool false] ∧ LstV ((w3.alloc (.cells #[.int .u8 (kd.toNat : Int), .slice Av nb cv] 167)).setCell ⟨g, 3, none⟩ (.int .i64 (vals2.length : Nat))) (fun q => q = g ∨ (w2.heap.size ≤ q ∧ q < (w3.alloc (.cells #[.int .u8 (kd.toNat : Int), .slice Av nb cv] 167)).heap.size)) (.slice Av2 vals2.length cv2) vals2 rs ∧ Value.ownBlock (.slice Av2 vals2.length cv2) ≠ some g) := ⟨hb4, hl4, hne2⟩
                have HMv := Lib.hid hMv
                have Hsz := Lib.hid hsz
                have Hg4 := Lib.hid hg4
                clear hb hl2 hne2 hkp2 hB2 hD hk4 hb4 hD4 hkp4 hMv hl4 hsz hg4 hob hbb hbX HG HX HRow hall hvl
                go_wp2_with fail
                refine HCw.out.mono ?_
                rintro x w5 ⟨hx, F5, hp5, hm5⟩
                have HFin : Hid (∀ k, (k = g ∨ (w2.heap.size ≤ k ∧ k < (w3.alloc (.cells #[.int .u8 (kd.toNat : Int), .slice Av nb cv] 167)).heap.size)) → ¬ F k) := fun q e hf => by
                  have := HFg.out q hf
                  rcases e with e | e <;> omega
                rcases hx with ⟨hr0, rfl⟩ | ⟨hr0, rfl⟩
                · have HE2 := HE.out.trans (if_pos hr0)
                  have hR : RWl w5 (fun q => q = g ∨ (w2.heap.size ≤ q ∧ q < (w3.alloc (.cells #[.int .u8 (kd.toNat : Int), .slice Av nb cv] 167)).heap.size)) g M d.bytes d.found (.slice Av2 vals2.length cv2) vals2 := by
                    have h4 := hm5.kp.size
                    have h5 := Hsz.out
                    have h6 := Hg4.out
                    rw [HN.out, Hrs.out]
                    refine ⟨.inl rfl, fun q e => ?_, by have := HFO.out; rw [Hrs.out] at this; exact this, ?_, HS4.out.2.1.kp hm5.kp HFin.out, HS4.out.2.2⟩
                    · rcases e with e | e <;> omega
                    · have := HS4.out.1.kp hm5.kp (HFin.out g (.inl rfl))
                      have e : ((rs.length : Nat) : Int) = (vals2.length : Int) := by rw [Hhl.out]
                      show Bk w5 g _ #[_, _, .slice Av2 vals2.length cv2, .int .i64 ((rs.length : Nat) : Int), .bool false]
                      rw [e]
                      exact this
                  have hQ : ROpened w F M d (.returned (.tuple #[.pointer (some ⟨g, 0, none⟩), .int .i64 0])) w5 := by
                    unfold ROpened
                    rw [HE2]
                    refine ⟨F5, hp5, HMv.out.trans hm5, .inr ⟨d.found, g, _, _, vals2, rfl, rfl, hR, fun q e => ?_, fun q e hf => ?_⟩⟩
                    · have := Hg.out; have := Hgs.out
                      rcases e with e | e <;> omega
                    · rcases hm5.new q hf with h | h
                      · exact HFin.out q e h
                      · have h5 := Hsz.out
                        have h6 := Hg4.out
                        rcases e with e | e <;> omega
                  have HQ := Lib.hid hQ
                  clear hQ hR hp5 hm5 hr0 HE2 HFin HS4 HMv
                  go_wp2
                  go_ret2
                  exact HQ.out
                · have HE2 := HE.out.trans (if_neg hr0)
                  have hQ : ROpened w F M d (.returned (.tuple #[.pointer none, .int .i64 (afterW d.wiped).1])) w5 := by
                    unfold ROpened
                    rw [HE2]
                    exact ⟨F5, hp5, HMv.out.trans hm5, .inl ⟨rfl, rfl⟩⟩
                  have HQ := Lib.hid hQ
                  clear hQ hp5 hm5 hr0 HE2 HFin HS4 HMv
                  go_wp2
                  go_ret2
                  exact HQ.out
end Go.Proofs.YtfepjgafamaegaaGreat

/- Plain: what stands on a disk behind calls that went well; opening again changes nothing. -/
namespace Go.Proofs.YtfepjgafamaegaaGreat

/-- The power is there, and no act is counted. -/
def Dk.Free (d : Dk) : Prop := d.down = false ∧ d.left = -1
theorem Dk.Free.act {d : Dk} (h : d.Free) : d.act = (true, d) := by
  unfold Dk.act
  rw [h.1, h.2]
  rfl
theorem Dk.Free.write {d : Dk} (h : d.Free) {a : Nat} {s : List UInt8} (ha : a < d.safe.length) (hs : s.length = 32) : d.write (a : Int) s = (0, { d with waits := d.waits ++ [(a, s)] }) := by
  unfold Dk.write
  rw [if_neg (by simp [h.1]), if_neg (by omega), h.act]
  simp
theorem Dk.Free.sync {d : Dk} (h : d.Free) : d.sync = (0, { d with safe := syncS d.safe d.waits, waits := [] }) := by
  unfold Dk.sync
  rw [h.act]
  rfl
theorem Dk.crash_free (d : Dk) (ks : List Int) : (d.crash ks).Free := ⟨rfl, rfl⟩
theorem Dk.new_free (n : Nat) : (Dk.new n).Free := ⟨rfl, rfl⟩
theorem Dk.crash_same {d : Dk} (h : d.Free) (hw : d.waits = []) (ks : List Int) : d.crash ks = d := by
  obtain ⟨s, w, l, dn⟩ := d
  obtain ⟨h1, h2⟩ := h
  simp only at h1 h2 hw
  subst h1 h2 hw
  unfold Dk.crash
  rw [crashS_nil]

theorem sync_went {d : Dk} (h : d.sync.1 = 0) : d.sync.2.waits = [] ∧ d.sync.2.safe = syncS d.safe d.waits := by
  unfold Dk.sync at h ⊢
  split
  · exact ⟨rfl, rfl⟩
  · rename_i ha; rw [if_neg ha] at h; cases h
theorem sec_sync {d : Dk} (hok : d.Ok) (h : d.sync.1 = 0) (j : Nat) (hj : j < d.safe.length) : d.sync.2.sec j = d.sec j := by
  obtain ⟨h1, h2⟩ := sync_went h
  unfold Dk.sec
  rw [h1, h2, seen_nil, seen_sync d.waits d.safe (fun x hx => (hok.waits x hx).1) j hj]
theorem sec_calm {d : Dk} (h : d.waits = []) (j : Nat) : d.sec j = d.safe.getD j [] := by unfold Dk.sec; rw [h, seen_nil]
theorem sec_crash_calm {d : Dk} (h : d.waits = []) (ks : List Int) (j : Nat) : (d.crash ks).sec j = d.sec j := by
  rw [sec_calm h, sec_calm (d := d.crash ks) rfl, d.crash_none h ks]

/-- Sectors that were laid. -/
theorem layS_sec (b : List UInt8) (base : Nat) : ∀ (k i : Nat) (d : Dk), (layS b base i k d).1 = 0 → ∀ j, (layS b base i k d).2.sec j = if base + i ≤ j ∧ j < base + i + k then chunk b (j - base) else d.sec j := by
  intro k
  induction k with
  | zero => intro i d _ j; rw [if_neg (by omega)]; rfl
  | succ k ih =>
    intro i d h j
    by_cases hw : (d.write ((base + i : Nat) : Int) (chunk b i)).1 = 0
    · rw [layS_next hw] at h ⊢
      rw [ih (i + 1) _ h j, sec_write hw j]
      by_cases h1 : base + i = j
      · subst h1
        rw [if_neg (by omega), if_pos rfl, if_pos (by omega), show base + i - base = i by omega]
      · rw [if_neg h1]
        by_cases h2 : base + (i + 1) ≤ j ∧ j < base + (i + 1) + k
        · rw [if_pos h2, if_pos (by omega)]
        · rw [if_neg h2, if_neg (by omega)]
    · rw [layS_stop hw] at h
      exact absurd h hw
theorem layS_ok (b : List UInt8) (base : Nat) : ∀ (k i : Nat) (d : Dk), d.Ok → (layS b base i k d).2.Ok := by
  intro k
  induction k with
  | zero => intro i d h; exact h
  | succ k ih =>
    intro i d h
    by_cases hw : (d.write ((base + i : Nat) : Int) (chunk b i)).1 = 0
    · rw [layS_next hw]; exact ih _ _ (Dk.write_ok h _ _)
    · rw [layS_stop hw]; exact Dk.write_ok h _ _
theorem layS_free (b : List UInt8) (base : Nat) : ∀ (k i : Nat) (d : Dk), d.Free → base + i + k ≤ d.safe.length → (∀ j, i ≤ j → j < i + k → (chunk b j).length = 32) →
    (layS b base i k d).1 = 0 ∧ (layS b base i k d).2.Free := by
  intro k
  induction k with
  | zero => intro i d h _ _; exact ⟨rfl, h⟩
  | succ k ih =>
    intro i d h hl hc
    have hw := h.write (a := base + i) (by omega) (hc i (Nat.le_refl _) (by omega))
    rw [layS_next (by rw [hw]), hw]
    exact ih (i + 1) _ ⟨h.1, h.2⟩ (by simp only; omega) (fun j h1 h2 => hc j (by omega) (by omega))
theorem chunk_len32 {b : List UInt8} {N j : Nat} (hb : b.length = N) (hj : j * 32 + 32 ≤ N) : (chunk b j).length = 32 := by
  unfold chunk
  rw [List.length_take, List.length_drop]
  omega
theorem secsFrom_eq {d : Dk} {base : Nat} {b : List UInt8} : ∀ k, (∀ j, j < k → d.sec (base + j) = chunk b j) → secsFrom d base k = b.take (k * 32) := by
  intro k
  induction k with
  | zero => intro _; simp [secsFrom]
  | succ k ih =>
    intro h
    rw [secsFrom, ih (fun j hj => h j (by omega)), h k (by omega)]
    unfold chunk
    rw [show (k + 1) * 32 = k * 32 + 32 by omega, List.take_add]
theorem area_eq {d : Dk} {e : Nat} {b : List UInt8} (hb : b.length = d.bytes) (h : ∀ j, j < d.half → d.sec (d.base e + j) = chunk b j) : d.area e = b := by
  unfold Dk.area
  rw [secsFrom_eq d.half h]
  exact List.take_of_length_le (by rw [hb]; exact Nat.le_refl _)
theorem area_chunk {d : Dk} (hok : d.Ok) (h6 : 6 ≤ d.safe.length) (e j : Nat) (hj : j < d.half) : chunk (d.area e) j = d.sec (d.base e + j) :=
  secsFrom_chunk _ d.half (fun i hi => Dk.sec_len hok (by have := (Dk.base_le h6 e).2.1; omega)) j hj
/-- Two disks with the same area. -/
theorem area_same {d d' : Dk} {e : Nat} (hl : d'.safe.length = d.safe.length) (h : ∀ j, j < d.half → d'.sec (d.base e + j) = d.sec (d.base e + j)) : d'.area e = d.area e := by
  unfold Dk.area
  have hb : d'.base e = d.base e := by unfold Dk.base; rw [hl]
  have hh : d'.half = d.half := by unfold Dk.half; rw [hl]
  rw [hb, hh]
  have : ∀ k, k ≤ d.half → secsFrom d' (d.base e) k = secsFrom d (d.base e) k := by
    intro k
    induction k with
    | zero => intro _; rfl
    | succ k ih => intro hk; rw [secsFrom, secsFrom, ih (by omega), h k (by omega)]
  exact this _ (Nat.le_refl _)

/-- Noughts behind the records, written where they lack. -/
theorem wipeS_free (b c : List UInt8) (base : Nat) : ∀ (k i : Nat) (z : Bool) (d : Dk), d.Free → base + i + k ≤ d.safe.length → (∀ j, i ≤ j → j < i + k → (chunk c j).length = 32) → (∀ j, i ≤ j → j < i + k → d.sec (base + j) = chunk b j) →
    (wipeS b c base i k z d).1 = 0 ∧ (wipeS b c base i k z d).2.2.Free ∧ (d.Ok → (wipeS b c base i k z d).2.2.Ok) ∧ (wipeS b c base i k z d).2.2.safe.length = d.safe.length ∧
    (∀ j, (wipeS b c base i k z d).2.2.sec j = if base + i ≤ j ∧ j < base + i + k then chunk c (j - base) else d.sec j) ∧
    (z = true → (wipeS b c base i k z d).2.1 = true) ∧ ((wipeS b c base i k z d).2.1 = false → (wipeS b c base i k z d).2.2 = d) := by
  intro k
  induction k with
  | zero => intro i z d h _ _ _; exact ⟨rfl, h, fun h => h, rfl, fun j => by rw [if_neg (by omega)]; rfl, fun h => h, fun _ => rfl⟩
  | succ k ih =>
    intro i z d h hl hc hs
    by_cases hsame : chunk b i = chunk c i
    · rw [wipe_same hsame]
      obtain ⟨q1, q2, q3, q4, q5, q6, q7⟩ := ih (i + 1) z d h (by omega) (fun j h1 h2 => hc j (by omega) (by omega)) (fun j h1 h2 => hs j (by omega) (by omega))
      refine ⟨q1, q2, q3, q4, fun j => ?_, q6, q7⟩
      rw [q5 j]
      by_cases h1 : base + i = j
      · subst h1
        rw [if_neg (by omega), if_pos (by omega), show base + i - base = i by omega, hs i (Nat.le_refl _) (by omega), hsame]
      · by_cases h2 : base + (i + 1) ≤ j ∧ j < base + (i + 1) + k
        · rw [if_pos h2, if_pos (by omega)]
        · rw [if_neg h2, if_neg (by omega)]
    · have hw := h.write (a := base + i) (by omega) (hc i (Nat.le_refl _) (by omega))
      have hw0 : (d.write ((base + i : Nat) : Int) (chunk c i)).1 = 0 := by rw [hw]
      have hsw := sec_write hw0
      rw [wipe_next hsame hw0]
      have hwok : d.Ok → (d.write ((base + i : Nat) : Int) (chunk c i)).2.Ok := fun h => Dk.write_ok h _ _
      have hwl := Dk.write_len d ((base + i : Nat) : Int) (chunk c i)
      have hwf : (d.write ((base + i : Nat) : Int) (chunk c i)).2.Free := by rw [hw]; exact ⟨h.1, h.2⟩
      generalize (d.write ((base + i : Nat) : Int) (chunk c i)).2 = d1 at *
      obtain ⟨q1, q2, q3, q4, q5, q6, q7⟩ := ih (i + 1) true d1 hwf (by omega) (fun j h1 h2 => hc j (by omega) (by omega)) (fun j h1 h2 => by rw [hsw, if_neg (by omega)]; exact hs j (by omega) (by omega))
      refine ⟨q1, q2, fun h => q3 (hwok h), by omega, fun j => ?_, fun _ => q6 rfl, fun h => by rw [q6 rfl] at h; cases h⟩
      rw [q5 j, hsw j]
      by_cases h1 : base + i = j
      · subst h1
        rw [if_neg (by omega), if_pos rfl, if_pos (by omega), show base + i - base = i by omega]
      · rw [if_neg h1]
        by_cases h2 : base + (i + 1) ≤ j ∧ j < base + (i + 1) + k
        · rw [if_pos h2, if_pos (by omega)]
        · rw [if_neg h2, if_neg (by omega)]

/-- What a log that was opened stands on. -/
structure OnDisk (d : Dk) (s : Lg) : Prop where
  ok : d.Ok
  six : 6 ≤ d.safe.length
  lg : s.Ok d.bytes
  newest : d.newest = s.epoch
  area : d.area s.epoch = fullF d.bytes s.recs
theorem newest_same {d d' : Dk} (h0 : d'.sec 0 = d.sec 0) (h1 : d'.sec 1 = d.sec 1) : d'.newest = d.newest := by unfold Dk.newest; rw [h0, h1]
/-- Opening with the power there. -/
theorem open_free {d : Dk} (hok : d.Ok) (h6 : 6 ≤ d.safe.length) (hf : d.Free) :
    ∃ d', d.openL = (0, some d.found, d') ∧ d'.Free ∧ OnDisk d' d.found ∧ d'.safe.length = d.safe.length ∧ (d.waits = [] → d'.waits = []) ∧ (∀ j, j < 2 → d'.sec j = d.sec j) := by
  obtain ⟨b1, b2, b3⟩ := Dk.base_le h6 d.newest
  have hfo := found_ok d hok h6
  have hal := Dk.area_len hok h6 d.newest
  have hfl : (fullF d.bytes (findR (d.area d.newest)).1).length = d.bytes := full_len _ _ hfo.fits
  have hbe : d.bytes = d.half * 32 := rfl
  obtain ⟨q1, q2, q3, q4, q5, q6, q7⟩ := wipeS_free (d.area d.newest) (fullF d.bytes (findR (d.area d.newest)).1) (d.base d.newest) d.half 0 false d hf (by omega)
    (fun j h1 h2 => chunk_len32 hfl (by omega)) (fun j h1 h2 => (area_chunk hok h6 _ j (by omega)).symm)
  have e : d.wiped = wipeS (d.area d.newest) (fullF d.bytes (findR (d.area d.newest)).1) (d.base d.newest) 0 d.half false d := rfl
  rw [← e] at q1 q2 q3 q4 q5 q6 q7
  have hlies : ∀ d2 : Dk, d2.Ok → d2.safe.length = d.safe.length → (∀ j, j < d.safe.length → d2.sec j = d.wiped.2.2.sec j) → OnDisk d2 d.found := fun d2 h1 h2 h3 => by
    have hby : d2.bytes = d.bytes := bytes_of h2
    have hba : d2.base d.newest = d.base d.newest := by unfold Dk.base; rw [h2]
    have hha : d2.half = d.half := by unfold Dk.half; rw [h2]
    refine ⟨h1, by omega, by rw [hby]; exact hfo, newest_same ?_ ?_, ?_⟩
    · rw [h3 0 (by omega), q5 0, if_neg (by omega)]
    · rw [h3 1 (by omega), q5 1, if_neg (by omega)]
    · rw [hby]
      show d2.area d.newest = fullF d.bytes (findR (d.area d.newest)).1
      refine area_eq (by rw [hfl, hby]) (fun j hj => ?_)
      rw [hha] at hj
      rw [hba, h3 _ (by omega), q5 _, if_pos (by omega), show d.base d.newest + j - d.base d.newest = j by omega]
  have h2x : ∀ j, j < 2 → d.wiped.2.2.sec j = d.sec j := fun j hj => by rw [q5 j, if_neg (by omega)]
  by_cases hz : d.wiped.2.1 = false
  · refine ⟨d.wiped.2.2, ?_, q2, hlies _ (q3 hok) q4 (fun _ _ => rfl), q4, fun h => by rw [q7 hz]; exact h, h2x⟩
    unfold Dk.openL
    rw [if_neg (by omega), if_neg (by simp [hf.1]), if_neg (by simp [q1]), if_pos hz]
  · have hs := q2.sync
    have hs0 : d.wiped.2.2.sync.1 = 0 := by rw [hs]
    have hokw := q3 hok
    refine ⟨d.wiped.2.2.sync.2, ?_, by rw [hs]; exact ⟨q2.1, q2.2⟩, hlies _ (Dk.sync_ok hokw) (by rw [Dk.sync_len, q4]) (fun j hj => sec_sync hokw hs0 j (by omega)), by rw [Dk.sync_len, q4], fun _ => (sync_went hs0).1, fun j hj => by rw [sec_sync hokw hs0 j (by omega), h2x j hj]⟩
    unfold Dk.openL
    rw [if_neg (by omega), if_neg (by simp [hf.1]), if_neg (by simp [q1]), if_neg hz, if_neg (by simp [hs0])]
/-- What is found where a log lies. -/
theorem OnDisk.found {d : Dk} {s : Lg} (h : OnDisk d s) : d.found = { epoch := s.epoch, recs := s.recs, safe := s.recs.length, gone := false } := by
  unfold Dk.found
  rw [h.newest, h.area, findR_full _ _ h.lg.small]
/-- Opening once more, where all lies as it should: nothing is written. -/
theorem open_again {d : Dk} {s : Lg} (h : OnDisk d s) (hd : d.down = false) : d.openL = (0, some d.found, d) := by
  have hf := findR_full d.bytes s.recs h.lg.small
  have hw : d.wiped = (0, false, d) := by
    unfold Dk.wiped
    rw [h.newest, h.area, hf]
    have : ∀ k i, wipeS (fullF d.bytes s.recs) (fullF d.bytes s.recs) (d.base s.epoch) i k false d = (0, false, d) := by
      intro k
      induction k with
      | zero => intro i; rfl
      | succ k ih => intro i; rw [wipe_same rfl, ih]
    exact this _ _
  unfold Dk.openL
  rw [if_neg (by have := h.six; omega), if_neg (by simp [hd]), hw]
  simp
end Go.Proofs.YtfepjgafamaegaaGreat

/- Plain: a log on a disk whose power does not go: each call keeps it lying as it should. -/
namespace Go.Proofs.YtfepjgafamaegaaGreat

theorem headE_headB {e : Nat} (h : e < 4611686018427387904) : headE (headB e) (e % 2) = e := by
  have hl := Lib.uvarint_length64 (show e < 18446744073709551616 by omega)
  have hg := getF_put (1, Lib.uvarint e) (zeros (32 - (putF (1, Lib.uvarint e)).length)) (by simp only; omega)
  have hu := uu_back 0 e [] (by omega) (by omega) (by omega)
  rw [List.append_nil] at hu
  unfold headB
  rw [headE_ok hg hu, if_pos ⟨rfl, h, rfl⟩]
theorem headE_zeros (n i : Nat) : headE (zeros n) i = 0 := by
  obtain ⟨e, h⟩ := getF_zeros n
  exact headE_err h
theorem chunk_zeros {N j : Nat} (hj : j * 32 + 32 ≤ N) : chunk (zeros N) j = zeros 32 := by
  unfold chunk zeros
  rw [List.drop_replicate, List.take_replicate]
  congr 1
  omega
theorem fullF_nil (N : Nat) : fullF N [] = zeros N := by simp [fullF, framesF, usedF]
/-- A new disk has an empty log. -/
theorem fresh_on (n : Nat) (h : 6 ≤ n) : OnDisk (Dk.new n) { epoch := 0, recs := [], safe := 0, gone := false } := by
  have hs : ∀ j, j < n → (Dk.new n).sec j = zeros 32 := fun j hj => by
    rw [sec_calm rfl]
    simp [Dk.new, List.getD, hj, zeros]
  have hln : (Dk.new n).safe.length = n := by simp [Dk.new]
  have h6 : 6 ≤ (Dk.new n).safe.length := by omega
  obtain ⟨b1, b2, b3⟩ := Dk.base_le h6 0
  have hbe : (Dk.new n).bytes = (Dk.new n).half * 32 := rfl
  refine ⟨Dk.new_ok n, h6, ⟨by simp, by simp [usedF, framesF], by simp, by simp⟩, ?_, ?_⟩
  · unfold Dk.newest
    rw [hs 0 (by omega), hs 1 (by omega), headE_zeros, headE_zeros]
    rfl
  · show (Dk.new n).area 0 = fullF (Dk.new n).bytes []
    rw [fullF_nil]
    refine area_eq (zeros_len _) (fun j hj => ?_)
    rw [hs _ (by omega), chunk_zeros (by omega)]
theorem chunk_push {N : Nat} {rs : List (List UInt8)} {b : List UInt8} (hN : usedF (rs ++ [b]) ≤ N) {j : Nat} (h : j < usedF rs / 32 ∨ usedF (rs ++ [b]) ≤ j * 32) : chunk (fullF N rs) j = chunk (fullF N (rs ++ [b])) j := by
  have hu : usedF (rs ++ [b]) = usedF rs + (10 + b.length) := by rw [usedF_app, usedF_one]
  rcases h with h | h
  · refine chunk_same (en := usedF rs) ?_ h
    rw [full_take]
    unfold fullF
    rw [framesF_app, List.append_assoc]
    exact (List.take_left' (show (framesF rs).length = usedF rs from rfl)).symm
  · apply List.ext_getElem?
    intro t
    rw [chunk_get, chunk_get]
    by_cases ht : t < 32
    · rw [if_pos ht, if_pos ht]
      unfold fullF
      have e1 : (framesF rs).length = usedF rs := rfl
      have e2 : (framesF (rs ++ [b])).length = usedF (rs ++ [b]) := rfl
      rw [List.getElem?_append_right (by omega), List.getElem?_append_right (by omega), e1, e2]
      unfold zeros
      by_cases hi : j * 32 + t < N
      · rw [List.getElem?_replicate_of_lt (by omega), List.getElem?_replicate_of_lt (by omega)]
      · rw [List.getElem?_eq_none (by rw [List.length_replicate]; omega), List.getElem?_eq_none (by rw [List.length_replicate]; omega)]
    · rw [if_neg ht, if_neg ht]

theorem OnDisk.same {d d' : Dk} {s s' : Lg} (h : OnDisk d s) (hok : d'.Ok) (hl : d'.safe.length = d.safe.length) (hs : ∀ j, j < d.safe.length → d'.sec j = d.sec j) (he : s'.epoch = s.epoch) (hr : s'.recs = s.recs) (hsf : s'.safe ≤ s'.recs.length) : OnDisk d' s' := by
  have h6 := h.six
  have hby : d'.bytes = d.bytes := bytes_of hl
  obtain ⟨b1, b2, b3⟩ := Dk.base_le h6 s.epoch
  refine ⟨hok, by omega, ⟨by rw [hr]; exact h.lg.small, by rw [hr, hby]; exact h.lg.fits, by rw [he]; exact h.lg.epoch, hsf⟩, ?_, ?_⟩
  · rw [newest_same (hs 0 (by omega)) (hs 1 (by omega)), he]; exact h.newest
  · rw [he, hr, hby, ← h.area]
    exact area_same hl (fun j hj => hs _ (by omega))

/-- One record more that has room. -/
theorem append_on {d : Dk} {s : Lg} (h : OnDisk d s) (hf : d.Free) (hg : s.gone = false) {b : List UInt8} (hb : b.length ≤ 1024) (hr : usedF s.recs + (10 + b.length) ≤ d.bytes) :
    ∃ d', s.append d b = (0, { s with recs := s.recs ++ [b] }, d') ∧ OnDisk d' { s with recs := s.recs ++ [b] } ∧ d'.Free ∧ d'.safe = d.safe := by
  obtain ⟨b1, b2, b3⟩ := Dk.base_le h.six s.epoch
  have hu : usedF (s.recs ++ [b]) = usedF s.recs + (10 + b.length) := by rw [usedF_app, usedF_one]
  have hbe : d.bytes = d.half * 32 := rfl
  have hfl : (fullF d.bytes (s.recs ++ [b])).length = d.bytes := full_len _ _ (by omega)
  obtain ⟨q1, q2⟩ := layS_free (fullF d.bytes (s.recs ++ [b])) (d.base s.epoch) ((usedF (s.recs ++ [b]) - 1) / 32 + 1 - usedF s.recs / 32) (usedF s.recs / 32) d hf (by omega)
    (fun j h1 h2 => chunk_len32 hfl (by omega))
  have q3 := layS_sec (fullF d.bytes (s.recs ++ [b])) (d.base s.epoch) ((usedF (s.recs ++ [b]) - 1) / 32 + 1 - usedF s.recs / 32) (usedF s.recs / 32) d q1
  have q4 := layS_ok (fullF d.bytes (s.recs ++ [b])) (d.base s.epoch) ((usedF (s.recs ++ [b]) - 1) / 32 + 1 - usedF s.recs / 32) (usedF s.recs / 32) d h.ok
  have q5 := layS_len (fullF d.bytes (s.recs ++ [b])) (d.base s.epoch) ((usedF (s.recs ++ [b]) - 1) / 32 + 1 - usedF s.recs / 32) (usedF s.recs / 32) d
  have q6 : (layS (fullF d.bytes (s.recs ++ [b])) (d.base s.epoch) (usedF s.recs / 32) ((usedF (s.recs ++ [b]) - 1) / 32 + 1 - usedF s.recs / 32) d).2.safe = d.safe := by
    have : ∀ (k i : Nat) (d : Dk), (layS (fullF d.bytes (s.recs ++ [b])) 0 i k d).2.safe = (layS (fullF d.bytes (s.recs ++ [b])) 0 i k d).2.safe := fun _ _ _ => rfl
    have hsafe : ∀ (c : List UInt8) (bs k i : Nat) (d : Dk), (layS c bs i k d).2.safe = d.safe := by
      intro c bs k
      induction k with
      | zero => intro i d; rfl
      | succ k ih =>
        intro i d
        have hw : (d.write ((bs + i : Nat) : Int) (chunk c i)).2.safe = d.safe := by
          unfold Dk.write
          split
          · rfl
          split
          · rfl
          split
          · exact d.act_same.1
          · exact d.act_same.1
        by_cases h0 : (d.write ((bs + i : Nat) : Int) (chunk c i)).1 = 0
        · rw [layS_next h0, ih, hw]
        · rw [layS_stop h0, hw]
    exact hsafe _ _ _ _ _
  have hla : s.laid d b = layS (fullF d.bytes (s.recs ++ [b])) (d.base s.epoch) (usedF s.recs / 32) ((usedF (s.recs ++ [b]) - 1) / 32 + 1 - usedF s.recs / 32) d := rfl
  rw [← hla] at q1 q2 q3 q4 q5 q6
  have hby : (s.laid d b).2.bytes = d.bytes := bytes_of q5
  have hba : (s.laid d b).2.base s.epoch = d.base s.epoch := by unfold Dk.base; rw [q5]
  have hha : (s.laid d b).2.half = d.half := by unfold Dk.half; rw [q5]
  refine ⟨(s.laid d b).2, ?_, ⟨q4, by have := h.six; omega, ?_, ?_, ?_⟩, q2, q6⟩
  · unfold Lg.append
    rw [if_neg (by simp [hg]), if_neg (by omega), if_neg (by unfold Lg.room; omega), if_pos q1]
  · have := append_ok (b := b) h.lg
    unfold Lg.append at this
    rw [if_neg (by simp [hg]), if_neg (by omega), if_neg (by unfold Lg.room; omega), if_pos q1] at this
    rw [hby]
    exact this
  · rw [newest_same (d := d)]
    · exact h.newest
    · rw [q3, if_neg (by omega)]
    · rw [q3, if_neg (by omega)]
  · show (s.laid d b).2.area s.epoch = fullF (s.laid d b).2.bytes (s.recs ++ [b])
    rw [hby]
    refine area_eq (by rw [hfl, hby]) (fun j hj => ?_)
    rw [hha] at hj
    rw [hba, q3]
    by_cases hc : d.base s.epoch + usedF s.recs / 32 ≤ d.base s.epoch + j ∧ d.base s.epoch + j < d.base s.epoch + usedF s.recs / 32 + ((usedF (s.recs ++ [b]) - 1) / 32 + 1 - usedF s.recs / 32)
    · rw [if_pos hc, show d.base s.epoch + j - d.base s.epoch = j by omega]
    · rw [if_neg hc, ← area_chunk h.ok h.six s.epoch j hj, h.area]
      exact chunk_push (by omega) (by omega)
/-- One that has none. -/
theorem append_full {d : Dk} {s : Lg} (hg : s.gone = false) {b : List UInt8} (hb : b.length ≤ 1024) (hr : d.bytes < usedF s.recs + (10 + b.length)) : s.append d b = (5, s, d) := by
  unfold Lg.append
  rw [if_neg (by simp [hg]), if_neg (by omega), if_pos (by unfold Lg.room; omega)]
theorem sync_on {d : Dk} {s : Lg} (h : OnDisk d s) (hf : d.Free) (hg : s.gone = false) :
    ∃ d', s.sync d = (0, { s with safe := s.recs.length }, d') ∧ OnDisk d' { s with safe := s.recs.length } ∧ d'.Free ∧ d'.waits = [] ∧ d'.safe.length = d.safe.length := by
  have hs := hf.sync
  have h0 : d.sync.1 = 0 := by rw [hs]
  refine ⟨d.sync.2, ?_, h.same (Dk.sync_ok h.ok) (Dk.sync_len d) (fun j hj => sec_sync h.ok h0 j hj) rfl rfl (Nat.le_refl _), by rw [hs]; exact ⟨hf.1, hf.2⟩, (sync_went h0).1, Dk.sync_len d⟩
  unfold Lg.sync
  rw [if_neg (by simp [hg]), if_pos h0]
theorem crash_on {d : Dk} {s : Lg} (h : OnDisk d s) (hw : d.waits = []) (ks : List Int) : OnDisk (d.crash ks) s :=
  h.same (Dk.crash_ok h.ok ks) (Dk.crash_len d ks) (fun j _ => sec_crash_calm hw ks j) rfl rfl h.lg.safe
/-- A new log that went well. -/
theorem settle_on {d : Dk} (hok : d.Ok) (h6 : 6 ≤ d.safe.length) {e : Nat} {l : List (List UInt8)} (hn : d.newest < e) (he : e < 4611686018427387904) (hsm : ∀ r ∈ l, r.length ≤ 1024) (hfit : usedF l ≤ d.bytes) (h0 : (settleS d e l).1 = 0) :
    OnDisk (settleS d e l).2 { epoch := e, recs := l, safe := l.length, gone := false } ∧ (settleS d e l).2.waits = [] := by
  obtain ⟨b1, b2, b3⟩ := Dk.base_le h6 e
  have hbe : d.bytes = d.half * 32 := rfl
  have hfl : (fullF d.bytes l).length = d.bytes := full_len _ _ hfit
  unfold settleS at h0 ⊢
  by_cases h1 : (layS (fullF d.bytes l) (d.base e) 0 d.half d).1 ≠ 0
  · rw [if_pos h1] at h0; exact absurd h0 h1
  rw [if_neg h1] at h0 ⊢
  have s1 := layS_sec (fullF d.bytes l) (d.base e) d.half 0 d (Classical.byContradiction h1)
  have o1 := layS_ok (fullF d.bytes l) (d.base e) d.half 0 d hok
  have l1 := layS_len (fullF d.bytes l) (d.base e) d.half 0 d
  generalize (layS (fullF d.bytes l) (d.base e) 0 d.half d).2 = d1 at *
  by_cases h2 : d1.sync.1 ≠ 0
  · rw [if_pos h2] at h0; exact absurd h0 h2
  rw [if_neg h2] at h0 ⊢
  have h2' : d1.sync.1 = 0 := Classical.byContradiction h2
  have s2 := fun j (hj : j < d.safe.length) => sec_sync o1 h2' j (by omega)
  have o2 := Dk.sync_ok o1
  have l2 := Dk.sync_len d1
  generalize d1.sync.2 = d2 at *
  by_cases h3 : (d2.write ((e % 2 : Nat) : Int) (headB e)).1 ≠ 0
  · rw [if_pos h3] at h0; exact absurd h0 h3
  rw [if_neg h3] at h0 ⊢
  have h3' : (d2.write ((e % 2 : Nat) : Int) (headB e)).1 = 0 := Classical.byContradiction h3
  have s3 := fun j => sec_write h3' j
  have o3 := Dk.write_ok o2 ((e % 2 : Nat) : Int) (headB e)
  have l3 := Dk.write_len d2 ((e % 2 : Nat) : Int) (headB e)
  generalize (d2.write ((e % 2 : Nat) : Int) (headB e)).2 = d3 at *
  have s4 := fun j (hj : j < d.safe.length) => sec_sync o3 h0 j (by omega)
  have o4 := Dk.sync_ok o3
  have l4 := Dk.sync_len d3
  have w4 := (sync_went h0).1
  generalize d3.sync.2 = d4 at *
  have hl4 : d4.safe.length = d.safe.length := by omega
  have hby : d4.bytes = d.bytes := bytes_of hl4
  have hba : d4.base e = d.base e := by unfold Dk.base; rw [hl4]
  have hha : d4.half = d.half := by unfold Dk.half; rw [hl4]
  have e01 : e % 2 = 0 ∨ e % 2 = 1 := by omega
  have hold : ∀ j, j < 2 → j ≠ e % 2 → d4.sec j = d.sec j := fun j hj hne => by
    rw [s4 j (by omega), s3 j, if_neg (fun h => hne h.symm), s2 j (by omega), s1 j, if_neg (by omega)]
  have hnew : d4.sec (e % 2) = headB e := by rw [s4 _ (by omega), s3, if_pos rfl]
  refine ⟨⟨o4, by omega, ⟨hsm, by rw [hby]; exact hfit, he, Nat.le_refl _⟩, ?_, ?_⟩, w4⟩
  · show d4.newest = e
    unfold Dk.newest at hn ⊢
    rcases e01 with h | h
    · have q := hnew; rw [h] at q
      have hh := headE_headB he; rw [h] at hh
      rw [q, hh, hold 1 (by omega) (by omega)]; omega
    · have q := hnew; rw [h] at q
      have hh := headE_headB he; rw [h] at hh
      rw [q, hh, hold 0 (by omega) (by omega)]; omega
  · show d4.area e = fullF d4.bytes l
    rw [hby]
    refine area_eq (by rw [hfl, hby]) (fun j hj => ?_)
    rw [hha] at hj
    rw [hba, s4 _ (by omega), s3, if_neg (by omega), s2 _ (by omega), s1, if_pos (by omega), show d.base e + j - d.base e = j by omega]
theorem settle_free {d : Dk} (h6 : 6 ≤ d.safe.length) (hf : d.Free) {e : Nat} {l : List (List UInt8)} (he : e < 4611686018427387904) (hfit : usedF l ≤ d.bytes) : (settleS d e l).1 = 0 ∧ (settleS d e l).2.Free := by
  obtain ⟨b1, b2, b3⟩ := Dk.base_le h6 e
  have hbe : d.bytes = d.half * 32 := rfl
  have hfl : (fullF d.bytes l).length = d.bytes := full_len _ _ hfit
  obtain ⟨q1, q2⟩ := layS_free (fullF d.bytes l) (d.base e) d.half 0 d hf (by omega) (fun j h1 h2 => chunk_len32 hfl (by omega))
  have l1 := layS_len (fullF d.bytes l) (d.base e) d.half 0 d
  have q3 := q2.sync
  have l2 := Dk.sync_len (layS (fullF d.bytes l) (d.base e) 0 d.half d).2
  have f2 : (layS (fullF d.bytes l) (d.base e) 0 d.half d).2.sync.2.Free := by rw [q3]; exact ⟨q2.1, q2.2⟩
  have h2 : (layS (fullF d.bytes l) (d.base e) 0 d.half d).2.sync.1 = 0 := by rw [q3]
  have hhl : (headB e).length = 32 := by
    have := headB_len e (by omega)
    unfold headB
    rw [List.length_append, zeros_len]
    omega
  have hwr := f2.write (a := e % 2) (s := headB e) (by omega) hhl
  have h3 : ((layS (fullF d.bytes l) (d.base e) 0 d.half d).2.sync.2.write ((e % 2 : Nat) : Int) (headB e)).1 = 0 := by rw [hwr]
  have f3 : ((layS (fullF d.bytes l) (d.base e) 0 d.half d).2.sync.2.write ((e % 2 : Nat) : Int) (headB e)).2.Free := by rw [hwr]; exact ⟨f2.1, f2.2⟩
  have h4 := f3.sync
  unfold settleS
  rw [if_neg (fun h => h q1), if_neg (fun h => h h2), if_neg (fun h => h h3), h4]
  exact ⟨rfl, ⟨f3.1, f3.2⟩⟩
theorem reset_on {d : Dk} {s : Lg} (h : OnDisk d s) (hf : d.Free) (hg : s.gone = false) {l : List (List UInt8)} (hn : nextE d.bytes s.epoch l = 0) :
    ∃ d', s.reset d l = (0, { epoch := s.epoch + 1, recs := l, safe := l.length, gone := false }, d') ∧ OnDisk d' { epoch := s.epoch + 1, recs := l, safe := l.length, gone := false } ∧ d'.Free ∧ d'.waits = [] ∧ d'.safe.length = d.safe.length := by
  obtain ⟨q1, q2, q3⟩ := nextE_zero hn
  have he : s.epoch + 1 < 4611686018427387904 := by have := h.lg.epoch; omega
  obtain ⟨f1, f2⟩ := settle_free h.six hf (e := s.epoch + 1) (l := l) he q3
  obtain ⟨o1, o2⟩ := settle_on h.ok h.six (e := s.epoch + 1) (l := l) (by rw [h.newest]; omega) he q1 q3 f1
  refine ⟨(settleS d (s.epoch + 1) l).2, ?_, o1, f2, o2, settle_len _ _ _⟩
  unfold Lg.reset
  rw [if_neg (by simp [hg]), if_neg (by simp [hn]), if_pos f1]
theorem reset_not {d : Dk} {s : Lg} (hg : s.gone = false) {l : List (List UInt8)} (hn : nextE d.bytes s.epoch l ≠ 0) : s.reset d l = (nextE d.bytes s.epoch l, s, d) := by
  unfold Lg.reset
  rw [if_neg (by simp [hg]), if_pos hn]
end Go.Proofs.YtfepjgafamaegaaGreat

/- Plain: a new log takes the old one's place while the power goes. -/
namespace Go.Proofs.YtfepjgafamaegaaGreat

theorem layS_six (b : List UInt8) (base : Nat) : ∀ (k i : Nat) (d : Dk), base + i + k ≤ d.safe.length → (∀ j, i ≤ j → j < i + k → (chunk b j).length = 32) → (layS b base i k d).1 ≠ 0 → (layS b base i k d).1 = 6 := by
  intro k
  induction k with
  | zero => intro i d _ _ h; exact absurd rfl h
  | succ k ih =>
    intro i d hl hc h
    by_cases hw : (d.write ((base + i : Nat) : Int) (chunk b i)).1 = 0
    · rw [layS_next hw] at h ⊢
      exact ih (i + 1) _ (by rw [Dk.write_len]; omega) (fun j h1 h2 => hc j (by omega) (by omega)) h
    · rw [layS_stop hw]
      exact write_six (by omega) (hc i (Nat.le_refl _) (by omega)) hw
theorem settle_six {d : Dk} (h6 : 6 ≤ d.safe.length) {e : Nat} {l : List (List UInt8)} (he : e < 4611686018427387904) (hfit : usedF l ≤ d.bytes) (h : (settleS d e l).1 ≠ 0) : (settleS d e l).1 = 6 := by
  obtain ⟨b1, b2, b3⟩ := Dk.base_le h6 e
  have hbe : d.bytes = d.half * 32 := rfl
  have hfl : (fullF d.bytes l).length = d.bytes := full_len _ _ hfit
  have l1 := layS_len (fullF d.bytes l) (d.base e) d.half 0 d
  have q1 := layS_six (fullF d.bytes l) (d.base e) d.half 0 d (by omega) (fun j h1 h2 => chunk_len32 hfl (by omega))
  have hhl : (headB e).length = 32 := by
    have := headB_len e (by omega)
    unfold headB
    rw [List.length_append, zeros_len]
    omega
  unfold settleS at h ⊢
  by_cases h1 : (layS (fullF d.bytes l) (d.base e) 0 d.half d).1 ≠ 0
  · rw [if_pos h1]; exact q1 h1
  rw [if_neg h1] at h ⊢
  generalize (layS (fullF d.bytes l) (d.base e) 0 d.half d).2 = d1 at *
  by_cases h2 : d1.sync.1 ≠ 0
  · rw [if_pos h2]; exact sync_six h2
  rw [if_neg h2] at h ⊢
  have l2 := Dk.sync_len d1
  generalize d1.sync.2 = d2 at *
  by_cases h3 : (d2.write ((e % 2 : Nat) : Int) (headB e)).1 ≠ 0
  · rw [if_pos h3]; exact write_six (by omega) hhl h3
  rw [if_neg h3] at h ⊢
  exact sync_six h
theorem arm_on {d : Dk} {s : Lg} (h : OnDisk d s) (n : Int) : OnDisk (d.arm n) s := h.same (Dk.arm_ok h.ok n) rfl (fun _ _ => rfl) rfl rfl h.lg.safe
/-- Behind a crash it is the new log, if that was answered; the old one, if it was refused. -/
theorem turns_on {d : Dk} {s : Lg} (h : OnDisk d s) (hw : d.waits = []) (hg : s.gone = false) (l : List (List UInt8)) (ks : List Int) :
    ((s.reset d l).1 = 0 → ((s.reset d l).2.2.crash ks).found.recs = l) ∧ ((s.reset d l).1 ≠ 0 → (s.reset d l).1 ≠ 6 → ((s.reset d l).2.2.crash ks).found.recs = s.recs) := by
  by_cases hn : nextE d.bytes s.epoch l ≠ 0
  · have hr := reset_not (d := d) hg hn
    rw [hr]
    refine ⟨fun h0 => absurd h0 hn, fun _ _ => ?_⟩
    rw [(crash_on h hw ks).found]
  · have hn0 : nextE d.bytes s.epoch l = 0 := Classical.byContradiction hn
    obtain ⟨q1, q2, q3⟩ := nextE_zero hn0
    have he : s.epoch + 1 < 4611686018427387904 := by have := h.lg.epoch; omega
    have hr : s.reset d l = if (settleS d (s.epoch + 1) l).1 = 0 then (0, { epoch := s.epoch + 1, recs := l, safe := l.length, gone := false }, (settleS d (s.epoch + 1) l).2)
        else ((settleS d (s.epoch + 1) l).1, { s with gone := true }, (settleS d (s.epoch + 1) l).2) := by
      unfold Lg.reset
      rw [if_neg (by simp [hg]), if_neg hn]
    by_cases h0 : (settleS d (s.epoch + 1) l).1 = 0
    · rw [if_pos h0] at hr
      rw [hr]
      obtain ⟨o1, o2⟩ := settle_on h.ok h.six (e := s.epoch + 1) (l := l) (by rw [h.newest]; omega) he q1 q3 h0
      refine ⟨fun _ => ?_, fun h1 => absurd rfl h1⟩
      rw [(crash_on o1 o2 ks).found]
    · rw [if_neg h0] at hr
      rw [hr]
      exact ⟨fun h1 => absurd h1 h0, fun _ h2 => absurd (settle_six h.six he q3 h0) h2⟩
end Go.Proofs.YtfepjgafamaegaaGreat

/- Plain: what was synced stays in a log that grows, whenever the power goes. -/
namespace Go.Proofs.YtfepjgafamaegaaGreat

/-- Whatever of what waits is kept: no head stands there, and the area of the epoch 0 begins with P. -/
structure Sure (d : Dk) (P : List UInt8) : Prop where
  heads : ∀ i, i < 2 → d.safe.getD i [] = zeros 32
  above : ∀ w ∈ d.waits, 2 ≤ w.1
  old : ∀ j t, t < 32 → j * 32 + t < P.length → (d.safe.getD (2 + j) [])[t]? = P[j * 32 + t]?
  new : ∀ j t, t < 32 → j * 32 + t < P.length → ∀ w ∈ d.waits, w.1 = 2 + j → w.2[t]? = P[j * 32 + t]?
theorem Sure.same {d d' : Dk} {P : List UInt8} (h : Sure d P) (h1 : d'.safe = d.safe) (h2 : d'.waits = d.waits) : Sure d' P := ⟨by rw [h1]; exact h.heads, by rw [h2]; exact h.above, by rw [h1]; exact h.old, by rw [h2]; exact h.new⟩
theorem sure_new (n : Nat) (h : 6 ≤ n) : Sure (Dk.new n) [] :=
  ⟨fun i hi => by simp [Dk.new, List.getD, show i < n by omega, zeros], fun w hw => by simp [Dk.new] at hw, fun j t _ h => by simp at h, fun j t _ h => by simp at h⟩
theorem Sure.write {d : Dk} {P b : List UInt8} (h : Sure d P) (hb : b.take P.length = P) (i : Nat) : Sure (d.write ((2 + i : Nat) : Int) (chunk b i)).2 P := by
  unfold Dk.write
  split
  · exact h
  split
  · exact h
  split
  · refine ⟨by simp only [d.act_same.1]; exact h.heads, fun w hw => ?_, by simp only [d.act_same.1]; exact h.old, fun j t h1 h2 w hw he => ?_⟩
    · simp only [List.mem_append, List.mem_singleton] at hw
      rcases hw with hw | rfl
      · exact h.above w hw
      · simp only; omega
    · simp only [List.mem_append, List.mem_singleton] at hw
      rcases hw with hw | rfl
      · exact h.new j t h1 h2 w hw he
      · have hij : i = j := by simp only at he; omega
        subst hij
        show (chunk b i)[t]? = _
        rw [chunk_get, if_pos h1]
        have e := congrArg (fun l => l[i * 32 + t]?) hb
        rw [List.getElem?_take_of_lt h2] at e
        exact e
  · exact h.same d.act_same.1 d.act_same.2
theorem Sure.layS {P b : List UInt8} (hb : b.take P.length = P) : ∀ (k i : Nat) (d : Dk), Sure d P → Sure (layS b 2 i k d).2 P := by
  intro k
  induction k with
  | zero => intro i d h; exact h
  | succ k ih =>
    intro i d h
    by_cases hw : (d.write ((2 + i : Nat) : Int) (chunk b i)).1 = 0
    · rw [layS_next hw]; exact ih _ _ (h.write hb i)
    · rw [layS_stop hw]; exact h.write hb i
theorem base_zero (d : Dk) : d.base 0 = 2 := by unfold Dk.base baseOf; simp
theorem full_prefix {N k : Nat} {rs : List (List UInt8)} (_hk : k ≤ rs.length) (b : List UInt8) : (fullF N (rs ++ [b])).take (framesF (rs.take k)).length = framesF (rs.take k) := by
  have e : rs = rs.take k ++ rs.drop k := (List.take_append_drop k rs).symm
  unfold fullF
  have : framesF (rs ++ [b]) = framesF (rs.take k) ++ framesF (rs.drop k ++ [b]) := by
    rw [← framesF_app, ← List.append_assoc, ← e]
  rw [this, List.append_assoc]
  exact List.take_left' rfl
/-- What holds while records are appended and synced, in the epoch 0. -/
structure Growing (d : Dk) (s : Lg) : Prop where
  ok : d.Ok
  six : 6 ≤ d.safe.length
  epoch : s.epoch = 0
  safe : s.safe ≤ s.recs.length
  sure : Sure d (framesF (s.recs.take s.safe))
  small : ∀ r ∈ s.recs, r.length ≤ 1024
  fits : usedF s.recs ≤ d.bytes
  live : s.gone = false → OnDisk d s
theorem append_live {d : Dk} {s : Lg} (h : OnDisk d s) (hg : s.gone = false) {b : List UInt8} (hb : b.length ≤ 1024) (hr : usedF s.recs + (10 + b.length) ≤ d.bytes) (q1 : (s.laid d b).1 = 0) : OnDisk (s.laid d b).2 { s with recs := s.recs ++ [b] } := by
  obtain ⟨b1, b2, b3⟩ := Dk.base_le h.six s.epoch
  have hu : usedF (s.recs ++ [b]) = usedF s.recs + (10 + b.length) := by rw [usedF_app, usedF_one]
  have hbe : d.bytes = d.half * 32 := rfl
  have hfl : (fullF d.bytes (s.recs ++ [b])).length = d.bytes := full_len _ _ (by omega)
  have hla : s.laid d b = layS (fullF d.bytes (s.recs ++ [b])) (d.base s.epoch) (usedF s.recs / 32) ((usedF (s.recs ++ [b]) - 1) / 32 + 1 - usedF s.recs / 32) d := rfl
  rw [hla] at q1
  have q3 := layS_sec (fullF d.bytes (s.recs ++ [b])) (d.base s.epoch) ((usedF (s.recs ++ [b]) - 1) / 32 + 1 - usedF s.recs / 32) (usedF s.recs / 32) d q1
  have q4 := layS_ok (fullF d.bytes (s.recs ++ [b])) (d.base s.epoch) ((usedF (s.recs ++ [b]) - 1) / 32 + 1 - usedF s.recs / 32) (usedF s.recs / 32) d h.ok
  have q5 := layS_len (fullF d.bytes (s.recs ++ [b])) (d.base s.epoch) ((usedF (s.recs ++ [b]) - 1) / 32 + 1 - usedF s.recs / 32) (usedF s.recs / 32) d
  rw [← hla] at q1 q3 q4 q5
  have hby : (s.laid d b).2.bytes = d.bytes := bytes_of q5
  have hba : (s.laid d b).2.base s.epoch = d.base s.epoch := by unfold Dk.base; rw [q5]
  have hha : (s.laid d b).2.half = d.half := by unfold Dk.half; rw [q5]
  refine ⟨q4, by have := h.six; omega, ?_, ?_, ?_⟩
  · have := append_ok (b := b) h.lg
    unfold Lg.append at this
    rw [if_neg (by simp [hg]), if_neg (by omega), if_neg (by unfold Lg.room; omega), if_pos q1] at this
    rw [hby]
    exact this
  · rw [newest_same (d := d)]
    · exact h.newest
    · rw [q3, if_neg (by omega)]
    · rw [q3, if_neg (by omega)]
  · show (s.laid d b).2.area s.epoch = fullF (s.laid d b).2.bytes (s.recs ++ [b])
    rw [hby]
    refine area_eq (by rw [hfl, hby]) (fun j hj => ?_)
    rw [hha] at hj
    rw [hba, q3]
    by_cases hc : d.base s.epoch + usedF s.recs / 32 ≤ d.base s.epoch + j ∧ d.base s.epoch + j < d.base s.epoch + usedF s.recs / 32 + ((usedF (s.recs ++ [b]) - 1) / 32 + 1 - usedF s.recs / 32)
    · rw [if_pos hc, show d.base s.epoch + j - d.base s.epoch = j by omega]
    · rw [if_neg hc, ← area_chunk h.ok h.six s.epoch j hj, h.area]
      exact chunk_push (by omega) (by omega)
theorem laid_six {d : Dk} {s : Lg} (h : OnDisk d s) {b : List UInt8} (hr : usedF s.recs + (10 + b.length) ≤ d.bytes) (q1 : (s.laid d b).1 ≠ 0) : (s.laid d b).1 = 6 := by
  obtain ⟨b1, b2, b3⟩ := Dk.base_le h.six s.epoch
  have hu : usedF (s.recs ++ [b]) = usedF s.recs + (10 + b.length) := by rw [usedF_app, usedF_one]
  have hbe : d.bytes = d.half * 32 := rfl
  have hfl : (fullF d.bytes (s.recs ++ [b])).length = d.bytes := full_len _ _ (by omega)
  exact layS_six _ _ _ _ d (by omega) (fun j h1 h2 => chunk_len32 hfl (by omega)) q1
/-- One record more: taken, or lost with the power; or refused, and then nothing turns. -/
theorem Growing.append {d : Dk} {s : Lg} (h : Growing d s) (hg : s.gone = false) (b : List UInt8) : Growing (s.append d b).2.2 (s.append d b).2.1 ∧ (s.append d b).2.1.safe = s.safe ∧
    (((s.append d b).1 = 0 ∧ (s.append d b).2.1.recs = s.recs ++ [b] ∧ (s.append d b).2.1.gone = false) ∨ ((s.append d b).1 = 6 ∧ (s.append d b).2.1.recs = s.recs ++ [b]) ∨ ((s.append d b).1 ≠ 0 ∧ (s.append d b).1 ≠ 6 ∧ (s.append d b).2.1 = s)) := by
  have on := h.live hg
  unfold Lg.append
  rw [if_neg (by simp [hg])]
  by_cases h1 : 1024 < b.length
  · rw [if_pos h1]
    exact ⟨h, rfl, .inr (.inr ⟨(by decide : (3 : Int) ≠ 0), (by decide : (3 : Int) ≠ 6), rfl⟩)⟩
  rw [if_neg h1]
  by_cases h2 : s.room d < b.length + 10
  · rw [if_pos h2]
    exact ⟨h, rfl, .inr (.inr ⟨(by decide : (5 : Int) ≠ 0), (by decide : (5 : Int) ≠ 6), rfl⟩)⟩
  rw [if_neg h2]
  have hr : usedF s.recs + (10 + b.length) ≤ d.bytes := by unfold Lg.room at h2; omega
  have hsm : ∀ r ∈ s.recs ++ [b], r.length ≤ 1024 := fun r hr => by
    rcases List.mem_append.1 hr with hr | hr
    · exact h.small r hr
    · simp only [List.mem_singleton] at hr; subst hr; omega
  have hsl : s.safe ≤ (s.recs ++ [b]).length := by have := h.safe; simp; omega
  have htk : (s.recs ++ [b]).take s.safe = s.recs.take s.safe := List.take_append_of_le_length h.safe
  have hsu : Sure (s.laid d b).2 (framesF (s.recs.take s.safe)) := by
    unfold Lg.laid
    rw [h.epoch, base_zero]
    exact Sure.layS (full_prefix h.safe b) _ _ _ h.sure
  have hokl : (s.laid d b).2.Ok := layS_ok _ _ _ _ _ h.ok
  have hll : (s.laid d b).2.safe.length = d.safe.length := layS_len _ _ _ _ _
  by_cases h3 : (s.laid d b).1 = 0
  · rw [if_pos h3]
    exact ⟨⟨hokl, by simp only; rw [hll]; exact h.six, h.epoch, hsl, by simp only; rw [htk]; exact hsu, hsm, by simp only; rw [bytes_of hll, usedF_app, usedF_one]; exact hr, fun _ => append_live on hg (by omega) hr h3⟩, rfl, .inl ⟨rfl, rfl, hg⟩⟩
  · rw [if_neg h3]
    exact ⟨⟨hokl, by simp only; rw [hll]; exact h.six, h.epoch, hsl, by simp only; rw [htk]; exact hsu, hsm, by simp only; rw [bytes_of hll, usedF_app, usedF_one]; exact hr, fun e => by cases e⟩, rfl, .inr (.inl ⟨laid_six on hr h3, rfl⟩)⟩
theorem seen_none {s : List (List UInt8)} {ws : List (Nat × List UInt8)} {i : Nat} (h : ∀ w ∈ ws, w.1 ≠ i) : seen s ws i = s.getD i [] := by
  unfold seen
  induction ws generalizing s with
  | nil => rfl
  | cons w ws ih =>
    rw [List.foldl_cons, if_neg (h w (List.mem_cons_self ..))]
    exact ih fun x hx => h x (List.mem_cons_of_mem _ hx)
/-- All are safe, or the power is gone. -/
theorem Growing.sync {d : Dk} {s : Lg} (h : Growing d s) (hg : s.gone = false) : Growing (s.sync d).2.2 (s.sync d).2.1 ∧ (s.sync d).2.1.recs = s.recs ∧
    (((s.sync d).1 = 0 ∧ (s.sync d).2.1.safe = s.recs.length ∧ (s.sync d).2.1.gone = false) ∨ ((s.sync d).1 ≠ 0 ∧ (s.sync d).2.1.safe = s.safe)) := by
  have on := h.live hg
  unfold Lg.sync
  rw [if_neg (by simp [hg])]
  by_cases h0 : d.sync.1 = 0
  · rw [if_pos h0]
    obtain ⟨w1, w2⟩ := sync_went h0
    have hl := Dk.sync_len d
    have hsec := fun j (hj : j < d.safe.length) => sec_sync h.ok h0 j hj
    have hcalm : ∀ j, d.sync.2.safe.getD j [] = d.sync.2.sec j := fun j => (sec_calm w1 j).symm
    have on2 : OnDisk d.sync.2 { s with safe := s.recs.length } := on.same (Dk.sync_ok h.ok) hl hsec rfl rfl (Nat.le_refl _)
    refine ⟨⟨Dk.sync_ok h.ok, by simp only; rw [hl]; exact h.six, h.epoch, Nat.le_refl _, ?_, h.small, by simp only; rw [bytes_of hl]; exact h.fits, fun _ => on2⟩, rfl, .inl ⟨rfl, rfl, hg⟩⟩
    simp only
    rw [List.take_length]
    have h6 := h.six
    refine ⟨fun i hi => ?_, fun w hw => by rw [w1] at hw; simp at hw, fun j t h1 h2 => ?_, fun j t _ _ w hw => by rw [w1] at hw; simp at hw⟩
    · rw [hcalm, hsec i (by omega)]
      unfold Dk.sec
      rw [seen_none fun w hw => by have := h.sure.above w hw; omega]
      exact h.sure.heads i hi
    · have hu : (framesF s.recs).length = usedF s.recs := rfl
      have hfit := on.lg.fits
      have hbe : d.bytes = d.half * 32 := rfl
      have hb2 := (Dk.base_le h6 0).2.1
      rw [base_zero] at hb2
      have hj : j < d.half := by omega
      rw [hcalm, hsec _ (by omega)]
      have ha := area_chunk h.ok h6 s.epoch j hj
      rw [h.epoch, base_zero] at ha
      rw [← ha]
      have hare := on.area
      rw [h.epoch] at hare
      rw [hare, chunk_get, if_pos h1]
      unfold fullF
      rw [List.getElem?_append_left (by omega)]
  · rw [if_neg h0]
    have hs : d.sync.2.safe = d.safe ∧ d.sync.2.waits = d.waits := by
      unfold Dk.sync at h0 ⊢
      split
      · rename_i ha; rw [if_pos ha] at h0; exact absurd rfl h0
      · exact d.act_same
    exact ⟨⟨Dk.sync_ok h.ok, by simp only; rw [Dk.sync_len]; exact h.six, h.epoch, h.safe, h.sure.same hs.1 hs.2, h.small, by simp only; rw [bytes_of (Dk.sync_len d)]; exact h.fits, fun e => by cases e⟩, rfl, .inr ⟨h0, rfl⟩⟩
/-- Behind a crash all that was safe is found. -/
theorem Growing.crash {d : Dk} {s : Lg} (h : Growing d s) (ks : List Int) : s.safe ≤ (d.crash ks).found.recs.length := by
  have hokc := Dk.crash_ok h.ok ks
  have hl := Dk.crash_len d ks
  have h6 : 6 ≤ (d.crash ks).safe.length := by rw [hl]; exact h.six
  have h6' := h.six
  have hcalm : ∀ j, (d.crash ks).sec j = (crashS d.safe d.waits ks).getD j [] := fun j => sec_calm (d := d.crash ks) rfl j
  have hhead : ∀ i, i < 2 → (d.crash ks).sec i = zeros 32 := fun i hi => by
    rw [hcalm]
    have hlen : ((crashS d.safe d.waits ks).getD i []).length = 32 := rows_getD (crashS_rows _ _ _ h.ok.rows h.ok.waits) (by rw [crashS_len]; omega)
    apply List.ext_getElem?
    intro t
    by_cases ht : t < 32
    · rcases crashS_from d.waits d.safe ks h.ok.rows h.ok.waits i t ht (by omega) with h1 | ⟨w, hw, h2, _⟩
      · rw [h1, h.sure.heads i hi]
      · have := h.sure.above w hw; omega
    · rw [List.getElem?_eq_none (by omega), List.getElem?_eq_none (by rw [zeros_len]; omega)]
  have hnew : (d.crash ks).newest = 0 := by
    unfold Dk.newest
    rw [hhead 0 (by omega), hhead 1 (by omega), headE_zeros, headE_zeros]
    rfl
  obtain ⟨P, hP⟩ : ∃ P, framesF (s.recs.take s.safe) = P := ⟨_, rfl⟩
  have hsu := h.sure
  rw [hP] at hsu
  have hal := Dk.area_len hokc h6 0
  have hbe : (d.crash ks).bytes = (d.crash ks).half * 32 := rfl
  have hb2 := (Dk.base_le h6 0).2.1
  rw [base_zero] at hb2
  by_cases hPl : P.length ≤ (d.crash ks).bytes
  · have hpre : ((d.crash ks).area 0).take P.length = P := by
      apply List.ext_getElem?
      intro m
      by_cases hm : m < P.length
      · rw [List.getElem?_take_of_lt hm]
        have hd := Nat.div_add_mod m 32
        have hjm : m / 32 < (d.crash ks).half := by omega
        have hc := area_chunk hokc h6 0 (m / 32) hjm
        rw [base_zero] at hc
        have hg := chunk_get ((d.crash ks).area 0) (m / 32) (m % 32)
        rw [if_pos (Nat.mod_lt _ (by omega)), hc, hcalm, show m / 32 * 32 + m % 32 = m by omega] at hg
        rw [← hg]
        have hmm : m / 32 * 32 + m % 32 = m := by omega
        rcases crashS_from d.waits d.safe ks h.ok.rows h.ok.waits (2 + m / 32) (m % 32) (Nat.mod_lt _ (by omega)) (by omega) with h1 | ⟨w, hw, h2, h3⟩
        · rw [h1, hsu.old (m / 32) (m % 32) (Nat.mod_lt _ (by omega)) (by omega), hmm]
        · rw [h3, hsu.new (m / 32) (m % 32) (Nat.mod_lt _ (by omega)) (by omega) w hw h2, hmm]
      · rw [List.getElem?_eq_none (by rw [List.length_take]; omega), List.getElem?_eq_none (by omega)]
    have hsplit : (d.crash ks).area 0 = framesF (s.recs.take s.safe) ++ ((d.crash ks).area 0).drop P.length := by
      rw [hP]
      have := List.take_append_drop P.length ((d.crash ks).area 0)
      rw [hpre] at this
      exact this.symm
    have hf := findR_frames (s.recs.take s.safe) (((d.crash ks).area 0).drop P.length) (fun r hr => h.small r (List.mem_of_mem_take hr))
    rw [← hsplit] at hf
    show _ ≤ (findR ((d.crash ks).area (d.crash ks).newest)).1.length
    rw [hnew, hf]
    simp only
    rw [List.length_append, List.length_take]
    have := h.safe
    omega
  · -- more than the area has: that never was
    exfalso
    have h1 := h.fits
    have h2 : usedF s.recs = usedF (s.recs.take s.safe) + usedF (s.recs.drop s.safe) := by rw [← usedF_app, List.take_append_drop]
    have h3 : P.length = usedF (s.recs.take s.safe) := by rw [← hP]; rfl
    rw [bytes_of hl] at hPl
    omega
theorem grows_new (n : Nat) (h : 6 ≤ n) : Growing (Dk.new n) { epoch := 0, recs := [], safe := 0, gone := false } :=
  ⟨Dk.new_ok n, by simp [Dk.new]; exact h, rfl, Nat.le_refl _, sure_new n h, by simp, by simp [usedF, framesF], fun _ => fresh_on n h⟩
theorem Growing.arm {d : Dk} {s : Lg} (h : Growing d s) (n : Int) : Growing (d.arm n) s :=
  ⟨Dk.arm_ok h.ok n, h.six, h.epoch, h.safe, h.sure.same rfl rfl, h.small, h.fits, fun e => arm_on (h.live e) n⟩
end Go.Proofs.YtfepjgafamaegaaGreat

/- Layer 5's laws: heavy, same. -/
namespace Go.Proofs.YtfepjgafamaegaaGreat
open Go.RowKit

set_option maxRecDepth 100000 in
set_option maxHeartbeats 1000000 in
theorem sheavy_any (A : Option Addr) (n c : Nat) (l : List Chg) (w : World) (hn : n ≤ 9223372036854775807) (h : ChRd w w.heap.size A n l) :
    Calls Tryz.prog 10 #[.slice A n c] w fun e w' => (∃ b, e = .returned (.bool b)) ∧ Below w.heap.size w w' := by
  have Hl := Lib.hid h.1
  have HP := Lib.hid h
  clear h
  go_enter Tryz.func10, Tryz.ntmps10
  go_wp2
  go_loopg [3, 4] n (fun g z i wr => ∃ (zz : Int) (k : Nat), z = .int .i64 zz ∧ i = .int .i64 k ∧ k + g = n ∧ Hid (Below w.heap.size w wr))
  case atStart => exact ⟨0, 0, rfl, rfl, by omega, Lib.hid (Below.refl _ _)⟩
  case round =>
    obtain ⟨zz, k, rfl, rfl, hk, Hb⟩ := hrel
    by_cases hkn : k < n
    · by_cases hz : zz ≤ 8000
      · have hkl : k < l.length := by rw [Hl.out]; exact hkn
        obtain ⟨b, o, rfl, hbw, c0, c1, _⟩ := (HP.out.below Hb.out).2 k hkl
        generalize l[k] = ch at *
        obtain ⟨ck, cv, cg⟩ := ch
        have c0 : wr.cell? ⟨b, o + k * 3, none⟩ = some (sV ck) := c0
        have c1 : wr.cell? ⟨b, o + k * 3 + 1, none⟩ = some (sV cv) := c1
        have hi1 : (0 : Int) ≤ (k : Int) := by omega
        have hi2 : (k : Int) < (n : Int) := by omega
        have Hbd := Lib.hid (Hb.out.drew)
        clear hkl
        go_upto_region 5 with (fail)
        go_region_held3 (fun w' => w'.cell? ⟨b, o + k * 3, none⟩ = some (sV ck) ∧ w'.cell? ⟨b, o + k * 3 + 1, none⟩ = some (sV cv)) (first | exact ⟨c0, c1⟩ | go_keep) (first | fail)
        all_goals
          clear c0 c1
          go_wp2
          go_roundg (gk - 1)
          case measure => omega
          case rel => exact ⟨_, k + 1, rfl, by go_num, by omega, Hbd⟩
      · have hz' : (8000 : Int) < zz := by omega
        go_wp2
        go_ret
        refine ⟨?_, Hb.out⟩
        first | exact ⟨true, rfl⟩ | exact ⟨_, rfl⟩ | rfl | simp
    · go_wp2
      go_ret
      exact ⟨⟨_, rfl⟩, Hb.out⟩

set_option maxRecDepth 100000 in
set_option maxHeartbeats 1000000 in
theorem lsame_any (A A' : Option Addr) (n c c' B B' : Nat) (l : List Chg) (w : World) (hn : n ≤ 9223372036854775807) (h : ChRd w B A n l) (h' : ChRd w B' A' n l) :
    Calls Tryz.prog 20 #[.slice A n c, .slice A' n c'] w fun e w' => e = .returned (.bool true) ∧ Below w.heap.size w w' := by
  have Hl := Lib.hid h.1
  have HP : Hid (∀ W k (hk : k < l.length), Below w.heap.size w W → ∃ b o b' o', A = some ⟨b, o, none⟩ ∧ A' = some ⟨b', o', none⟩ ∧ W.cell? ⟨b, o + k * 3, none⟩ = some (sV l[k].key) ∧ W.cell? ⟨b, o + k * 3 + 1, none⟩ = some (sV l[k].val) ∧ W.cell? ⟨b, o + k * 3 + 2, none⟩ = some (.bool l[k].gone) ∧
      W.cell? ⟨b', o' + k * 3, none⟩ = some (sV l[k].key) ∧ W.cell? ⟨b', o' + k * 3 + 1, none⟩ = some (sV l[k].val) ∧ W.cell? ⟨b', o' + k * 3 + 2, none⟩ = some (.bool l[k].gone)) := by
    refine Lib.hid fun W k hk hb => ?_
    obtain ⟨b, o, e, _, h1, h2, h3⟩ := h.2 k hk
    obtain ⟨b', o', e', _, h1', h2', h3'⟩ := h'.2 k hk
    have q : ∀ {g i : Nat} {v : Value}, w.cell? ⟨g, i, none⟩ = some v → W.cell? ⟨g, i, none⟩ = some v := fun {g i v} hc => (hb.cell (World.block_lt_of_cell? _ _ hc)).trans hc
    exact ⟨b, o, b', o', e, e', q h1, q h2, q h3, q h1', q h2', q h3'⟩
  clear h h'
  go_enter Tryz.func20, Tryz.ntmps20
  go_wp2
  go_loopg [5] n (fun g i wr => ∃ (k : Nat), i = .int .i64 k ∧ k + g = n ∧ Hid (Below w.heap.size w wr))
  case atStart => exact ⟨0, rfl, by omega, Lib.hid (Below.refl _ _)⟩
  case round =>
    obtain ⟨k, rfl, hk, Hb⟩ := hrel
    by_cases hkn : k < n
    · have hkl : k < l.length := by rw [Hl.out]; exact hkn
      obtain ⟨b, o, b', o', rfl, rfl, c0, c1, c2, e0, e1, e2⟩ := HP.out wr k hkl Hb.out
      generalize l[k] = ch at *
      obtain ⟨ck, cv, cg⟩ := ch
      have c0 : wr.cell? ⟨b, o + k * 3, none⟩ = some (sV ck) := c0
      have c1 : wr.cell? ⟨b, o + k * 3 + 1, none⟩ = some (sV cv) := c1
      have c2 : wr.cell? ⟨b, o + k * 3 + 2, none⟩ = some (.bool cg) := c2
      have e0 : wr.cell? ⟨b', o' + k * 3, none⟩ = some (sV ck) := e0
      have e1 : wr.cell? ⟨b', o' + k * 3 + 1, none⟩ = some (sV cv) := e1
      have e2 : wr.cell? ⟨b', o' + k * 3 + 2, none⟩ = some (.bool cg) := e2
      have hi1 : (0 : Int) ≤ (k : Int) := by omega
      have hi2 : (k : Int) < (n : Int) := by omega
      have Hbd := Lib.hid (Hb.out.drew)
      clear hkl
      go_upto_region 6 with (fail)
      go_region_held3 (fun w' => w'.cell? ⟨b, o + k * 3, none⟩ = some (sV ck) ∧ w'.cell? ⟨b, o + k * 3 + 1, none⟩ = some (sV cv) ∧ w'.cell? ⟨b, o + k * 3 + 2, none⟩ = some (.bool cg) ∧ w'.cell? ⟨b', o' + k * 3, none⟩ = some (sV ck) ∧ w'.cell? ⟨b', o' + k * 3 + 1, none⟩ = some (sV cv) ∧ w'.cell? ⟨b', o' + k * 3 + 2, none⟩ = some (.bool cg)) (first | exact ⟨c0, c1, c2, e0, e1, e2⟩ | go_keep) (first | fail)
      all_goals
        clear c0 c1 c2 e0 e1 e2
        go_wp2
        go_roundg (gk - 1)
        case measure => omega
        case rel => exact ⟨k + 1, by go_num, by omega, Hbd⟩
    · go_wp2
      go_ret
      exact ⟨rfl, Hb.out⟩
end Go.Proofs.YtfepjgafamaegaaGreat
