/- Of the proofs of layer 4, merged: RDisk2, RDisk3. -/
import Derived.Test.YtfepjgafamaegaaGreatM1RDisk
import Derived.Deep.LoopGhost
import Derived.StillTailTactics

/- The document's Disk: Write, Sync. -/
namespace Go.Proofs.YtfepjgafamaegaaGreat
open Go.RowKit

theorem Rd.kpB {w w' : World} {B n : Nat} {A : Option Addr} {l : List UInt8} {F : Nat → Prop} (h : Rd w B A n l) (hk : Kp F w w') (hF : ∀ ad, A = some ad → ¬ F ad.block) : Rd w' B A n l :=
  ⟨h.1, fun hn => by
    obtain ⟨b, o, e, hb, hc⟩ := h.2 hn
    exact ⟨b, o, e, hb, fun j hj => cell_kp (hc j hj) hk (hF ⟨b, o, none⟩ e)⟩⟩

set_option maxRecDepth 100000 in
set_option maxHeartbeats 4000000 in
theorem rwrite_go (M : Nat) (d : Dk) (F : Nat → Prop) (a : Nat) (A : Option Addr) (c : Nat) (b : List UInt8) (w : World) (hd : d.down = false) (ha : a < d.safe.length) (hb : b.length = 32) (hact : d.act.1 = true) (hwl : d.waits.length ≤ 1000000000)
    (hsrc : Rd w w.heap.size A 32 b) (hap : ∀ ad, A = some ad → ¬ F ad.block) (h : RD w F M d) :
    Calls Tryz.prog 124 #[.pointer (some ⟨M, 0, none⟩), .int .i64 a, .slice A 32 c] w fun e w' => e = .returned (.int .i64 0) ∧ ∃ F', RD w' F' M { d.act.2 with waits := d.waits ++ [(a, b)] } ∧ Mv F F' w w' := by
  have Ha := Lib.hid (ract_meth M d F w h)
  rw [hact] at Ha
  have hlen := h.len
  have c3 := h.downCell
  rw [hd] at c3
  obtain ⟨ms, cs, c0⟩ := h.safeCell
  obtain ⟨e1, e2⟩ := d.act_same
  rw [← e1] at ha c0 hlen
  rw [← e2] at hwl ⊢
  generalize d.act.2 = d1 at *
  have Hsrc := Lib.hid hsrc
  have Hap := Lib.hid hap
  obtain ⟨ba, oa, rfl, _⟩ := hsrc.2 (by omega)
  have ha0 : (0 : Int) ≤ (a : Int) := by omega
  have ha1 : (a : Int) < (d1.safe.length : Int) := by omega
  have Ha1 := Lib.hid ha
  have Hlen := Lib.hid hlen
  clear h hsrc hap e1 e2 hd hact ha hlen
  go_enter Tryz.func124, Tryz.ntmps124
  go_wp2_with fail
  refine Ha.out.mono ?_
  rintro e w1 ⟨rfl, hpd, hkp⟩
  have hsrc1 := Hsrc.out.kpB hkp Hap.out
  obtain ⟨sv, wv, hr, hrest⟩ := hpd
  have HR := Lib.hid hr
  have Hrest := Lib.hid hrest
  have Hkp := Lib.hid hkp
  have k1 := (hsrc1.drewN 1).str (P := Tryz.prog) Tryz.underlying23 Tryz.underlying5 Tryz.underlying9 c
  have k2 := ((hsrc1.drewN 1).below ((Below.refl w.heap.size (w1.drewN 1)).alloc hkp.size (.cells #[.int .i64 a, strV b] 133))).str (P := Tryz.prog) Tryz.underlying23 Tryz.underlying5 Tryz.underlying9 c
  have c1 : w1.cell? ⟨M, 1, none⟩ = some wv := hr.blk.cell 1
  have f1 := hr.blk.frozen 1
  have c1a : (w1.alloc (.cells #[.int .i64 a, .string ⟨b.toArray⟩] 133)).cell? ⟨M, 1, none⟩ = some wv := (hr.alloc _).blk.cell 1
  have HR3 := Lib.hid ((hr.drewN 1).alloc (.cells #[.int .i64 a, strV b] 133))
  have Hkp3 := Lib.hid (hkp.trans ((Kp.drew F w1).trans (Kp.alloc F w1.drew (.cells #[.int .i64 a, strV b] 133))))
  obtain ⟨iw, hiw, hzw, hsw, hbw⟩ := info_parts Tryz.infoPut
  have Hiw := Lib.hid hiw
  have Hzw := Lib.hid hzw
  have Hsw := Lib.hid hsw
  have Hbw := Lib.hid hbw
  have HC1 : Hid (∀ u ∈ put1 (a, b), u.oneCell' = true) := by intro u hu; simp [put1, strV] at hu; rcases hu with rfl | rfl <;> rfl
  have HC2 : Hid (putC (d1.waits ++ [(a, b)]) = putC d1.waits ++ put1 (a, b)) := by show _ = _; unfold putC; rw [List.flatMap_append]; simp
  have k1 : (convert 23 9 (.slice (some ⟨ba, oa, none⟩) 32 c)).run Tryz.prog w1.drew = .ok (.string ⟨b.toArray⟩) w1.drew := k1
  have Hb := Lib.hid hb
  clear hr hrest hkp hsrc1 hiw hzw hsw hbw Ha k2 c0 c3 hb HR
  go_wp2
  go_region_law ((refine step_append_app _ rfl _ _ 115 (by rfl) 0 133 iw _ 2 24 Tryz.underlying115 Hiw.out Hzw.out Hsw.out Hbw.out rfl wv d1.waits.length _ (by rfl) HR3.out.rwaits (some ⟨w1.heap.size, 0, none⟩) 1 1 (put1 (a, b)) (by rfl) rfl (by intro e; cases e) (new_cells _ _ _ rfl) HC1.out (by unfold maxLen; omega) (by omega) (by simp) ?_); intro v' w3 happ; (obtain ⟨Av, cv, rfl, _⟩ := own_shape happ.own); (have hk3 : Kp (fun k => wv.ownBlock = some k) _ w3 := Kp.of_row happ.grow (fun g e => e)); (have kb := HR3.out.blk.kp hk3 (fun e => (HR3.out.wne M e).1 rfl)); (have k2 := kb.cell 1); (have kf := kb.frozen 1))
  all_goals
    have ho : w3.ownsRow 0 133 2 (.slice Av (d1.waits.length + 1) cv) (d1.waits ++ [(a, b)]).length (putC (d1.waits ++ [(a, b)])) := by
      rw [HC2.out, List.length_append]
      exact happ.own
    obtain ⟨hpr, hmv⟩ := HR3.out.setWaits hk3 ho (by
      rcases happ.block with h | h
      · exact .inl h
      · exact .inr fun k e => by rw [h] at e; injection e with e; rw [← e]; exact Nat.le_refl _) (fun x hx => by
      rcases List.mem_append.1 hx with hx | hx
      · exact HR3.out.wrow x hx
      · simp only [List.mem_singleton] at hx
        subst hx
        exact ⟨Ha1.out, Hb.out⟩)
    have HF : Hid (∃ F', RD (w3.setCell ⟨M, 1, none⟩ (.slice Av (d1.waits.length + 1) cv)) F' M { d1 with waits := d1.waits ++ [(a, b)] } ∧ Mv F F' w (w3.setCell ⟨M, 1, none⟩ (.slice Av (d1.waits.length + 1) cv))) :=
      ⟨_, ⟨sv, _, hpr, Hrest.out⟩, (Mv.of Hkp3.out).trans hmv⟩
    clear happ hk3 kb k2 kf ho hpr hmv k1 c1 c1a f1 HR3 Hkp3
    go_wp2
    go_ret
    exact ⟨rfl, HF.out⟩

set_option maxRecDepth 100000 in
theorem rwrite_any (M : Nat) (d : Dk) (F : Nat → Prop) (a : Int) (A : Option Addr) (n c : Nat) (b : List UInt8) (w : World) (hn : n ≤ 9223372036854775807) (hwl : d.waits.length ≤ 1000000000)
    (hsrc : Rd w w.heap.size A n b) (hap : ∀ ad, A = some ad → ¬ F ad.block) (h : RD w F M d) :
    Calls Tryz.prog 124 #[.pointer (some ⟨M, 0, none⟩), .int .i64 a, .slice A n c] w fun e w' => e = .returned (.int .i64 (d.write a b).1) ∧ ∃ F', RD w' F' M (d.write a b).2 ∧ Mv F F' w w' := by
  have hl := hsrc.1
  have c3 := h.downCell
  obtain ⟨ms, cs, c0⟩ := h.safeCell
  have hlen := h.len
  unfold Dk.write
  by_cases hd : d.down = true
  · rw [if_pos hd]
    rw [hd] at c3
    have HF : Hid (∃ F', RD w F' M d ∧ Mv F F' w w) := ⟨F, h, Mv.refl F w⟩
    clear h hsrc hap hwl hl
    go_enter Tryz.func124, Tryz.ntmps124
    go_wp2
    go_ret
    exact ⟨rfl, HF.out⟩
  · have hd' : d.down = false := by simpa using hd
    rw [if_neg hd]
    rw [hd'] at c3
    have HF : Hid (∃ F', RD w F' M d ∧ Mv F F' w w) := ⟨F, h, Mv.refl F w⟩
    by_cases h0 : a < 0
    · rw [if_pos (.inl h0)]
      generalize d.safe.length = N at *
      clear h hsrc hap hwl hl
      go_enter Tryz.func124, Tryz.ntmps124
      go_wp2
      go_ret
      exact ⟨rfl, HF.out⟩
    · by_cases h1 : (d.safe.length : Int) ≤ a
      · rw [if_pos (.inr (.inl h1))]
        generalize d.safe.length = N at *
        clear h hsrc hap hwl hl
        go_enter Tryz.func124, Tryz.ntmps124
        go_wp2
        go_ret
        exact ⟨rfl, HF.out⟩
      · by_cases h32 : n = 32
        · rw [if_neg (by omega)]
          subst h32
          obtain ⟨k, rfl⟩ := Int.eq_ofNat_of_zero_le (show 0 ≤ a by omega)
          by_cases hact : d.act.1 = true
          · rw [if_pos hact]
            exact rwrite_go M d F k A c b w hd' (by omega) hl hact hwl hsrc hap h
          · rw [if_neg hact]
            have Ha := Lib.hid (ract_meth M d F w h)
            have hact' : d.act.1 = false := by simpa using hact
            rw [hact'] at Ha
            have h1' : (k : Int) < (d.safe.length : Int) := by omega
            have h0' : (0 : Int) ≤ (k : Int) := by omega
            generalize d.act.2 = d1 at *
            clear h hsrc hap hwl hl hact hact' HF h0 h1
            generalize d.safe.length = N at *
            go_enter Tryz.func124, Tryz.ntmps124
            go_wp2_with fail
            refine Ha.out.mono ?_
            rintro e w1 ⟨rfl, hpd, hkp⟩
            have HF : Hid (∃ F', RD w1 F' M d1 ∧ Mv F F' w w1) := ⟨F, hpd, Mv.of hkp⟩
            clear hpd hkp
            go_wp2
            go_ret
            exact ⟨rfl, HF.out⟩
        · rw [if_pos (by omega)]
          have h32' : ((n : Int) != 32) = true := by simp; omega
          have h1' : a < (d.safe.length : Int) := by omega
          have h0' : (0 : Int) ≤ a := by omega
          clear h hsrc hap hwl hl h0 h1
          generalize d.safe.length = N at *
          go_enter Tryz.func124, Tryz.ntmps124
          go_wp2
          go_ret
          exact ⟨rfl, HF.out⟩
end Go.Proofs.YtfepjgafamaegaaGreat

/- The document's Disk: Sync, Read. -/
namespace Go.Proofs.YtfepjgafamaegaaGreat
open Go.RowKit

theorem syncS_takeR (s : List (List UInt8)) (ws : List (Nat × List UInt8)) (j : Nat) (hj : j < ws.length) : syncS s (ws.take (j + 1)) = (syncS s (ws.take j)).set ws[j].1 ws[j].2 := by
  unfold syncS
  rw [List.take_succ_eq_append_getElem hj, List.foldl_append]
  rfl
theorem own_someR {w : World} {base e size n : Nat} {v : Value} {xs : List Value} (h : w.ownsRow base e size v n xs) (hn : 0 < n) : ∃ k c, v = .slice (some ⟨k, 0, none⟩) n c := by
  rcases h.2 with ⟨_, h0⟩ | ⟨k, cap, cur, hv, _⟩
  · omega
  · exact ⟨k, cap, hv⟩

set_option maxRecDepth 100000 in
set_option maxHeartbeats 4000000 in
theorem rsync_any (M : Nat) (d : Dk) (F : Nat → Prop) (w : World) (hwl : d.waits.length ≤ 1000000000) (h : RD w F M d) :
    Calls Tryz.prog 105 #[.pointer (some ⟨M, 0, none⟩)] w fun e w' => e = .returned (.int .i64 d.sync.1) ∧ ∃ F', RD w' F' M d.sync.2 ∧ Mv F F' w w' := by
  have Ha := Lib.hid (ract_meth M d F w h)
  have hlen := h.len
  unfold Dk.sync
  by_cases hact : d.act.1 = true
  · rw [if_pos hact]
    rw [hact] at Ha
    obtain ⟨e1, e2⟩ := d.act_same
    rw [← e2] at hwl
    rw [← e1] at hlen
    rw [← e1, ← e2]
    generalize d.act.2 = d1 at *
    clear h e1 e2 hact
    go_enter Tryz.func105, Tryz.ntmps105
    go_wp2_with fail
    refine Ha.out.mono ?_
    rintro e w1 ⟨rfl, hpd, hkp⟩
    obtain ⟨sv, wv, hr, hrest⟩ := hpd
    obtain ⟨ms, cs, rfl⟩ := own_someR hr.rsafe (by omega)
    obtain ⟨A, c, rfl, _⟩ := own_shape hr.rwaits
    have HR := Lib.hid hr
    have Hrest := Lib.hid hrest
    have Hkp := Lib.hid hkp
    clear hr hrest hkp Ha
    generalize hn : d1.waits.length = n at *
    have Hn := Lib.hid hn
    generalize hs : d1.safe.length = s at *
    have Hs := Lib.hid hs
    clear hn hs
    go_wp2
    go_loopg [4] n (fun k i wr => ∃ j : Nat, i = .int .i64 j ∧ j + k = n ∧ Hid (DR wr F M (.slice (some ⟨ms, 0, none⟩) s cs) (.slice A n c) (syncS d1.safe (d1.waits.take j)) d1.waits d1.left d1.down ∧ Kp F w wr))
    case atStart => exact ⟨0, rfl, by omega, ⟨by simpa [syncS] using HR.out, Hkp.out⟩⟩
    case round =>
      clear HR Hkp
      obtain ⟨j, rfl, hk, HR⟩ := hrel
      have hr := HR.out.1
      have hkw := HR.out.2
      have c0 : wr.cell? ⟨M, 0, none⟩ = some (.slice (some ⟨ms, 0, none⟩) s cs) := hr.blk.cell 0
      have c1 : wr.cell? ⟨M, 1, none⟩ = some (.slice A n c) := hr.blk.cell 1
      have hsl : (syncS d1.safe (d1.waits.take j)).length = s := by rw [syncS_len]; exact Hs.out
      by_cases hj : j < n
      · have hjl : j < d1.waits.length := by rw [Hn.out]; exact hj
        obtain ⟨mw, rfl⟩ : ∃ mw, A = some ⟨mw, 0, none⟩ := by
          rcases hr.rwaits.2 with ⟨h', h0⟩ | ⟨mw, cap, cur, hv, _⟩
          · omega
          · injection hv with e1; exact ⟨mw, e1⟩
        have hsy := syncS_takeR d1.safe d1.waits j hjl
        obtain ⟨wc0, wc1⟩ := hr.waitAt j hjl
        have hrow := hr.wrow _ (List.getElem_mem hjl)
        generalize d1.waits[j] = x at *
        obtain ⟨at_, what⟩ := x
        simp only at hrow hsy wc0 wc1
        have sc := hr.safeAt at_ hrow.1
        have hr' : DR wr F M (.slice (some ⟨ms, 0, none⟩) (syncS d1.safe (d1.waits.take j)).length cs) (.slice (some ⟨mw, 0, none⟩) n c) (syncS d1.safe (d1.waits.take j)) d1.waits d1.left d1.down := by rw [hsl]; exact hr
        have fs := hr'.rsafe.frozenAt at_
        have HR3 := Lib.hid ((hr'.drewN 1).setSafe at_ what hrow.2)
        have HR3 : Hid (DR (wr.drew.setCell ⟨ms, at_, none⟩ (strV what)) F M _ _ _ _ _ _) := HR3
        rw [← hsy, hsl] at HR3
        have Hk3 := Lib.hid (hkw.trans ((Kp.drew F wr).trans (Kp.set_ (p := ⟨ms, at_, none⟩) (hr.foot.2.1 ms rfl) (strV what))))
        have ha0 : (0 : Int) ≤ (at_ : Int) := by omega
        have ha1 : (at_ : Int) < (s : Int) := by have := hrow.1; rw [hsl] at this; omega
        generalize (syncS d1.safe (d1.waits.take j)).getD at_ [] = old at *
        unfold strV at wc1 sc
        clear hsl hr hr' hkw HR hsy hjl hrow
        go_wp2
        go_still_tail 21, (by kernel_rfl)
        change wpList _ _ _ _ _ wr.drew
        have sc' : wr.drew.cell? ⟨ms, at_, none⟩ = some (.string ⟨old.toArray⟩) := sc
        have fs' : wr.drew.frozen? ⟨ms, at_, none⟩ = false := fs
        clear sc fs wc0 wc1 c0 c1
        generalize wr.drew = W at *
        unfold strV at HR3 Hk3
        go_wp2
        go_roundg (gk - 1)
        case measure => omega
        case rel => exact ⟨j + 1, by go_num, by omega, ⟨HR3.out, Hk3.out⟩⟩
      · obtain rfl : j = n := by omega
        have hall : d1.waits.take j = d1.waits := List.take_of_length_le (by rw [Hn.out]; exact Nat.le_refl _)
        have f1 := hr.blk.frozen 1
        rw [hall] at hr
        obtain ⟨hpr, hmv⟩ := hr.setWaits (wv' := .slice none 0 0) (ws' := []) (Kp.refl _ wr) (World.ownsRow_nil _ _ _ _) (.inr (by intro k hk; simp [Value.ownBlock] at hk)) (by intro x hx; cases hx)
        have HF : Hid (∃ F', RD (wr.setCell ⟨M, 1, none⟩ (.slice none 0 0)) F' M { d1 with safe := syncS d1.safe d1.waits, waits := [] } ∧ Mv F F' w (wr.setCell ⟨M, 1, none⟩ (.slice none 0 0))) := by
          refine ⟨_, ⟨_, _, hpr, Hrest.out.1, Hrest.out.2.1, ?_, ?_⟩, (Mv.of hkw).trans hmv⟩
          · simp only [syncS_len, Hs.out]; exact hlen.1
          · simp only [syncS_len, Hs.out]; exact hlen.2
        clear hpr hmv HR hr hkw hsl hall
        go_wp2
        go_ret
        exact ⟨rfl, HF.out⟩
  · rw [if_neg hact]
    have hact' : d.act.1 = false := by simpa using hact
    rw [hact'] at Ha
    generalize d.act.2 = d1 at *
    clear h hact hact' hwl hlen
    go_enter Tryz.func105, Tryz.ntmps105
    go_wp2_with fail
    refine Ha.out.mono ?_
    rintro e w1 ⟨rfl, hpd, hkp⟩
    have HF : Hid (∃ F', RD w1 F' M d1 ∧ Mv F F' w w1) := ⟨F, hpd, Mv.of hkp⟩
    clear hpd hkp
    go_wp2
    go_ret
    exact ⟨rfl, HF.out⟩
end Go.Proofs.YtfepjgafamaegaaGreat
