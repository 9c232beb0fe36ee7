/- The document's Disk: Sync, Read. -/
import Derived.Test.YtmjffikdaejffaaRDisk2
namespace Go.Proofs.Ytmjffikdaejffaa
open Go.RowKit

theorem syncS_takeR (s : List (List UInt8)) (ws : List (Nat × List UInt8)) (j : Nat) (hj : j < ws.length) : syncS s (ws.take (j + 1)) = (syncS s (ws.take j)).set ws[j].1 ws[j].2 := by
  unfold syncS
  rw [List.take_succ_eq_append_getElem hj, List.foldl_append]
  rfl
theorem own_someR {w : World} {base e size n : Nat} {v : Value} {xs : List Value} (h : w.ownsRow base e size v n xs) (hn : 0 < n) : ∃ k c, v = .slice (some ⟨k, 0, none⟩) n c := by
  rcases h.2 with ⟨_, h0⟩ | ⟨k, cap, cur, hv, _⟩
  · omega
  · exact ⟨k, cap, hv⟩

set_option maxRecDepth 100000 in
set_option maxHeartbeats 4000000 in
theorem rsync_any (M : Nat) (d : Dk) (F : Nat → Prop) (w : World) (hwl : d.waits.length ≤ 1000000000) (h : RD w F M d) :
    Calls Try.prog 31 #[.pointer (some ⟨M, 0, none⟩)] w fun e w' => e = .returned (.int .i64 d.sync.1) ∧ ∃ F', RD w' F' M d.sync.2 ∧ Mv F F' w w' := by
  have Ha := Lib.hid (ract_meth M d F w h)
  have hlen := h.len
  unfold Dk.sync
  by_cases hact : d.act.1 = true
  · rw [if_pos hact]
    rw [hact] at Ha
    obtain ⟨e1, e2⟩ := d.act_same
    rw [← e2] at hwl
    rw [← e1] at hlen
    rw [← e1, ← e2]
    generalize d.act.2 = d1 at *
    clear h e1 e2 hact
    go_enter Try.func31, Try.ntmps31
    go_wp2_with fail
    refine Ha.out.mono ?_
    rintro e w1 ⟨rfl, hpd, hkp⟩
    obtain ⟨sv, wv, hr, hrest⟩ := hpd
    obtain ⟨ms, cs, rfl⟩ := own_someR hr.rsafe (by omega)
    obtain ⟨A, c, rfl, _⟩ := own_shape hr.rwaits
    have HR := Lib.hid hr
    have Hrest := Lib.hid hrest
    have Hkp := Lib.hid hkp
    clear hr hrest hkp Ha
    generalize hn : d1.waits.length = n at *
    have Hn := Lib.hid hn
    generalize hs : d1.safe.length = s at *
    have Hs := Lib.hid hs
    clear hn hs
    go_wp2
    go_loopg [4] n (fun k i wr => ∃ j : Nat, i = .int .i64 j ∧ j + k = n ∧ Hid (DR wr F M (.slice (some ⟨ms, 0, none⟩) s cs) (.slice A n c) (syncS d1.safe (d1.waits.take j)) d1.waits d1.left d1.down ∧ Kp F w wr))
    case atStart => exact ⟨0, rfl, by omega, ⟨by simpa [syncS] using HR.out, Hkp.out⟩⟩
    case round =>
      clear HR Hkp
      obtain ⟨j, rfl, hk, HR⟩ := hrel
      have hr := HR.out.1
      have hkw := HR.out.2
      have c0 : wr.cell? ⟨M, 0, none⟩ = some (.slice (some ⟨ms, 0, none⟩) s cs) := hr.blk.cell 0
      have c1 : wr.cell? ⟨M, 1, none⟩ = some (.slice A n c) := hr.blk.cell 1
      have hsl : (syncS d1.safe (d1.waits.take j)).length = s := by rw [syncS_len]; exact Hs.out
      by_cases hj : j < n
      · have hjl : j < d1.waits.length := by rw [Hn.out]; exact hj
        obtain ⟨mw, rfl⟩ : ∃ mw, A = some ⟨mw, 0, none⟩ := by
          rcases hr.rwaits.2 with ⟨h', h0⟩ | ⟨mw, cap, cur, hv, _⟩
          · omega
          · injection hv with e1; exact ⟨mw, e1⟩
        have hsy := syncS_takeR d1.safe d1.waits j hjl
        obtain ⟨wc0, wc1⟩ := hr.waitAt j hjl
        have hrow := hr.wrow _ (List.getElem_mem hjl)
        generalize d1.waits[j] = x at *
        obtain ⟨at_, what⟩ := x
        simp only at hrow hsy wc0 wc1
        have sc := hr.safeAt at_ hrow.1
        have hr' : DR wr F M (.slice (some ⟨ms, 0, none⟩) (syncS d1.safe (d1.waits.take j)).length cs) (.slice (some ⟨mw, 0, none⟩) n c) (syncS d1.safe (d1.waits.take j)) d1.waits d1.left d1.down := by rw [hsl]; exact hr
        have fs := hr'.rsafe.frozenAt at_
        have HR3 := Lib.hid ((hr'.drewN 1).setSafe at_ what hrow.2)
        have HR3 : Hid (DR (wr.drew.setCell ⟨ms, at_, none⟩ (strV what)) F M _ _ _ _ _ _) := HR3
        rw [← hsy, hsl] at HR3
        have Hk3 := Lib.hid (hkw.trans ((Kp.drew F wr).trans (Kp.set_ (p := ⟨ms, at_, none⟩) (hr.foot.2.1 ms rfl) (strV what))))
        have ha0 : (0 : Int) ≤ (at_ : Int) := by omega
        have ha1 : (at_ : Int) < (s : Int) := by have := hrow.1; rw [hsl] at this; omega
        generalize (syncS d1.safe (d1.waits.take j)).getD at_ [] = old at *
        unfold strV at wc1 sc
        clear hsl hr hr' hkw HR hsy hjl hrow
        go_wp2
        go_still_tail 21, (by kernel_rfl)
        change wpList _ _ _ _ _ wr.drew
        have sc' : wr.drew.cell? ⟨ms, at_, none⟩ = some (.string ⟨old.toArray⟩) := sc
        have fs' : wr.drew.frozen? ⟨ms, at_, none⟩ = false := fs
        clear sc fs wc0 wc1 c0 c1
        generalize wr.drew = W at *
        unfold strV at HR3 Hk3
        go_wp2
        go_roundg (gk - 1)
        case measure => omega
        case rel => exact ⟨j + 1, by go_num, by omega, ⟨HR3.out, Hk3.out⟩⟩
      · obtain rfl : j = n := by omega
        have hall : d1.waits.take j = d1.waits := List.take_of_length_le (by rw [Hn.out]; exact Nat.le_refl _)
        have f1 := hr.blk.frozen 1
        rw [hall] at hr
        obtain ⟨hpr, hmv⟩ := hr.setWaits (wv' := .slice none 0 0) (ws' := []) (Kp.refl _ wr) (World.ownsRow_nil _ _ _ _) (.inr (by intro k hk; simp [Value.ownBlock] at hk)) (by intro x hx; cases hx)
        have HF : Hid (∃ F', RD (wr.setCell ⟨M, 1, none⟩ (.slice none 0 0)) F' M { d1 with safe := syncS d1.safe d1.waits, waits := [] } ∧ Mv F F' w (wr.setCell ⟨M, 1, none⟩ (.slice none 0 0))) := by
          refine ⟨_, ⟨_, _, hpr, Hrest.out.1, Hrest.out.2.1, ?_, ?_⟩, (Mv.of hkw).trans hmv⟩
          · simp only [syncS_len, Hs.out]; exact hlen.1
          · simp only [syncS_len, Hs.out]; exact hlen.2
        clear hpr hmv HR hr hkw hsl hall
        go_wp2
        go_ret
        exact ⟨rfl, HF.out⟩
  · rw [if_neg hact]
    have hact' : d.act.1 = false := by simpa using hact
    rw [hact'] at Ha
    generalize d.act.2 = d1 at *
    clear h hact hact' hwl hlen
    go_enter Try.func31, Try.ntmps31
    go_wp2_with fail
    refine Ha.out.mono ?_
    rintro e w1 ⟨rfl, hpd, hkp⟩
    have HF : Hid (∃ F', RD w1 F' M d1 ∧ Mv F F' w w1) := ⟨F, hpd, Mv.of hkp⟩
    clear hpd hkp
    go_wp2
    go_ret
    exact ⟨rfl, HF.out⟩
end Go.Proofs.Ytmjffikdaejffaa
