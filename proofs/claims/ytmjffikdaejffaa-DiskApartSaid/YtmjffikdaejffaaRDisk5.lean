/- The document's Disk: Crash. -/
import Derived.Test.YtmjffikdaejffaaRDisk4
namespace Go.Proofs.Ytmjffikdaejffaa
open Go.RowKit

theorem RdI.kpB {w w' : World} {B n : Nat} {A : Option Addr} {l : List Int} {F : Nat → Prop} (h : RdI w B A n l) (hk : Kp F w w') (hF : 0 < n → ∀ ad, A = some ad → ¬ F ad.block) : RdI w' B A n l :=
  ⟨h.1, h.2.1, fun hn => by
    obtain ⟨b, o, e, hb, hc⟩ := h.2.2 hn
    exact ⟨b, o, e, hb, fun j hj => cell_kp (hc j hj) hk (hF hn ⟨b, o, none⟩ e)⟩⟩
theorem str_take (l : List UInt8) (q : Nat) : (⟨l.toArray⟩ : ByteArray).extract 0 q = ⟨(l.take q).toArray⟩ := by
  rw [ByteArray.extract_mk]
  simp
theorem str_drop (l : List UInt8) (q n : Nat) (hn : l.length ≤ n) : (⟨l.toArray⟩ : ByteArray).extract q n = ⟨(l.drop q).toArray⟩ := by
  rw [ByteArray.extract_mk]
  congr 1
  apply Array.toList_inj.1
  simp
  rw [List.take_of_length_le (by simp; omega)]
theorem str_app (a b : List UInt8) : (⟨a.toArray⟩ : ByteArray) ++ (⟨b.toArray⟩ : ByteArray) = ⟨(a ++ b).toArray⟩ := by
  apply ByteArray.ext
  simp
theorem crashS_stop (s : List (List UInt8)) (ws : List (Nat × List UInt8)) : ∀ (ks : List Int) (j : Nat), ks.length ≤ j → crashS s ws ks = crashS s (ws.take j) ks := by
  induction ws generalizing s with
  | nil => intro ks j _; simp
  | cons w ws ih =>
    intro ks j hj
    cases ks with
    | nil => cases j <;> rfl
    | cons k ks =>
      cases j with
      | zero => simp at hj
      | succ j => exact ih _ ks j (by simpa using hj)

set_option maxRecDepth 100000 in
set_option maxHeartbeats 4000000 in
theorem rcrash_any (M : Nat) (d : Dk) (F : Nat → Prop) (A : Option Addr) (n c : Nat) (ks : List Int) (w : World) (hn : n ≤ 9223372036854775807) (_hwl : d.waits.length ≤ 1000000000)
    (hks : RdI w w.heap.size A n ks) (hap : 0 < n → ∀ ad, A = some ad → ¬ F ad.block) (h : RD w F M d) :
    Calls Try.prog 33 #[.pointer (some ⟨M, 0, none⟩), .slice A n c] w fun e w' => e = .returned (.tuple #[]) ∧ ∃ F', RD w' F' M (d.crash ks) ∧ Mv F F' w w' := by
  have hlen := h.len
  obtain ⟨sv, wv, hr, _⟩ := h
  obtain ⟨ms, cs, rfl⟩ := own_someR hr.rsafe (by omega)
  obtain ⟨Aw, cw, rfl, _⟩ := own_shape hr.rwaits
  have HR := Lib.hid hr
  have Hks := Lib.hid hks
  have Hap := Lib.hid hap
  clear hr hks hap
  generalize hm : d.waits.length = m at *
  have Hm := Lib.hid hm
  generalize hs : d.safe.length = s at *
  have Hs := Lib.hid hs
  clear hm hs
  go_enter Try.func33, Try.ntmps33
  go_wp2
  go_loopg [4] m (fun k i wr => ∃ j : Nat, i = .int .i64 j ∧ j + k = m ∧ Hid (DR wr F M (.slice (some ⟨ms, 0, none⟩) s cs) (.slice Aw m cw) (crashS d.safe (d.waits.take j) ks) d.waits d.left d.down ∧ Kp F w wr))
  case atStart => exact ⟨0, rfl, by omega, ⟨by simpa [crashS_nil] using HR.out, Kp.refl F w⟩⟩
  case round =>
    clear HR
    obtain ⟨j, rfl, hk, HR⟩ := hrel
    have hr := HR.out.1
    have hkw := HR.out.2
    have c0 : wr.cell? ⟨M, 0, none⟩ = some (.slice (some ⟨ms, 0, none⟩) s cs) := hr.blk.cell 0
    have c1 : wr.cell? ⟨M, 1, none⟩ = some (.slice Aw m cw) := hr.blk.cell 1
    have hsl : (crashS d.safe (d.waits.take j) ks).length = s := by rw [crashS_len]; exact Hs.out
    have hksl : ks.length = n := Hks.out.1
    by_cases hj : j < m ∧ j < n
    · obtain ⟨hj1, hj2⟩ := hj
      have hjl : j < d.waits.length := by rw [Hm.out]; exact hj1
      obtain ⟨mw, rfl⟩ : ∃ mw, Aw = some ⟨mw, 0, none⟩ := by
        rcases hr.rwaits.2 with ⟨h', h0⟩ | ⟨mw, cap, cur, hv, _⟩
        · omega
        · injection hv with e1; exact ⟨mw, e1⟩
      obtain ⟨kb, ko, rfl, hkB, hkc⟩ := (Hks.out.kpB hkw Hap.out).2.2 (by omega)
      have hlt_kb : kb < wr.heap.size := Nat.lt_of_lt_of_le hkB hkw.size
      have kcell := hkc j (by omega)
      have hkb := (Hks.out.2.1) _ (List.getElem_mem (show j < ks.length by omega))
      have hsy := crashS_take d.waits d.safe ks j hjl
      have hkept : keptOf ks j = clip (ks[j]'(by omega)) := by
        unfold keptOf
        rw [if_pos (by omega)]
        simp [List.getD, show j < ks.length by omega]
      rw [hkept] at hsy
      clear hkc hkept
      generalize ks[j]'(by omega) = kk at *
      obtain ⟨wc0, wc1⟩ := hr.waitAt j hjl
      have hrow := hr.wrow _ (List.getElem_mem hjl)
      generalize d.waits[j] = x at *
      obtain ⟨at_, what⟩ := x
      simp only at hrow hsy wc0 wc1
      have sc := hr.safeAt at_ hrow.1
      have hold := rows_getD hr.srow hrow.1
      have hr' : DR wr F M (.slice (some ⟨ms, 0, none⟩) (crashS d.safe (d.waits.take j) ks).length cs) (.slice (some ⟨mw, 0, none⟩) m cw) (crashS d.safe (d.waits.take j) ks) d.waits d.left d.down := by rw [hsl]; exact hr
      have fs := hr'.rsafe.frozenAt at_
      have ha0 : (0 : Int) ≤ (at_ : Int) := by omega
      have ha1 : (at_ : Int) < (s : Int) := by have := hrow.1; rw [hsl] at this; omega
      have hlt_ms : ms < wr.heap.size := hr.lt ms (hr.foot.2.1 ms rfl)
      have hlt_M : M < wr.heap.size := hr.lt M hr.foot.1
      have HR3 : Hid (∀ o, DR ((wr.alloc o).drew.setCell ⟨ms, at_, none⟩ (strV (lay (clip kk) what ((crashS d.safe (d.waits.take j) ks).getD at_ [])))) F M (.slice (some ⟨ms, 0, none⟩) s cs) (.slice (some ⟨mw, 0, none⟩) m cw) (crashS d.safe (d.waits.take (j + 1)) ks) d.waits d.left d.down ∧ Kp F w ((wr.alloc o).drew.setCell ⟨ms, at_, none⟩ (strV (lay (clip kk) what ((crashS d.safe (d.waits.take j) ks).getD at_ []))))) := fun o => by
        refine ⟨?_, hkw.trans ((Kp.alloc F wr o).trans ((Kp.drew F _).trans (Kp.set_ (p := ⟨ms, at_, none⟩) (hr.foot.2.1 ms rfl) _)))⟩
        have h1 := (((hr'.alloc o).drewN 1).setSafe at_ _ (lay_len (clip kk) what _ hrow.2 hold (clip_le kk)))
        rw [← hsy, hsl] at h1
        exact h1
      have hw32 : (⟨what.toArray⟩ : ByteArray).size = 32 := by simp [ByteArray.size, hrow.2]
      have ho32 : (⟨((crashS d.safe (d.waits.take j) ks).getD at_ []).toArray⟩ : ByteArray).size = 32 := by
        show Array.size _ = 32
        rw [List.size_toArray]
        exact hold
      generalize (crashS d.safe (d.waits.take j) ks).getD at_ [] = old at *
      have Hrow := Lib.hid hrow
      have Hold := Lib.hid hold
      unfold strV at wc1 sc HR3
      have xs := fun q => str_take what q
      have xd := fun q => str_drop old q 32 (by rw [hold]; exact Nat.le_refl _)
      have xa := str_app
      clear hsl hr hr' hkw HR hsy hjl hrow hold hksl
      have hW : ∀ o, (wr.alloc o).cell? ⟨M, 0, none⟩ = some (.slice (some ⟨ms, 0, none⟩) s cs) ∧ (wr.alloc o).cell? ⟨ms, at_, none⟩ = some (.string ⟨old.toArray⟩) ∧ (wr.alloc o).frozen? ⟨ms, at_, none⟩ = false := fun o =>
        ⟨(World.cell?_alloc_lt wr o _ hlt_M).trans c0, (World.cell?_alloc_lt wr o _ hlt_ms).trans sc, by rw [World.frozen?_alloc_past _ _ _ hlt_ms]; exact fs⟩
      have hN : (wr.alloc (.cells #[.int .i64 (at_ : Int), .string ⟨what.toArray⟩] 81)).cell? ⟨wr.heap.size, 0, none⟩ = some (.int .i64 (at_ : Int)) ∧ (wr.alloc (.cells #[.int .i64 (at_ : Int), .string ⟨what.toArray⟩] 81)).cell? ⟨wr.heap.size, 1, none⟩ = some (.string ⟨what.toArray⟩) :=
        ⟨(Bk.new wr 81 #[.int .i64 (at_ : Int), .string ⟨what.toArray⟩]).cell 0, (Bk.new wr 81 #[.int .i64 (at_ : Int), .string ⟨what.toArray⟩]).cell 1⟩
      have HW := Lib.hid (hW (.cells #[.int .i64 (at_ : Int), .string ⟨what.toArray⟩] 81))
      have HN := Lib.hid hN
      have HR4 := Lib.hid (HR3.out (.cells #[.int .i64 (at_ : Int), .string ⟨what.toArray⟩] 81))
      clear hW hN HR3
      have hclip : (kk < 0 ∧ clip kk = 0) ∨ (32 < kk ∧ clip kk = 32) ∨ (∃ q : Nat, kk = (q : Int) ∧ q ≤ 32 ∧ clip kk = q) := by
        unfold clip
        by_cases h0 : kk < 0
        · exact .inl ⟨h0, by omega⟩
        · by_cases h1 : 32 < kk
          · exact .inr (.inl ⟨h1, by omega⟩)
          · exact .inr (.inr ⟨kk.toNat, by omega, by omega, by omega⟩)
      rcases hclip with ⟨hk0, hcl⟩ | ⟨hk1, hcl⟩ | ⟨q, rfl, hq, hcl⟩
      · rw [hcl] at HR4
        clear hcl
        go_wp2
        obtain ⟨e0, e1, e2⟩ := HW.out
        obtain ⟨e3, e4⟩ := HN.out
        generalize wr.alloc (.cells #[.int .i64 (at_ : Int), .string ⟨what.toArray⟩] 81) = W at *
        generalize wr.heap.size = N at *
        have y1 := xs 0
        have y2 := xd 0
        rw [lay_zero] at HR4
        clear xs xd xa wc0 wc1 c0 c1 sc fs HW HN
        go_still_tail 22, (by kernel_rfl)
        change wpList _ _ _ _ _ W.drew
        have e1' : W.drew.cell? ⟨ms, at_, none⟩ = some (.string ⟨old.toArray⟩) := e1
        have e2' : W.drew.frozen? ⟨ms, at_, none⟩ = false := e2
        clear e0 e1 e2 e3 e4
        generalize W.drew = W2 at *
        go_wp2
        go_roundg (gk - 1)
        case measure => omega
        case rel => exact ⟨j + 1, by go_num, by omega, HR4.out⟩
      · have hn0 : ¬ (kk < 0) := by omega
        rw [hcl] at HR4
        clear hcl
        go_wp2
        obtain ⟨e0, e1, e2⟩ := HW.out
        obtain ⟨e3, e4⟩ := HN.out
        generalize wr.alloc (.cells #[.int .i64 (at_ : Int), .string ⟨what.toArray⟩] 81) = W at *
        generalize wr.heap.size = N at *
        have y1 := xs 32
        have y2 := xd 32
        have y3 := xa (what.take 32) (old.drop 32)
        have hmx : ¬ (9223372036854775807 < min 32 what.length) := by have := Hrow.out.2; omega
        have hly : lay 32 what old = what.take 32 := by unfold lay; rw [List.drop_eq_nil_of_le (by have := Hold.out; omega), List.append_nil]
        rw [hly] at HR4
        clear hly
        clear xs xd xa wc0 wc1 c0 c1 sc fs HW HN
        go_still_tail 22, (by kernel_rfl)
        change wpList _ _ _ _ _ W.drew
        have e1' : W.drew.cell? ⟨ms, at_, none⟩ = some (.string ⟨old.toArray⟩) := e1
        have e2' : W.drew.frozen? ⟨ms, at_, none⟩ = false := e2
        clear e0 e1 e2 e3 e4
        generalize W.drew = W2 at *
        go_wp2
        go_roundg (gk - 1)
        case measure => omega
        case rel => exact ⟨j + 1, by go_num, by omega, HR4.out⟩
      · have hn0 : ¬ ((q : Int) < 0) := by omega
        have hn1 : ¬ (32 < (q : Int)) := by omega
        have hq1 : (q : Int) ≤ 32 := by omega
        have hq0 : (0 : Int) ≤ (q : Int) := by omega
        rw [hcl] at HR4
        clear hcl
        go_wp2
        obtain ⟨e0, e1, e2⟩ := HW.out
        obtain ⟨e3, e4⟩ := HN.out
        generalize wr.alloc (.cells #[.int .i64 (at_ : Int), .string ⟨what.toArray⟩] 81) = W at *
        generalize wr.heap.size = N at *
        have y1 := xs q
        have y2 := xd q
        have y3 := xa (what.take q) (old.drop q)
        have hmx : ¬ (9223372036854775807 < min q what.length + (old.length - q)) := by have := Hrow.out.2; have := Hold.out; omega
        unfold lay at HR4
        clear xs xd xa wc0 wc1 c0 c1 sc fs HW HN
        go_still_tail 22, (by kernel_rfl)
        change wpList _ _ _ _ _ W.drew
        have e1' : W.drew.cell? ⟨ms, at_, none⟩ = some (.string ⟨old.toArray⟩) := e1
        have e2' : W.drew.frozen? ⟨ms, at_, none⟩ = false := e2
        clear e0 e1 e2 e3 e4
        generalize W.drew = W2 at *
        go_wp2
        go_roundg (gk - 1)
        case measure => omega
        case rel => exact ⟨j + 1, by go_num, by omega, HR4.out⟩
    · have hstop : crashS d.safe (d.waits.take j) ks = crashS d.safe d.waits ks := by
        by_cases h1 : m ≤ j
        · rw [List.take_of_length_le (by rw [Hm.out]; exact h1)]
        · exact (crashS_stop d.safe d.waits ks j (by omega)).symm
      rw [hstop] at hr
      obtain ⟨hpr, hmv⟩ := hr.setWaits (wv' := .slice none 0 0) (ws' := []) (Kp.refl _ wr) (World.ownsRow_nil _ _ _ _) (.inr (by intro k hk; simp [Value.ownBlock] at hk)) (by intro x hx; cases hx)
      have f1 := hr.blk.frozen 1
      have k2 := hpr.blk.cell 2
      have k3 := hpr.blk.cell 3
      have f2 := hpr.blk.frozen 2
      have f3 := hpr.blk.frozen 3
      have HF : Hid (∃ F', RD (((wr.setCell ⟨M, 1, none⟩ (.slice none 0 0)).setCell ⟨M, 2, none⟩ (.int .i64 (-1))).setCell ⟨M, 3, none⟩ (.bool false)) F' M (d.crash ks) ∧ Mv F F' w (((wr.setCell ⟨M, 1, none⟩ (.slice none 0 0)).setCell ⟨M, 2, none⟩ (.int .i64 (-1))).setCell ⟨M, 3, none⟩ (.bool false))) := by
        refine ⟨_, ⟨_, _, (hpr.setLeft (-1)).setDown false, by simp [Dk.crash], by simp [Dk.crash], by rw [Dk.crash_len, Hs.out]; exact hlen.1, by rw [Dk.crash_len, Hs.out]; exact hlen.2⟩, ?_⟩
        refine ((Mv.of hkw).trans hmv).trans (Mv.of ?_)
        exact (Kp.set_ (p := ⟨M, 2, none⟩) hpr.foot.1 _).trans (Kp.set_ (p := ⟨M, 3, none⟩) hpr.foot.1 _)
      clear hpr hmv HR hr hkw hsl hstop hksl
      by_cases hj1 : j < m
      · have hj2 : ¬ j < n := by omega
        go_wp2
        go_end0
        exact ⟨rfl, HF.out⟩
      · clear hj
        go_wp2
        go_end0
        exact ⟨rfl, HF.out⟩
end Go.Proofs.Ytmjffikdaejffaa
