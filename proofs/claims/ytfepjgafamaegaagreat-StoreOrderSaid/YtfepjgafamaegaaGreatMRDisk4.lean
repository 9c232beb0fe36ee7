/- Of the proofs of layer 4, merged: RDisk4, RDisk5, RDisk6. -/
import Derived.Test.YtfepjgafamaegaaGreatMRDisk2
import Derived.Lib.ConvBytes
import Derived.BigRegion

/- The document's Disk: Read. -/
namespace Go.Proofs.YtfepjgafamaegaaGreat
open Go.RowKit

theorem conv_str (l : List UInt8) (w : World) : ∃ c W', (convert 9 23 (.string ⟨l.toArray⟩)).run Tryz.prog w = .ok (.slice (some ⟨w.heap.size, 0, none⟩) l.length c) W' ∧ Rd W' W'.heap.size (some ⟨w.heap.size, 0, none⟩) l.length l ∧ Below w.heap.size w W' ∧ (l.length ≤ c ∧ (l.length ≤ 1000 → c ≤ 9223372036854775807)) := by
  have h := Lib.run_convert_string_bytes (P := Tryz.prog) w 9 23 5 ⟨l.toArray⟩ Tryz.underlying9 Tryz.underlying23 Tryz.underlying5
  have hs : (⟨l.toArray⟩ : ByteArray).size = l.length := by simp [ByteArray.size]
  rw [hs] at h
  refine ⟨_, _, h, ⟨rfl, fun _ => ⟨_, 0, rfl, by rw [Lib.bytesWorld_size]; omega, fun j hj => ?_⟩⟩, ⟨?_, ?_, ?_, ?_, fun k hk => Lib.bytesWorld_at_old w 5 _ k hk⟩, ⟨grownCap_ge _ _ _ _, fun hl => grownCap_le_maxLen _ _ _ _ (by unfold maxLen; omega)⟩⟩
  · rw [Nat.zero_add, Lib.bytesWorld_cell w 5 _ j (by rw [hs]; exact hj)]
    simp [List.getD, hj]
  · rfl
  · rfl
  · rfl
  · rw [Lib.bytesWorld_size]; omega

theorem seen_take (s : List (List UInt8)) (ws : List (Nat × List UInt8)) (i j : Nat) (hj : j < ws.length) : seen s (ws.take (j + 1)) i = if ws[j].1 = i then ws[j].2 else seen s (ws.take j) i := by
  unfold seen
  rw [List.take_succ_eq_append_getElem hj, List.foldl_append]
  rfl

/-- What a Read answers. -/
def Tells (l : List UInt8) (r : Int) (w : World) (e : Ending) (w' : World) : Prop := ∃ A c, e = .returned (.tuple #[.slice A l.length c, .int .i64 r]) ∧ Rd w' w'.heap.size A l.length l ∧ (l.length ≤ c ∧ (l.length ≤ 1000 → c ≤ 9223372036854775807)) ∧ Below w.heap.size w w'
theorem Tells.none_ (r : Int) (w : World) : Tells [] r w (.returned (.tuple #[.slice none 0 0, .int .i64 r])) w := ⟨none, 0, rfl, Rd.nil _ _ _, ⟨Nat.le_refl _, fun _ => by omega⟩, Below.refl _ _⟩

set_option maxRecDepth 100000 in
set_option maxHeartbeats 4000000 in
theorem rread_any (M : Nat) (d : Dk) (F : Nat → Prop) (a : Int) (w : World) (hwl : d.waits.length ≤ 1000000000) (h : RD w F M d) :
    Calls Tryz.prog 157 #[.pointer (some ⟨M, 0, none⟩), .int .i64 a] w (Tells (d.read a).1 (d.read a).2 w) := by
  have c3 := h.downCell
  have hlen := h.len
  obtain ⟨sv, wv, hr, _⟩ := h
  obtain ⟨ms, cs, rfl⟩ := own_someR hr.rsafe (by omega)
  have c0 : w.cell? ⟨M, 0, none⟩ = some (.slice (some ⟨ms, 0, none⟩) d.safe.length cs) := hr.blk.cell 0
  unfold Dk.read
  by_cases hd : d.down = true
  · rw [if_pos hd]
    rw [hd] at c3
    generalize d.safe.length = N at *
    clear hr
    go_enter Tryz.func157, Tryz.ntmps157
    go_wp2
    go_ret2
    exact Tells.none_ _ _
  · rw [if_neg hd]
    have hd' : d.down = false := by simpa using hd
    rw [hd'] at c3
    by_cases ho : a < 0 ∨ (d.safe.length : Int) ≤ a
    · rw [if_pos ho]
      generalize d.safe.length = N at *
      clear hr
      by_cases h0 : a < 0
      all_goals
        go_enter Tryz.func157, Tryz.ntmps157
        go_wp2
        go_ret2
        exact Tells.none_ _ _
    · rw [if_neg ho]
      obtain ⟨k, rfl⟩ := Int.eq_ofNat_of_zero_le (show 0 ≤ a by omega)
      have hk : k < d.safe.length := by omega
      rw [show ((k : Int)).toNat = k from Int.toNat_natCast k]
      have sc := hr.safeAt k hk
      obtain ⟨A, c, rfl, _⟩ := own_shape hr.rwaits
      have c1 : w.cell? ⟨M, 1, none⟩ = some (.slice A d.waits.length c) := hr.blk.cell 1
      have HR := Lib.hid hr
      have Hcv := Lib.hid (fun l => conv_str l w)
      clear hr
      have ha0 : (0 : Int) ≤ (k : Int) := by omega
      have ha1 : (k : Int) < (d.safe.length : Int) := by omega
      generalize hn : d.waits.length = n at *
      have Hn := Lib.hid hn
      generalize hs : d.safe.length = s at *
      have Hs := Lib.hid hs
      unfold strV at sc
      clear hn hs ho
      go_enter Tryz.func157, Tryz.ntmps157
      go_wp2
      go_loopg [6, 7] n (fun gk x i wr => ∃ j : Nat, i = .int .i64 j ∧ j + gk = n ∧ x = .string ⟨(seen d.safe (d.waits.take j) k).toArray⟩ ∧ w = wr)
      case atStart => exact ⟨0, rfl, by omega, rfl, rfl⟩
      case round =>
        obtain ⟨j, rfl, hgk, rfl, rfl⟩ := hrel
        clear sc
        by_cases hj : j < n
        · have hjl : j < d.waits.length := by rw [Hn.out]; exact hj
          obtain ⟨mw, rfl⟩ : ∃ mw, A = some ⟨mw, 0, none⟩ := by
            rcases HR.out.rwaits.2 with ⟨h', h0⟩ | ⟨mw, cap, cur, hv, _⟩
            · omega
            · injection hv with e1; exact ⟨mw, e1⟩
          have hse := seen_take d.safe d.waits k j hjl
          obtain ⟨wc0, wc1⟩ := HR.out.waitAt j hjl
          generalize d.waits[j] = x at *
          obtain ⟨at_, what⟩ := x
          simp only at hse wc0 wc1
          generalize seen d.safe (d.waits.take j) k = old at *
          unfold strV at wc1
          by_cases e : at_ = k
          · rw [if_pos e] at hse
            subst e
            have Hse := Lib.hid hse
            clear hjl hse
            go_wp2
            go_roundg (gk - 1)
            case measure => omega
            case rel => exact ⟨j + 1, by go_num, by omega, by rw [Hse.out], rfl⟩
          · rw [if_neg e] at hse
            have Hse := Lib.hid hse
            have hne : ((at_ : Int) == (k : Int)) = false := by simp; omega
            clear hjl e hse
            go_wp2
            go_roundg (gk - 1)
            case measure => omega
            case rel => exact ⟨j + 1, by go_num, by omega, by rw [Hse.out], rfl⟩
        · obtain rfl : j = n := by omega
          have hall : d.waits.take j = d.waits := List.take_of_length_le (by rw [Hn.out]; exact Nat.le_refl _)
          rw [hall]
          generalize seen d.safe d.waits k = l at *
          obtain ⟨c', W', hcv, hrd, hbe, hle⟩ := Hcv.out l
          have Hrd := Lib.hid hrd
          have Hbe := Lib.hid hbe
          have Hle := Lib.hid hle
          clear hrd hbe hle hall
          go_wp2
          go_ret2
          exact (⟨_, c', rfl, Hrd.out, Hle.out, Hbe.out⟩ : Tells l 0 w _ W')
end Go.Proofs.YtfepjgafamaegaaGreat

/- The document's Disk: Crash. -/
namespace Go.Proofs.YtfepjgafamaegaaGreat
open Go.RowKit

theorem RdI.kpB {w w' : World} {B n : Nat} {A : Option Addr} {l : List Int} {F : Nat → Prop} (h : RdI w B A n l) (hk : Kp F w w') (hF : 0 < n → ∀ ad, A = some ad → ¬ F ad.block) : RdI w' B A n l :=
  ⟨h.1, h.2.1, fun hn => by
    obtain ⟨b, o, e, hb, hc⟩ := h.2.2 hn
    exact ⟨b, o, e, hb, fun j hj => cell_kp (hc j hj) hk (hF hn ⟨b, o, none⟩ e)⟩⟩
theorem str_take (l : List UInt8) (q : Nat) : (⟨l.toArray⟩ : ByteArray).extract 0 q = ⟨(l.take q).toArray⟩ := by
  rw [ByteArray.extract_mk]
  simp
theorem str_drop (l : List UInt8) (q n : Nat) (hn : l.length ≤ n) : (⟨l.toArray⟩ : ByteArray).extract q n = ⟨(l.drop q).toArray⟩ := by
  rw [ByteArray.extract_mk]
  congr 1
  apply Array.toList_inj.1
  simp
  rw [List.take_of_length_le (by simp; omega)]
theorem str_app (a b : List UInt8) : (⟨a.toArray⟩ : ByteArray) ++ (⟨b.toArray⟩ : ByteArray) = ⟨(a ++ b).toArray⟩ := by
  apply ByteArray.ext
  simp
theorem crashS_stop (s : List (List UInt8)) (ws : List (Nat × List UInt8)) : ∀ (ks : List Int) (j : Nat), ks.length ≤ j → crashS s ws ks = crashS s (ws.take j) ks := by
  induction ws generalizing s with
  | nil => intro ks j _; simp
  | cons w ws ih =>
    intro ks j hj
    cases ks with
    | nil => cases j <;> rfl
    | cons k ks =>
      cases j with
      | zero => simp at hj
      | succ j => exact ih _ ks j (by simpa using hj)

set_option maxRecDepth 100000 in
set_option maxHeartbeats 4000000 in
theorem rcrash_any (M : Nat) (d : Dk) (F : Nat → Prop) (A : Option Addr) (n c : Nat) (ks : List Int) (w : World) (hn : n ≤ 9223372036854775807) (_hwl : d.waits.length ≤ 1000000000)
    (hks : RdI w w.heap.size A n ks) (hap : 0 < n → ∀ ad, A = some ad → ¬ F ad.block) (h : RD w F M d) :
    Calls Tryz.prog 38 #[.pointer (some ⟨M, 0, none⟩), .slice A n c] w fun e w' => e = .returned (.tuple #[]) ∧ ∃ F', RD w' F' M (d.crash ks) ∧ Mv F F' w w' := by
  have hlen := h.len
  obtain ⟨sv, wv, hr, _⟩ := h
  obtain ⟨ms, cs, rfl⟩ := own_someR hr.rsafe (by omega)
  obtain ⟨Aw, cw, rfl, _⟩ := own_shape hr.rwaits
  have HR := Lib.hid hr
  have Hks := Lib.hid hks
  have Hap := Lib.hid hap
  clear hr hks hap
  generalize hm : d.waits.length = m at *
  have Hm := Lib.hid hm
  generalize hs : d.safe.length = s at *
  have Hs := Lib.hid hs
  clear hm hs
  go_enter Tryz.func38, Tryz.ntmps38
  go_wp2
  go_loopg [4] m (fun k i wr => ∃ j : Nat, i = .int .i64 j ∧ j + k = m ∧ Hid (DR wr F M (.slice (some ⟨ms, 0, none⟩) s cs) (.slice Aw m cw) (crashS d.safe (d.waits.take j) ks) d.waits d.left d.down ∧ Kp F w wr))
  case atStart => exact ⟨0, rfl, by omega, ⟨by simpa [crashS_nil] using HR.out, Kp.refl F w⟩⟩
  case round =>
    clear HR
    obtain ⟨j, rfl, hk, HR⟩ := hrel
    have hr := HR.out.1
    have hkw := HR.out.2
    have c0 : wr.cell? ⟨M, 0, none⟩ = some (.slice (some ⟨ms, 0, none⟩) s cs) := hr.blk.cell 0
    have c1 : wr.cell? ⟨M, 1, none⟩ = some (.slice Aw m cw) := hr.blk.cell 1
    have hsl : (crashS d.safe (d.waits.take j) ks).length = s := by rw [crashS_len]; exact Hs.out
    have hksl : ks.length = n := Hks.out.1
    by_cases hj : j < m ∧ j < n
    · obtain ⟨hj1, hj2⟩ := hj
      have hjl : j < d.waits.length := by rw [Hm.out]; exact hj1
      obtain ⟨mw, rfl⟩ : ∃ mw, Aw = some ⟨mw, 0, none⟩ := by
        rcases hr.rwaits.2 with ⟨h', h0⟩ | ⟨mw, cap, cur, hv, _⟩
        · omega
        · injection hv with e1; exact ⟨mw, e1⟩
      obtain ⟨kb, ko, rfl, hkB, hkc⟩ := (Hks.out.kpB hkw Hap.out).2.2 (by omega)
      have hlt_kb : kb < wr.heap.size := Nat.lt_of_lt_of_le hkB hkw.size
      have kcell := hkc j (by omega)
      have hkb := (Hks.out.2.1) _ (List.getElem_mem (show j < ks.length by omega))
      have hsy := crashS_take d.waits d.safe ks j hjl
      have hkept : keptOf ks j = clip (ks[j]'(by omega)) := by
        unfold keptOf
        rw [if_pos (by omega)]
        simp [List.getD, show j < ks.length by omega]
      rw [hkept] at hsy
      clear hkc hkept
      generalize ks[j]'(by omega) = kk at *
      obtain ⟨wc0, wc1⟩ := hr.waitAt j hjl
      have hrow := hr.wrow _ (List.getElem_mem hjl)
      generalize d.waits[j] = x at *
      obtain ⟨at_, what⟩ := x
      simp only at hrow hsy wc0 wc1
      have sc := hr.safeAt at_ hrow.1
      have hold := rows_getD hr.srow hrow.1
      have hr' : DR wr F M (.slice (some ⟨ms, 0, none⟩) (crashS d.safe (d.waits.take j) ks).length cs) (.slice (some ⟨mw, 0, none⟩) m cw) (crashS d.safe (d.waits.take j) ks) d.waits d.left d.down := by rw [hsl]; exact hr
      have fs := hr'.rsafe.frozenAt at_
      have ha0 : (0 : Int) ≤ (at_ : Int) := by omega
      have ha1 : (at_ : Int) < (s : Int) := by have := hrow.1; rw [hsl] at this; omega
      have hlt_ms : ms < wr.heap.size := hr.lt ms (hr.foot.2.1 ms rfl)
      have hlt_M : M < wr.heap.size := hr.lt M hr.foot.1
      have HR3 : Hid (∀ o, DR ((wr.alloc o).drew.setCell ⟨ms, at_, none⟩ (strV (lay (clip kk) what ((crashS d.safe (d.waits.take j) ks).getD at_ [])))) F M (.slice (some ⟨ms, 0, none⟩) s cs) (.slice (some ⟨mw, 0, none⟩) m cw) (crashS d.safe (d.waits.take (j + 1)) ks) d.waits d.left d.down ∧ Kp F w ((wr.alloc o).drew.setCell ⟨ms, at_, none⟩ (strV (lay (clip kk) what ((crashS d.safe (d.waits.take j) ks).getD at_ []))))) := fun o => by
        refine ⟨?_, hkw.trans ((Kp.alloc F wr o).trans ((Kp.drew F _).trans (Kp.set_ (p := ⟨ms, at_, none⟩) (hr.foot.2.1 ms rfl) _)))⟩
        have h1 := (((hr'.alloc o).drewN 1).setSafe at_ _ (lay_len (clip kk) what _ hrow.2 hold (clip_le kk)))
        rw [← hsy, hsl] at h1
        exact h1
      have hw32 : (⟨what.toArray⟩ : ByteArray).size = 32 := by simp [ByteArray.size, hrow.2]
      have ho32 : (⟨((crashS d.safe (d.waits.take j) ks).getD at_ []).toArray⟩ : ByteArray).size = 32 := by
        show Array.size _ = 32
        rw [List.size_toArray]
        exact hold
      generalize (crashS d.safe (d.waits.take j) ks).getD at_ [] = old at *
      have Hrow := Lib.hid hrow
      have Hold := Lib.hid hold
      unfold strV at wc1 sc HR3
      have xs := fun q => str_take what q
      have xd := fun q => str_drop old q 32 (by rw [hold]; exact Nat.le_refl _)
      have xa := str_app
      clear hsl hr hr' hkw HR hsy hjl hrow hold hksl
      have hW : ∀ o, (wr.alloc o).cell? ⟨M, 0, none⟩ = some (.slice (some ⟨ms, 0, none⟩) s cs) ∧ (wr.alloc o).cell? ⟨ms, at_, none⟩ = some (.string ⟨old.toArray⟩) ∧ (wr.alloc o).frozen? ⟨ms, at_, none⟩ = false := fun o =>
        ⟨(World.cell?_alloc_lt wr o _ hlt_M).trans c0, (World.cell?_alloc_lt wr o _ hlt_ms).trans sc, by rw [World.frozen?_alloc_past _ _ _ hlt_ms]; exact fs⟩
      have hN : (wr.alloc (.cells #[.int .i64 (at_ : Int), .string ⟨what.toArray⟩] 133)).cell? ⟨wr.heap.size, 0, none⟩ = some (.int .i64 (at_ : Int)) ∧ (wr.alloc (.cells #[.int .i64 (at_ : Int), .string ⟨what.toArray⟩] 133)).cell? ⟨wr.heap.size, 1, none⟩ = some (.string ⟨what.toArray⟩) :=
        ⟨(Bk.new wr 133 #[.int .i64 (at_ : Int), .string ⟨what.toArray⟩]).cell 0, (Bk.new wr 133 #[.int .i64 (at_ : Int), .string ⟨what.toArray⟩]).cell 1⟩
      have HW := Lib.hid (hW (.cells #[.int .i64 (at_ : Int), .string ⟨what.toArray⟩] 133))
      have HN := Lib.hid hN
      have HR4 := Lib.hid (HR3.out (.cells #[.int .i64 (at_ : Int), .string ⟨what.toArray⟩] 133))
      clear hW hN HR3
      have hclip : (kk < 0 ∧ clip kk = 0) ∨ (32 < kk ∧ clip kk = 32) ∨ (∃ q : Nat, kk = (q : Int) ∧ q ≤ 32 ∧ clip kk = q) := by
        unfold clip
        by_cases h0 : kk < 0
        · exact .inl ⟨h0, by omega⟩
        · by_cases h1 : 32 < kk
          · exact .inr (.inl ⟨h1, by omega⟩)
          · exact .inr (.inr ⟨kk.toNat, by omega, by omega, by omega⟩)
      rcases hclip with ⟨hk0, hcl⟩ | ⟨hk1, hcl⟩ | ⟨q, rfl, hq, hcl⟩
      · rw [hcl] at HR4
        clear hcl
        go_wp2
        obtain ⟨e0, e1, e2⟩ := HW.out
        obtain ⟨e3, e4⟩ := HN.out
        generalize wr.alloc (.cells #[.int .i64 (at_ : Int), .string ⟨what.toArray⟩] 133) = W at *
        generalize wr.heap.size = N at *
        have y1 := xs 0
        have y2 := xd 0
        rw [lay_zero] at HR4
        clear xs xd xa wc0 wc1 c0 c1 sc fs HW HN
        go_still_tail 22, (by kernel_rfl)
        change wpList _ _ _ _ _ W.drew
        have e1' : W.drew.cell? ⟨ms, at_, none⟩ = some (.string ⟨old.toArray⟩) := e1
        have e2' : W.drew.frozen? ⟨ms, at_, none⟩ = false := e2
        clear e0 e1 e2 e3 e4
        generalize W.drew = W2 at *
        go_wp2
        go_roundg (gk - 1)
        case measure => omega
        case rel => exact ⟨j + 1, by go_num, by omega, HR4.out⟩
      · have hn0 : ¬ (kk < 0) := by omega
        rw [hcl] at HR4
        clear hcl
        go_wp2
        obtain ⟨e0, e1, e2⟩ := HW.out
        obtain ⟨e3, e4⟩ := HN.out
        generalize wr.alloc (.cells #[.int .i64 (at_ : Int), .string ⟨what.toArray⟩] 133) = W at *
        generalize wr.heap.size = N at *
        have y1 := xs 32
        have y2 := xd 32
        have y3 := xa (what.take 32) (old.drop 32)
        have hmx : ¬ (9223372036854775807 < min 32 what.length) := by have := Hrow.out.2; omega
        have hly : lay 32 what old = what.take 32 := by unfold lay; rw [List.drop_eq_nil_of_le (by have := Hold.out; omega), List.append_nil]
        rw [hly] at HR4
        clear hly
        clear xs xd xa wc0 wc1 c0 c1 sc fs HW HN
        go_still_tail 22, (by kernel_rfl)
        change wpList _ _ _ _ _ W.drew
        have e1' : W.drew.cell? ⟨ms, at_, none⟩ = some (.string ⟨old.toArray⟩) := e1
        have e2' : W.drew.frozen? ⟨ms, at_, none⟩ = false := e2
        clear e0 e1 e2 e3 e4
        generalize W.drew = W2 at *
        go_wp2
        go_roundg (gk - 1)
        case measure => omega
        case rel => exact ⟨j + 1, by go_num, by omega, HR4.out⟩
      · have hn0 : ¬ ((q : Int) < 0) := by omega
        have hn1 : ¬ (32 < (q : Int)) := by omega
        have hq1 : (q : Int) ≤ 32 := by omega
        have hq0 : (0 : Int) ≤ (q : Int) := by omega
        rw [hcl] at HR4
        clear hcl
        go_wp2
        obtain ⟨e0, e1, e2⟩ := HW.out
        obtain ⟨e3, e4⟩ := HN.out
        generalize wr.alloc (.cells #[.int .i64 (at_ : Int), .string ⟨what.toArray⟩] 133) = W at *
        generalize wr.heap.size = N at *
        have y1 := xs q
        have y2 := xd q
        have y3 := xa (what.take q) (old.drop q)
        have hmx : ¬ (9223372036854775807 < min q what.length + (old.length - q)) := by have := Hrow.out.2; have := Hold.out; omega
        unfold lay at HR4
        clear xs xd xa wc0 wc1 c0 c1 sc fs HW HN
        go_still_tail 22, (by kernel_rfl)
        change wpList _ _ _ _ _ W.drew
        have e1' : W.drew.cell? ⟨ms, at_, none⟩ = some (.string ⟨old.toArray⟩) := e1
        have e2' : W.drew.frozen? ⟨ms, at_, none⟩ = false := e2
        clear e0 e1 e2 e3 e4
        generalize W.drew = W2 at *
        go_wp2
        go_roundg (gk - 1)
        case measure => omega
        case rel => exact ⟨j + 1, by go_num, by omega, HR4.out⟩
    · have hstop : crashS d.safe (d.waits.take j) ks = crashS d.safe d.waits ks := by
        by_cases h1 : m ≤ j
        · rw [List.take_of_length_le (by rw [Hm.out]; exact h1)]
        · exact (crashS_stop d.safe d.waits ks j (by omega)).symm
      rw [hstop] at hr
      obtain ⟨hpr, hmv⟩ := hr.setWaits (wv' := .slice none 0 0) (ws' := []) (Kp.refl _ wr) (World.ownsRow_nil _ _ _ _) (.inr (by intro k hk; simp [Value.ownBlock] at hk)) (by intro x hx; cases hx)
      have f1 := hr.blk.frozen 1
      have k2 := hpr.blk.cell 2
      have k3 := hpr.blk.cell 3
      have f2 := hpr.blk.frozen 2
      have f3 := hpr.blk.frozen 3
      have HF : Hid (∃ F', RD (((wr.setCell ⟨M, 1, none⟩ (.slice none 0 0)).setCell ⟨M, 2, none⟩ (.int .i64 (-1))).setCell ⟨M, 3, none⟩ (.bool false)) F' M (d.crash ks) ∧ Mv F F' w (((wr.setCell ⟨M, 1, none⟩ (.slice none 0 0)).setCell ⟨M, 2, none⟩ (.int .i64 (-1))).setCell ⟨M, 3, none⟩ (.bool false))) := by
        refine ⟨_, ⟨_, _, (hpr.setLeft (-1)).setDown false, by simp [Dk.crash], by simp [Dk.crash], by rw [Dk.crash_len, Hs.out]; exact hlen.1, by rw [Dk.crash_len, Hs.out]; exact hlen.2⟩, ?_⟩
        refine ((Mv.of hkw).trans hmv).trans (Mv.of ?_)
        exact (Kp.set_ (p := ⟨M, 2, none⟩) hpr.foot.1 _).trans (Kp.set_ (p := ⟨M, 3, none⟩) hpr.foot.1 _)
      clear hpr hmv HR hr hkw hsl hstop hksl
      by_cases hj1 : j < m
      · have hj2 : ¬ j < n := by omega
        go_wp2
        go_end0
        exact ⟨rfl, HF.out⟩
      · clear hj
        go_wp2
        go_end0
        exact ⟨rfl, HF.out⟩
end Go.Proofs.YtfepjgafamaegaaGreat

/- The document's Disk: New, Clone. -/
namespace Go.Proofs.YtfepjgafamaegaaGreat
open Go.RowKit

set_option maxRecDepth 100000 in
set_option maxHeartbeats 1000000 in
theorem blank_any (w : World) : Calls Tryz.prog 91 #[] w fun e w' => e = .returned (strV (List.replicate 32 0)) ∧ Below w.heap.size w w' := by
  obtain ⟨i0, hi0, hz0, hz1, hz2⟩ := info_parts Tryz.infoU8R
  have hmk : ∀ W : World, (Instr.makeSlice 23 (.int .i64 32) (.int .i64 32)).run Tryz.prog W = .ok (.slice (some ⟨W.heap.size, 0, none⟩) 32 32) (W.alloc (.cells (Array.replicate 32 (.int .u8 0)) 5)) := fun W => by
    have h := run_make (P := Tryz.prog) W 23 5 i0 (.int .u8 0) Tryz.underlying23 hi0 hz0 .i64 .i64 32 32 (by omega) (by omega) (by rw [hz2]; omega) (by omega)
    rw [hz1] at h
    have e : madeCells (Value.int .u8 0).cells (Int.toNat 32 * 1) = Array.replicate 32 (.int .u8 0) := by
      apply Array.toList_inj.1
      rw [show (Value.int .u8 0).cells = #[Value.int .u8 0] from rfl, toList_madeCells_one]
      simp
    rw [e] at h
    exact h
  have hrd : Rd (w.alloc (.cells (Array.replicate 32 (.int .u8 0)) 5)) (w.heap.size + 1) (some ⟨w.heap.size, 0, none⟩) 32 (List.replicate 32 0) := by
    refine ⟨List.length_replicate, fun _ => ⟨_, 0, rfl, by omega, fun j hj => ?_⟩⟩
    have hj' : j < 32 := by simpa using hj
    rw [(Bk.new w 5 (Array.replicate 32 (.int .u8 0))).cell]
    rw [Nat.zero_add, List.getElem_replicate, Array.getElem?_replicate, if_pos hj']
    rfl
  have hcv := hrd.str (P := Tryz.prog) Tryz.underlying23 Tryz.underlying5 Tryz.underlying9 32
  clear hrd hi0 hz0 hz1 hz2
  have hb := (Below.refl w.heap.size w).alloc (Nat.le_refl _) (.cells (Array.replicate 32 (.int .u8 0)) 5)
  have Hb := Lib.hid hb
  clear hb
  generalize (List.replicate 32 (0 : UInt8)) = l at *
  go_enter Tryz.func91, Tryz.ntmps91
  go_wp2
  go_ret
  exact ⟨rfl, Hb.out⟩

theorem DR.newSafe {w w1 : World} {F : Nat → Prop} {M : Nat} {sv sv' : Value} {safe safe' : List (List UInt8)} {left : Int} {down : Bool} (h : DR w F M sv (.slice none 0 0) safe [] left down) (hk : Kp (fun k => sv.ownBlock = some k) w w1) (ho : w1.ownsRow 0 9 1 sv' safe'.length (safe'.map strV))
    (hb : sv'.ownBlock = sv.ownBlock ∨ ∀ k, sv'.ownBlock = some k → w.heap.size ≤ k) (hr : ∀ x ∈ safe', x.length = 32) :
    DR (w1.setCell ⟨M, 0, none⟩ sv') (fun k => F k ∨ sv'.ownBlock = some k) M sv' (.slice none 0 0) safe' [] left down ∧ Mv F (fun k => F k ∨ sv'.ownBlock = some k) w (w1.setCell ⟨M, 0, none⟩ sv') := by
  have hk2 : Kp (· = M) w1 (w1.setCell ⟨M, 0, none⟩ sv') := Kp.set_ (F := (· = M)) (p := ⟨M, 0, none⟩) rfl _
  have hlt := ho.lt
  have hne : ∀ k, sv'.ownBlock = some k → k ≠ M := fun k e => by
    rcases hb with hb | hb
    · rw [hb] at e; exact h.sne k e
    · have h0 := hb k e
      have h1 := h.lt M h.foot.1
      omega
  have hkk : Kp F w (w1.setCell ⟨M, 0, none⟩ sv') := (hk.mono (fun k e => h.foot.2.1 k e)).trans (hk2.mono fun k e => by rw [e]; exact h.foot.1)
  refine ⟨{ blk := ?_, rsafe := own_kp ho hk2 fun k e => hne k e, rwaits := World.ownsRow_nil _ _ _ _, srow := hr, wrow := (by intro x hx; cases hx), sne := hne, wne := (by intro k hk; simp [Value.ownBlock] at hk), foot := ⟨.inl h.foot.1, fun k e => .inr e, by intro k hk; simp [Value.ownBlock] at hk⟩, lt := ?_ }, ⟨hkk, ?_⟩⟩
  · have := (h.blk.kp hk fun e => h.sne M e rfl).set_ 0 sv'
    simpa using this
  · rintro k (hf | e)
    · exact Nat.lt_of_lt_of_le (h.lt k hf) hkk.size
    · exact Nat.lt_of_lt_of_le (hlt k e).2 hk2.size
  · rintro k (hf | e)
    · exact .inl hf
    · rcases hb with hb | hb
      · rw [hb] at e; exact .inl (h.foot.2.1 k e)
      · exact .inr (hb k e)

def MadeR (d : Dk) (w : World) (e : Ending) (w' : World) : Prop := ∃ g F, e = .returned (.tuple #[.pointer (some ⟨g, 0, none⟩), .int .i64 0]) ∧ RD w' F g d ∧ (∀ k, F k → w.heap.size ≤ k) ∧ Below w.heap.size w w'
theorem rep_snoc {α : Type} (j : Nat) (x : α) : List.replicate j x ++ [x] = List.replicate (j + 1) x := List.replicate_succ'.symm
set_option maxRecDepth 100000 in
set_option maxHeartbeats 4000000 in
theorem rnew_any (n : Nat) (w : World) (h1 : 1 ≤ n) (h2 : n ≤ 2048) :
    Calls Tryz.prog 58 #[.int .i64 n] w (MadeR (Dk.new n) w) := by
  obtain ⟨i0, hi0, hz0, hz1, hz2⟩ := info_parts Tryz.infoStr
  obtain ⟨z, hz⟩ : ∃ z, strV (List.replicate 32 0) = .string z := ⟨_, rfl⟩
  have HBl : Hid (∀ W, Calls Tryz.prog 91 #[] W fun e w' => e = .returned (.string z) ∧ Below W.heap.size W w') := fun W => by rw [← hz]; exact blank_any W
  have Hz := Lib.hid hz
  clear hz
  have Hi0 := Lib.hid hi0
  have Hz0 := Lib.hid hz0
  have Hz1 := Lib.hid hz1
  have Hz2 := Lib.hid hz2
  have HD0 : Hid (DR (w.alloc (.cells #[.slice none 0 0, .slice none 0 0, .int .i64 (-1), .bool false] 117)) (fun k => k = w.heap.size) w.heap.size (.slice none 0 0) (.slice none 0 0) [] [] (-1) false) :=
    { blk := Bk.new w _ _, rsafe := World.ownsRow_nil _ _ _ _, rwaits := World.ownsRow_nil _ _ _ _, srow := (by intro x hx; cases hx), wrow := (by intro x hx; cases hx), sne := (by intro k hk; simp [Value.ownBlock] at hk), wne := (by intro k hk; simp [Value.ownBlock] at hk), foot := ⟨rfl, by intro k hk; simp [Value.ownBlock] at hk, by intro k hk; simp [Value.ownBlock] at hk⟩, lt := by rintro k rfl; simp }
  have HB0 := Lib.hid ((Below.refl w.heap.size w).alloc (Nat.le_refl _) (.cells #[.slice none 0 0, .slice none 0 0, .int .i64 (-1), .bool false] 117))
  clear hi0 hz0 hz1 hz2
  go_enter Tryz.func58, Tryz.ntmps58
  go_wp2
  generalize w.alloc (.cells #[.slice none 0 0, .slice none 0 0, .int .i64 (-1), .bool false] 117) = W0 at *
  generalize hM : w.heap.size = M at *
  have HM := Lib.hid hM
  clear hM
  go_loopg [5] n (fun k i wr => ∃ (j : Nat), i = .int .i64 j ∧ j + k = n ∧ Hid (∃ F sv, DR wr F M sv (.slice none 0 0) (List.replicate j (List.replicate 32 0)) [] (-1) false ∧ (∀ k, F k → M ≤ k) ∧ Below M w wr ∧ M < wr.heap.size))
  case atStart => exact ⟨0, rfl, by omega, ⟨_, _, HD0.out, by rintro k rfl; exact Nat.le_refl _, HB0.out, HD0.out.lt _ rfl⟩⟩
  case round =>
    clear HD0 HB0
    obtain ⟨j, rfl, hk, HR⟩ := hrel
    obtain ⟨F, sv, hr, hge, hbel, hlt⟩ := HR.out
    by_cases hj : j < n
    · have hlen : (List.replicate j (List.replicate 32 (0 : UInt8))).length = j := List.length_replicate
      have c0 : wr.cell? ⟨M, 0, none⟩ = some sv := hr.blk.cell 0
      have f0 := hr.blk.frozen 0
      have HR1 := Lib.hid hr
      have Hge := Lib.hid hge
      have Hbel := Lib.hid hbel
      clear hr hge hbel HR hlt
      go_wp2
      have hbd : Hid (∀ w2, Below wr.heap.size wr.drew w2 → DR w2 F M sv (.slice none 0 0) (List.replicate j (List.replicate 32 0)) [] (-1) false ∧ Below M w w2 ∧ wr.heap.size ≤ w2.heap.size) := fun w2 hb =>
        ⟨(HR1.out.drewN 1).below hb, Hbel.out.trans ((bel_drewN (Below.refl _ _) 1).trans (hb.mono (Nat.le_of_lt (HR1.out.lt M HR1.out.foot.1)))), hb.size⟩
      go_region_law (first | ((refine step_append_app _ rfl _ _ 114 (by rfl) 0 9 i0 (.string ByteArray.empty) 1 16 Tryz.underlying114 Hi0.out Hz0.out Hz1.out Hz2.out rfl sv j _ (by rfl) (Hown.out (.cells #[.string z] 9)) (some ⟨w2.heap.size, 0, none⟩) 1 1 [.string z] (by rfl) rfl (by intro e; cases e) (one_new _ _ _ rfl) (by intro u hu; simp at hu; subst hu; rfl) (by unfold maxLen; omega) (by omega) (by simp) ?_); intro v' w3 happ; (have hk3 : Kp (fun k => sv.ownBlock = some k) _ w3 := Kp.of_row happ.grow (fun g e => e)); (have kb := (Hd2.out.alloc (.cells #[.string z] 9)).blk.kp hk3 (fun e => Hd2.out.sne M e rfl)); (have k2 := kb.cell 0); (have kf := kb.frozen 0); (obtain ⟨Av, cv, rfl, _⟩ := own_shape happ.own)) | (go_simp; go_at_call 91; (refine (HBl.out _).mono ?_; rintro e w2 ⟨rfl, hbl⟩; (have hx := hbd.out w2 hbl); (have Hd2 := Lib.hid hx.1); (have Hb2 := Lib.hid hx.2); (have Hown : Hid (∀ o, (w2.alloc o).ownsRow 0 9 1 sv j ((List.replicate j (List.replicate 32 (0 : UInt8))).map strV)) := fun o => by have := (Hd2.out.alloc o).rsafe; rwa [hlen] at this); (have c0b : w2.cell? ⟨M, 0, none⟩ = some sv := Hd2.out.blk.cell 0); (have c0c : ∀ o, (w2.alloc o).cell? ⟨M, 0, none⟩ = some sv := fun o => (Hd2.out.alloc o).blk.cell 0); clear hx hbl)))
      all_goals
        have hrl : (List.replicate j (List.replicate 32 (0 : UInt8)) ++ [List.replicate 32 0]) = List.replicate (j + 1) (List.replicate 32 0) := (rep_snoc j _)
        have ho : w3.ownsRow 0 9 1 (.slice Av (j + 1) cv) (List.replicate (j + 1) (List.replicate 32 (0 : UInt8))).length ((List.replicate (j + 1) (List.replicate 32 (0 : UInt8))).map strV) := by
          rw [← hrl, List.map_append, List.map_singleton, Hz.out, List.length_append, hlen]
          exact happ.own
        obtain ⟨hpr, hmv⟩ := (Hd2.out.alloc (.cells #[.string z] 9)).newSafe hk3 ho (by
          rcases happ.block with h | h
          · exact .inl h
          · exact .inr fun k e => by rw [h] at e; injection e with e; rw [← e]; exact Nat.le_refl _) (fun x hx => by rw [List.eq_of_mem_replicate hx, List.length_replicate])
        have hMlt := Hd2.out.lt M Hd2.out.foot.1
        have hb2 := Hb2.out
        have HF : Hid (∃ F sv, DR (w3.setCell ⟨M, 0, none⟩ (.slice Av (j + 1) cv)) F M sv (.slice none 0 0) (List.replicate (j + 1) (List.replicate 32 0)) [] (-1) false ∧ (∀ k, F k → M ≤ k) ∧ Below M w (w3.setCell ⟨M, 0, none⟩ (.slice Av (j + 1) cv)) ∧ M < (w3.setCell ⟨M, 0, none⟩ (.slice Av (j + 1) cv)).heap.size) := by
          refine ⟨_, _, hpr, hmv.ge (by simp; omega) Hge.out, (hb2.1.alloc (Nat.le_of_lt hMlt) _).trans (hmv.kp.below Hge.out (by simp; omega)), hpr.lt M hpr.foot.1⟩
        clear happ hk3 kb k2 kf ho hpr hmv c0b c0c c0 f0 hrl hb2 hMlt Hb2 Hd2 Hown hbd HR1
        go_wp2
        go_roundg (gk - 1)
        case measure => omega
        case rel => exact ⟨j + 1, by go_num, by omega, HF.out⟩
    · obtain rfl : j = n := by omega
      have HF : Hid (RD wr F M (Dk.new j) ∧ (∀ k, F k → M ≤ k) ∧ Below M w wr) := by
        refine ⟨⟨sv, .slice none 0 0, hr, by simp [Dk.new], by simp [Dk.new], by simp [Dk.new]; exact h1, by simp [Dk.new]; exact h2⟩, hge, hbel⟩
      have hz : w.heap.size = M := HM.out
      clear hr hge hbel HR hlt
      subst hz
      go_wp2
      go_ret2
      exact (⟨_, F, rfl, HF.out⟩ : MadeR _ w _ wr)
set_option maxRecDepth 100000 in
theorem rnew_bad (n : Int) (w : World) (h : n < 1 ∨ 2048 < n) :
    Calls Tryz.prog 58 #[.int .i64 n] w fun e w' => e = .returned (.tuple #[.pointer none, .int .i64 2]) ∧ w = w' := by
  by_cases h1 : n < 1
  · go_enter Tryz.func58, Tryz.ntmps58
    go_wp2
    go_ret2
    exact ⟨rfl, rfl⟩
  · have h2 : 2048 < n := by omega
    clear h
    go_enter Tryz.func58, Tryz.ntmps58
    go_wp2
    go_ret2
    exact ⟨rfl, rfl⟩

end Go.Proofs.YtfepjgafamaegaaGreat
