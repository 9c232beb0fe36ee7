/- Of the proofs of layer 4, merged: PDisk5, PDisk6, PDisk7, PDisk8. -/
import Derived.Test.YtfepjgafamaegaaGreatM1PDisk4
import Derived.Deep.LoopGhost
import Derived.StillTailTactics
import Derived.Test.YtfepjgafamaegaaGreatMWords
import Derived.BigRegion

/- The program's Disk: Sync. -/
namespace Go.Proofs.YtfepjgafamaegaaGreat
open Go.RowKit

/-- A write by value: read out of its row, laid into a variable: by a law each. -/
def ldWrite (p : Value) : Sem Value := Instr.loadAt 130 p
theorem ldWrite_eq (p : Value) : Instr.loadAt 130 p = ldWrite p := rfl
theorem run_ldWrite (w : World) (g o : Nat) (C : List Value) (hc : w.rangeAt g o C) (hl : C.length = 33) : (ldWrite (.pointer (some ⟨g, o, none⟩))).run Tryz.prog w = .ok (.agg C.toArray) w :=
  run_loadAt_mid w g o 130 C _ hc Tryz.underlying130 rfl (by rw [Tryz.sizeWrite, hl])
def stWrite (p x : Value) : Sem Unit := Instr.storeAt 130 p x
theorem stWrite_eq (p x : Value) : Instr.storeAt 130 p x = stWrite p x := rfl
theorem setCells_whole (w : World) (zs : Array Value) (t : TypeId) (C : List Value) (hz : zs.size = C.length) : (w.alloc (.cells zs t)).setCells w.heap.size 0 C = w.alloc (.cells C.toArray t) := by
  have h := heap_sets w.heap.size t C 0 (w.alloc (.cells zs t)) zs.toList (by simpa using heap_alloc_new w _) (by simp [hz])
  have e : (over zs.toList 0 C).toArray = C.toArray := by
    unfold over
    rw [List.take_zero, List.nil_append, List.drop_eq_nil_of_le (by simp [hz]), List.append_nil]
  rw [e] at h
  have hk := Kp.sets (F := fun k => k = w.heap.size) rfl C 0 (w.alloc (.cells zs t))
  have hsz : ∀ (vs : List Value) (o : Nat) (W : World), (W.setCells w.heap.size o vs).heap.size = W.heap.size := by
    intro vs
    induction vs with
    | nil => intro o W; rfl
    | cons v r ih => intro o W; rw [World.setCells, ih]; simp [World.setCell]
  have hdr : ∀ (vs : List Value) (o : Nat) (W : World), (W.setCells w.heap.size o vs).drawn = W.drawn := by
    intro vs
    induction vs with
    | nil => intro o W; rfl
    | cons v r ih => intro o W; rw [World.setCells, ih]; rfl
  have hheap : ((w.alloc (.cells zs t)).setCells w.heap.size 0 C).heap = (w.alloc (.cells C.toArray t)).heap := by
    apply Array.ext_getElem?
    intro k
    by_cases hk1 : k = w.heap.size
    · subst hk1
      rw [h]
      exact (heap_alloc_new w _).symm
    · by_cases hk2 : k < w.heap.size
      · rw [hk.block k (by simp; omega) hk1, Below.heap_alloc _ _ _ hk2, Below.heap_alloc _ _ _ hk2]
      · rw [Array.getElem?_eq_none (by rw [hsz]; simp; omega), Array.getElem?_eq_none (by simp; omega)]
  have h1 := hk.os
  have h2 := hk.tape
  have h3 := hk.output
  have h4 := hdr C 0 (w.alloc (.cells zs t))
  generalize (w.alloc (.cells zs t)).setCells w.heap.size 0 C = X at *
  cases X
  simp only at hheap h1 h2 h3 h4
  subst hheap h1 h2 h3 h4
  rfl
theorem run_stWrite (w : World) (zs : Array Value) (t : TypeId) (C : List Value) (hz : zs.size = 33) (hl : C.length = 33) (h1 : ∀ u ∈ C, u.oneCell' = true) :
    (stWrite (.pointer (some ⟨w.heap.size, 0, none⟩)) (.agg C.toArray)).run Tryz.prog (w.alloc (.cells zs t)) = .ok () (w.alloc (.cells C.toArray t)) := by
  have hb : Bk (w.alloc (.cells zs t)) w.heap.size t zs := Bk.new w t zs
  have h := run_storeAt_mid (P := Tryz.prog) (w.alloc (.cells zs t)) w.heap.size 0 130 C.toArray (bk_there hb 0 _ (by simp [hz, hl])) (by rw [Tryz.sizeWrite]; simp [hl]) (all_oneCell_toArray h1)
  rw [List.toList_toArray] at h
  rw [setCells_whole w zs t C (by rw [hz, hl])] at h
  exact h
attribute [local go_sem ↓] ldWrite_eq stWrite_eq

theorem wr1_one (x : Nat × List UInt8) : ∀ u ∈ wr1 x, u.oneCell' = true := by
  intro u hu
  unfold wr1 at hu
  rcases List.mem_cons.1 hu with rfl | hu
  · rfl
  · exact u8s_one _ u hu

theorem PR.laySafe32 {w : World} {F : Nat → Prop} {g gn cn gs cs : Nat} {wv : Value} {now safe : List (List UInt8)} {ws : List (Nat × List UInt8)} {up : Bool} {pl : Int} (h : PR w F g gn cn gs cs wv now safe ws up pl) (a : Nat) (b : List UInt8) (hb : b.length = 32) (ha : a < safe.length) :
    PR (w.setCells gs (a * 32) (u8s b)) F g gn cn gs cs wv now (safe.set a b) ws up pl := by
  have := h.laySafe a 32 b hb (Nat.le_refl _) ha
  have e1 : b.take 32 = b := List.take_of_length_le (by omega)
  have e2 : lay 32 b (safe.getD a []) = b := by unfold lay; rw [e1, List.drop_eq_nil_of_le (by rw [rows_getD h.srow ha]; exact Nat.le_refl _), List.append_nil]
  rwa [e1, e2] at this
theorem syncS_take (s : List (List UInt8)) (ws : List (Nat × List UInt8)) (j : Nat) (hj : j < ws.length) : syncS s (ws.take (j + 1)) = (syncS s (ws.take j)).set ws[j].1 ws[j].2 := by
  unfold syncS
  rw [List.take_succ_eq_append_getElem hj, List.foldl_append]
  rfl

set_option maxRecDepth 100000 in
set_option maxHeartbeats 4000000 in
theorem sync_go (g : Nat) (d : Dk) (F : Nat → Prop) (w : World) (hd : d.down = false) (hact : d.act.1 = true) (hwl : d.waits.length ≤ 1000000000) (h : PD w F g d) :
    Calls Tryz.prog 104 #[.pointer (some ⟨g, 0, none⟩)] w fun e w' => e = .returned (.int .i64 0) ∧ ∃ F', PD w' F' g { d.act.2 with safe := syncS d.safe d.waits, waits := [] } ∧ Mv F F' w w' := by
  have Ha := Lib.hid (act_meth g d F w hd h)
  rw [hact] at Ha
  have hlen := h.len
  have c3 : w.cell? ⟨g, 3, none⟩ = some (.bool true) := by
    obtain ⟨gn, cn, gs, cs, wv, pl, hr, hrest⟩ := h
    have := hr.blk.cell 3
    simpa [hd] using this
  obtain ⟨e1, e2⟩ := d.act_same
  rw [← e2] at hwl
  rw [← e1] at hlen
  rw [← e1, ← e2]
  generalize d.act.2 = d1 at *
  clear h e1 e2 hd hact
  go_enter Tryz.func104, Tryz.ntmps104
  go_wp2_with fail
  refine Ha.out.mono ?_
  rintro e w1 ⟨rfl, hpd, hkp⟩
  obtain ⟨gn, cn, gs, cs, wv, pl, hr, hrest⟩ := hpd
  have c2 : w1.cell? ⟨g, 2, none⟩ = some wv := hr.blk.cell 2
  obtain ⟨A, c, rfl, hlc, hcm⟩ := own_shape hr.rwaits
  have HR := Lib.hid hr
  have Hrest := Lib.hid hrest
  have Hkp := Lib.hid hkp
  clear hr hrest hkp Ha c3 hcm
  generalize hn : d1.waits.length = n at *
  have Hn := Lib.hid hn
  clear hn
  go_wp2
  go_loopg [24] n (fun k i wr => ∃ j : Nat, i = .int .i64 j ∧ j + k = n ∧ Hid (PR wr F g gn cn gs cs (.slice A n c) (syncS d1.safe d1.waits) (syncS d1.safe (d1.waits.take j)) d1.waits (!d1.down) pl ∧ Kp F w wr))
  case atStart => exact ⟨0, rfl, by omega, ⟨by simpa [syncS] using HR.out, Hkp.out⟩⟩
  case round =>
    clear HR Hkp c2
    obtain ⟨j, rfl, hk, HR⟩ := hrel
    by_cases hj : j < n
    · have hjl : j < d1.waits.length := by rw [Hn.out]; exact hj
      obtain ⟨gw, rfl⟩ : ∃ gw, A = some ⟨gw, 0, none⟩ := by
        rcases HR.out.1.rwaits.2 with ⟨h', h0⟩ | ⟨gw, cap, cur, hv, _⟩
        · omega
        · injection hv with e1; exact ⟨gw, e1⟩
      have hr := HR.out.1
      have hkw := HR.out.2
      have hsy := syncS_take d1.safe d1.waits j hjl
      have hwa := hr.waitAt j hjl
      have hrow := hr.wrow _ (List.getElem_mem hjl)
      generalize d1.waits[j] = x at *
      obtain ⟨at_, what⟩ := x
      simp only at hrow hsy
      have hld := run_ldWrite wr gw (j * 33) _ hwa (by show (Value.int .i64 (at_ : Int) :: u8s what).length = 33; rw [List.length_cons, u8s_len, hrow.2])
      have hst := fun (zs : Array Value) (hz : zs.size = 33) => run_stWrite wr zs 130 (wr1 (at_, what)) hz (by show (Value.int .i64 (at_ : Int) :: u8s what).length = 33; rw [List.length_cons, u8s_len, hrow.2]) (wr1_one _)
      have Hrow := Lib.hid hrow
      have Hsy := Lib.hid hsy
      have HR1 := Lib.hid hr
      have Hkw := Lib.hid hkw
      clear hr hkw hrow hsy hwa hjl HR
      go_wp2
      have HR2 : Hid (PR (wr.alloc (.cells (wr1 (at_, what)).toArray 130)).drew F g gn cn gs cs (.slice (some ⟨gw, 0, none⟩) n c) (syncS d1.safe d1.waits) (syncS d1.safe (d1.waits.take j)) d1.waits (!d1.down) pl) := (HR1.out.alloc _).drewN 1
      have HB2 : Hid (Bk (wr.alloc (.cells (wr1 (at_, what)).toArray 130)).drew wr.heap.size 130 (wr1 (at_, what)).toArray) := Bk.new wr 130 (wr1 (at_, what)).toArray
      have Hk2 : Hid (Kp F w (wr.alloc (.cells (wr1 (at_, what)).toArray 130)).drew) := Hkw.out.trans ((Kp.alloc F wr _).trans (Kp.drew F _))
      generalize wr.heap.size = N at *
      generalize wr.alloc (.cells (wr1 (at_, what)).toArray 130) = W at *
      have d0 : W.cell? ⟨g, 1, none⟩ = some (.slice (some ⟨gs, 0, none⟩) (syncS d1.safe (d1.waits.take j)).length cs) := HR2.out.blk.cell 1
      have d1' : W.cell? ⟨N, 0, none⟩ = some (.int .i64 (at_ : Int)) := HB2.out.cell 0
      have hsl : (syncS d1.safe (d1.waits.take j)).length = d1.safe.length := syncS_len _ _
      rw [hsl] at d0
      have ha0 : (0 : Int) ≤ (at_ : Int) := by omega
      have ha1 : (at_ : Int) < (d1.safe.length : Int) := by have := Hrow.out.1; rw [hsl] at this; omega
      have ha2 : at_ < (syncS d1.safe (d1.waits.take j)).length := Hrow.out.1
      have Ha2 := Lib.hid ha2
      have hw32 : (u8s what).length = 32 := by rw [u8s_len]; exact Hrow.out.2
      have Hw32 := Lib.hid hw32
      have hsrc : Hid (∀ k v, (u8s what)[k]? = some v → W.drew.cell? ((⟨N, 1, none⟩ : Addr).add k) = some v) := fun k v hv => by
        rw [Addr.add_mid]
        show W.cell? ⟨N, 1 + k, none⟩ = some v
        have := HB2.out.cell (1 + k)
        refine this.trans ?_
        rw [Nat.add_comm, List.getElem?_toArray]
        exact hv
      clear hsl hld hst ha2 hw32
      go_still_tail 10, (by kernel_rfl)
      change wpList _ _ _ _ _ W.drew
      generalize W.drew = W2 at *
      go_wp2_with ((refine wpList_copy_mid rfl _ _ 23 23 rfl 5 Tryz.underlying23 Tryz.sizeU8 gs (at_ * 32) 32 32 ⟨N, 1, none⟩ 32 32 rfl rfl (u8s what) Hw32.out hsrc.out (own_there HR2.out.rsafe _ _ (by rw [Hw32.out]; have := Ha2.out; omega)) (u8s_one what) ?_))
      have HR3 := Lib.hid (HR2.out.laySafe32 at_ what Hrow.out.2 Ha2.out)
      have Hk3 := Lib.hid (Hk2.out.trans (Kp.sets HR2.out.foot.2.2.1 (u8s what) (at_ * 32) W2))
      rw [← Hsy.out] at HR3
      generalize W2.setCells gs (at_ * 32) (u8s what) = W3 at *
      clear HR2 Hk2 d0 d1' hsrc HB2
      go_wp2
      go_roundg (gk - 1)
      case measure => omega
      case rel => exact ⟨j + 1, by go_num, by omega, ⟨HR3.out, Hk3.out⟩⟩
    · obtain rfl : j = n := by omega
      have hall : d1.waits.take j = d1.waits := List.take_of_length_le (by rw [Hn.out]; exact Nat.le_refl _)
      rw [hall] at HR
      have Hf := Lib.hid (forget_meth g F gn cn gs cs _ _ _ _ _ _ wr HR.out.1)
      go_wp2_with fail
      refine Hf.out.mono ?_
      rintro e w' ⟨rfl, F', wv', hpr, hmv⟩
      have HF : Hid (∃ F', PD w' F' g { d1 with safe := syncS d1.safe d1.waits, waits := [] } ∧ Mv F F' w w') := by
        refine ⟨F', ⟨gn, cn, gs, cs, wv', pl, hpr, Hrest.out.1, Hrest.out.2.1, Hrest.out.2.2.1, Hrest.out.2.2.2.1, ?_, ?_⟩, (Mv.of HR.out.2).trans hmv⟩
        · simp only [syncS_len]; exact hlen.1
        · simp only [syncS_len]; exact hlen.2
      clear hpr hmv Hf HR
      go_wp2
      go_ret
      exact ⟨rfl, HF.out⟩
set_option maxRecDepth 100000 in
theorem sync_any (g : Nat) (d : Dk) (F : Nat → Prop) (w : World) (hwl : d.waits.length ≤ 1000000000) (h : PD w F g d) :
    Calls Tryz.prog 104 #[.pointer (some ⟨g, 0, none⟩)] w fun e w' => e = .returned (.int .i64 d.sync.1) ∧ ∃ F', PD w' F' g d.sync.2 ∧ Mv F F' w w' := by
  have c3 : w.cell? ⟨g, 3, none⟩ = some (.bool (!d.down)) := by
    obtain ⟨gn, cn, gs, cs, wv, pl, hr, hrest⟩ := h
    exact hr.blk.cell 3
  unfold Dk.sync
  by_cases hd : d.down = true
  · have e1 : d.act = (false, d) := by unfold Dk.act; rw [if_pos hd]
    rw [e1, if_neg (by simp)]
    rw [hd] at c3
    have HF : Hid (∃ F', PD w F' g d ∧ Mv F F' w w) := ⟨F, h, Mv.refl F w⟩
    clear h e1 hwl
    go_enter Tryz.func104, Tryz.ntmps104
    go_wp2
    go_ret
    exact ⟨rfl, HF.out⟩
  · have hd' : d.down = false := by simpa using hd
    rw [hd'] at c3
    by_cases hact : d.act.1 = true
    · rw [if_pos hact]
      exact sync_go g d F w hd' hact hwl h
    · rw [if_neg hact]
      have Ha := Lib.hid (act_meth g d F w hd' h)
      have hact' : d.act.1 = false := by simpa using hact
      rw [hact'] at Ha
      generalize d.act.2 = d1 at *
      clear h hact hact' hwl
      go_enter Tryz.func104, Tryz.ntmps104
      go_wp2_with fail
      refine Ha.out.mono ?_
      rintro e w1 ⟨rfl, hpd, hkp⟩
      have HF : Hid (∃ F', PD w1 F' g d1 ∧ Mv F F' w w1) := ⟨F, hpd, Mv.of hkp⟩
      clear hpd hkp
      go_wp2
      go_ret
      exact ⟨rfl, HF.out⟩
set_option maxRecDepth 100000 in
theorem sync_nil (w : World) : Calls Tryz.prog 104 #[.pointer none] w fun e w' => e = .returned (.int .i64 1) ∧ w = w' := by
  go_enter Tryz.func104, Tryz.ntmps104
  go_wp2
  go_ret
  exact ⟨rfl, rfl⟩
set_option maxRecDepth 100000 in
theorem write_nil (a : Int) (A : Option Addr) (n c : Nat) (w : World) : Calls Tryz.prog 98 #[.pointer none, .int .i64 a, .slice A n c] w fun e w' => e = .returned (.int .i64 1) ∧ w = w' := by
  have Hr := Lib.hid (reach_nil a w)
  go_enter Tryz.func98, Tryz.ntmps98
  go_wp2_with fail
  refine Hr.out.mono ?_
  rintro e w' ⟨rfl, rfl⟩
  go_wp2
  go_ret
  exact ⟨rfl, rfl⟩
end Go.Proofs.YtfepjgafamaegaaGreat

/- The program's Disk: Crash. -/
namespace Go.Proofs.YtfepjgafamaegaaGreat
open Go.RowKit

theorem clip_cast (k : Int) : ((clip k : Nat) : Int) = min (max k 0) 32 := by unfold clip; omega
set_option maxRecDepth 100000 in
set_option maxHeartbeats 1000000 in
theorem kept_any (A : Option Addr) (n c i B : Nat) (ks : List Int) (w : World) (hn : n ≤ 9223372036854775807) (hi : i ≤ 9223372036854775807) (h : RdI w B A n ks) :
    Calls Tryz.prog 72 #[.slice A n c, .int .i64 i] w fun e w' => e = .returned (.int .i64 (keptOf ks i)) ∧ w = w' := by
  have hl := h.1
  unfold keptOf
  by_cases hin : i < n
  · rw [if_pos (by omega)]
    obtain ⟨b, o, rfl, _, hc⟩ := h.2.2 (by omega)
    have hb := h.2.1 _ (List.getElem_mem (show i < ks.length by omega))
    have hcell := hc i (by omega)
    have e : ks.getD i 0 = ks[i]'(by omega) := by simp [List.getD, show i < ks.length by omega]
    rw [e]
    generalize ks[i]'(by omega) = k at *
    have h1 : (i : Int) < (n : Int) := by omega
    have hcl := Lib.hid (clip_cast k)
    clear h hc e hl
    by_cases hk0 : k < 0
    · have hz : clip k = 0 := by unfold clip; omega
      rw [hz]
      go_enter Tryz.func72, Tryz.ntmps72
      go_wp2
      go_ret
      exact ⟨rfl, rfl⟩
    · by_cases hk1 : 32 < k
      · have hz : clip k = 32 := by unfold clip; omega
        rw [hz]
        go_enter Tryz.func72, Tryz.ntmps72
        go_wp2
        go_ret
        exact ⟨rfl, rfl⟩
      · obtain ⟨m, rfl⟩ := Int.eq_ofNat_of_zero_le (show 0 ≤ k by omega)
        have hz : clip (m : Int) = m := by unfold clip; omega
        rw [hz]
        clear hcl hz
        go_enter Tryz.func72, Tryz.ntmps72
        go_wp2
        go_ret
        exact ⟨rfl, rfl⟩
  · rw [if_neg (by omega)]
    have h1 : (n : Int) ≤ (i : Int) := by omega
    clear h hl
    go_enter Tryz.func72, Tryz.ntmps72
    go_wp2
    go_ret
    exact ⟨rfl, rfl⟩
theorem RdI.kpA {w w' : World} {B n : Nat} {A : Option Addr} {l : List Int} {F : Nat → Prop} (h : RdI w B A n l) (hk : Kp F w w') (hF : 0 < n → ∀ ad, A = some ad → ¬ F ad.block) : RdI w' B A n l :=
  ⟨h.1, h.2.1, fun hn => by
    obtain ⟨b, o, e, hb, hc⟩ := h.2.2 hn
    exact ⟨b, o, e, hb, fun j hj => cell_kp (hc j hj) hk (hF hn ⟨b, o, none⟩ e)⟩⟩
def stSector (p x : Value) : Sem Unit := Instr.storeAt 128 p x
theorem stSector_eq (p x : Value) : Instr.storeAt 128 p x = stSector p x := rfl
theorem run_stSector (w : World) (g o : Nat) (l : List UInt8) (hl : l.length = 32) (ht : w.there g o 32) :
    (stSector (.pointer (some ⟨g, o, none⟩)) (.agg (u8s l).toArray)).run Tryz.prog w = .ok () (w.setCells g o (u8s l)) := by
  have h := run_storeAt_mid (P := Tryz.prog) w g o 128 (u8s l).toArray (by simpa [u8s_len, hl] using ht) (by rw [Tryz.sizeSector]; simp [u8s_len, hl]) (all_oneCell_toArray (u8s_one l))
  rw [List.toList_toArray] at h
  exact h
attribute [local go_sem ↓] ldWrite_eq stWrite_eq ldSector_eq stSector_eq

/-- What both rows of sectors have in the midst of a crash. -/
def Mid_ (now safe : List (List UInt8)) (rest : List (Nat × List UInt8)) : Prop := ∀ a, (∃ x ∈ rest, x.1 = a) ∨ now.getD a [] = safe.getD a []
theorem Mid_.start (s : List (List UInt8)) (ws : List (Nat × List UInt8)) : Mid_ (syncS s ws) s ws := by
  intro a
  induction ws generalizing s with
  | nil => exact .inr rfl
  | cons w ws ih =>
    by_cases e : w.1 = a
    · exact .inl ⟨w, List.mem_cons_self .., e⟩
    · rcases ih (s.set w.1 w.2) with ⟨x, hx, h⟩ | h
      · exact .inl ⟨x, List.mem_cons_of_mem _ hx, h⟩
      · refine .inr (h.trans ?_)
        simp [List.getD, List.getElem?_set_ne e]
theorem Mid_.next {now safe : List (List UInt8)} {ws : List (Nat × List UInt8)} {j : Nat} (hj : j < ws.length) (h : Mid_ now safe (ws.drop j)) (v : List UInt8) (hlen : now.length = safe.length) :
    Mid_ (now.set ws[j].1 v) (safe.set ws[j].1 v) (ws.drop (j + 1)) := by
  intro a
  by_cases e : ws[j].1 = a
  · subst e
    right
    by_cases ha : ws[j].1 < safe.length
    · simp [List.getD, ha, hlen]
    · simp [List.getD, hlen, Nat.le_of_not_lt ha]
  · rcases h a with ⟨x, hx, h⟩ | h
    · rw [List.drop_eq_getElem_cons hj] at hx
      rcases List.mem_cons.1 hx with rfl | hx
      · exact absurd h e
      · exact .inl ⟨x, hx, h⟩
    · right
      simpa [List.getD, List.getElem?_set_ne e] using h
theorem Mid_.done {now safe : List (List UInt8)} (h : Mid_ now safe []) (hlen : now.length = safe.length) : now = safe := by
  apply List.ext_getElem?
  intro a
  rcases h a with ⟨x, hx, _⟩ | h
  · cases hx
  · by_cases ha : a < safe.length
    · have ha' : a < now.length := by omega
      rw [List.getElem?_eq_getElem ha, List.getElem?_eq_getElem ha']
      simpa [List.getD, ha, ha'] using h
    · rw [List.getElem?_eq_none (by omega), List.getElem?_eq_none (by omega)]

set_option maxRecDepth 100000 in
set_option maxHeartbeats 4000000 in
theorem crash_any (g : Nat) (d : Dk) (F : Nat → Prop) (A : Option Addr) (n c : Nat) (ks : List Int) (w : World) (hn : n ≤ 9223372036854775807) (hwl : d.waits.length ≤ 1000000000)
    (hks : RdI w w.heap.size A n ks) (hap : 0 < n → ∀ ad, A = some ad → ¬ F ad.block) (h : PD w F g d) :
    Calls Tryz.prog 37 #[.pointer (some ⟨g, 0, none⟩), .slice A n c] w fun e w' => e = .returned (.tuple #[]) ∧ ∃ F', PD w' F' g (d.crash ks) ∧ Mv F F' w w' := by
  have hlen := h.len
  obtain ⟨gn, cn, gs, cs, wv, pl, hr, hrest⟩ := h
  have c2 : w.cell? ⟨g, 2, none⟩ = some wv := hr.blk.cell 2
  obtain ⟨Aw, cw, rfl, hlc, hcm⟩ := own_shape hr.rwaits
  have HR := Lib.hid hr
  have Hks := Lib.hid hks
  have Hap := Lib.hid hap
  clear hr hrest hcm hks hap
  generalize hm : d.waits.length = m at *
  have Hm := Lib.hid hm
  clear hm
  go_enter Tryz.func37, Tryz.ntmps37
  go_wp2
  go_loopg [13] m (fun k i wr => ∃ j : Nat, i = .int .i64 j ∧ j + k = m ∧ Hid (∃ now', PR wr F g gn cn gs cs (.slice Aw m cw) now' (crashS d.safe (d.waits.take j) ks) d.waits (!d.down) pl ∧ Mid_ now' (crashS d.safe (d.waits.take j) ks) (d.waits.drop j) ∧ Kp F w wr))
  case atStart => exact ⟨0, rfl, by omega, ⟨syncS d.safe d.waits, by simpa [crashS_nil] using HR.out, by simpa [crashS_nil] using Mid_.start d.safe d.waits, Kp.refl F w⟩⟩
  case round =>
    clear HR c2
    obtain ⟨j, rfl, hk, HR⟩ := hrel
    by_cases hj : j < m
    · have hjl : j < d.waits.length := by rw [Hm.out]; exact hj
      obtain ⟨now', hr, hmid, hkw⟩ := HR.out
      obtain ⟨gw, rfl⟩ : ∃ gw, Aw = some ⟨gw, 0, none⟩ := by
        rcases hr.rwaits.2 with ⟨h', h0⟩ | ⟨gw, cap, cur, hv, _⟩
        · omega
        · injection hv with e1; exact ⟨gw, e1⟩
      have hsy := crashS_take d.waits d.safe ks j hjl
      have hmn := fun v => hmid.next hjl v hr.nlen
      have hwa := hr.waitAt j hjl
      have hrow := hr.wrow _ (List.getElem_mem hjl)
      generalize d.waits[j] = x at *
      obtain ⟨at_, what⟩ := x
      simp only at hrow hsy hmn
      have hld := run_ldWrite wr gw (j * 33) _ hwa (by show (Value.int .i64 (at_ : Int) :: u8s what).length = 33; rw [List.length_cons, u8s_len, hrow.2])
      have hst := fun (zs : Array Value) (hz : zs.size = 33) => run_stWrite wr zs 130 (wr1 (at_, what)) hz (by show (Value.int .i64 (at_ : Int) :: u8s what).length = 33; rw [List.length_cons, u8s_len, hrow.2]) (wr1_one _)
      have Hrow := Lib.hid hrow
      have Hsy := Lib.hid hsy
      have HR1 := Lib.hid hr
      have Hkw := Lib.hid hkw
      have Hmn := Lib.hid hmn
      clear hr hkw hrow hsy hwa hjl HR hmid hmn
      go_wp2
      generalize crashS d.safe (d.waits.take j) ks = safe' at *
      have HR2 : Hid (PR (wr.alloc (.cells (wr1 (at_, what)).toArray 130)).drew F g gn cn gs cs (.slice (some ⟨gw, 0, none⟩) m cw) now' safe' d.waits (!d.down) pl) := (HR1.out.alloc _).drewN 1
      have HB2 : Hid (Bk (wr.alloc (.cells (wr1 (at_, what)).toArray 130)).drew wr.heap.size 130 (wr1 (at_, what)).toArray) := Bk.new wr 130 (wr1 (at_, what)).toArray
      have Hk2 : Hid (Kp F w (wr.alloc (.cells (wr1 (at_, what)).toArray 130)).drew) := Hkw.out.trans ((Kp.alloc F wr _).trans (Kp.drew F _))
      have HN : Hid (¬ F wr.heap.size) := fun hf => by have := HR1.out.lt _ hf; omega
      generalize wr.heap.size = N at *
      generalize wr.alloc (.cells (wr1 (at_, what)).toArray 130) = W at *
      have d0 : W.cell? ⟨g, 1, none⟩ = some (.slice (some ⟨gs, 0, none⟩) safe'.length cs) := HR2.out.blk.cell 1
      have d1' : W.cell? ⟨N, 0, none⟩ = some (.int .i64 (at_ : Int)) := HB2.out.cell 0
      have ha0 : (0 : Int) ≤ (at_ : Int) := by omega
      have ha1 : (at_ : Int) < (safe'.length : Int) := by have := Hrow.out.1; omega
      have Ha2 := Lib.hid Hrow.out.1
      have Hkept := Lib.hid (kept_any A n c j w.heap.size ks W.drew hn (by omega) (Hks.out.kpA Hk2.out Hap.out))
      have hq := keptOf_le ks j
      generalize keptOf ks j = q at *
      have hq0 : (0 : Int) ≤ (q : Int) := by omega
      have hq1 : (q : Int) ≤ 32 := by omega
      have hw32 : (u8s (what.take q)).length = q := by rw [u8s_len, List.length_take, Hrow.out.2]; omega
      have Hw32 := Lib.hid hw32
      have hsrc : Hid (∀ k v, (u8s (what.take q))[k]? = some v → W.drew.cell? ((⟨N, 1, none⟩ : Addr).add k) = some v) := fun k v hv => by
        rw [Addr.add_mid]
        show W.cell? ⟨N, 1 + k, none⟩ = some v
        have := HB2.out.cell (1 + k)
        refine this.trans ?_
        rw [Nat.add_comm, List.getElem?_toArray]
        have hlt : k < q := by
          have := (List.getElem?_eq_some_iff.1 hv).1
          rw [Hw32.out] at this
          exact this
        rw [← hv, u8s_get, List.getElem?_take_of_lt hlt]
        show (u8s what)[k]? = _
        rw [u8s_get]
      clear hld hst hw32
      go_still_tail 13, (by kernel_rfl)
      still_call (Hkept.out.mono fun _ _ ⟨h1, h2⟩ => ⟨h1, h2.symm⟩)
      repeat still_step
      refine wpStill_nil ?_
      change wpList _ _ _ _ _ W.drew
      have HBd : Hid (Bk W.drew N 130 (wr1 (at_, what)).toArray) := HB2
      clear d0 d1' HB2
      generalize W.drew = W2 at *
      go_wp2_with ((refine wpList_copy_mid rfl _ _ 23 23 rfl 5 Tryz.underlying23 Tryz.sizeU8 gs (at_ * 32) 32 32 ⟨N, 1, none⟩ q 32 rfl rfl (u8s (what.take q)) (by rw [Hw32.out]; exact (Nat.min_eq_left (by omega)).symm) hsrc.out (own_there HR2.out.rsafe _ _ (by rw [Hw32.out]; have := Ha2.out; omega)) (u8s_one (what.take q)) ?_))
      have HR3 := Lib.hid (HR2.out.laySafe at_ q what Hrow.out.2 hq Ha2.out)
      have Hk3 := Lib.hid (Hk2.out.trans (Kp.sets HR2.out.foot.2.2.1 (u8s (what.take q)) (at_ * 32) W2))
      have HB3 := Lib.hid (HBd.out.kp (Kp.sets (F := fun k => k = gs) rfl (u8s (what.take q)) (at_ * 32) W2) (fun e => HN.out (by rw [e]; exact HR2.out.foot.2.2.1)))
      have Hv := Lib.hid (lay_len q what (safe'.getD at_ []) Hrow.out.2 (rows_getD HR2.out.srow Ha2.out) hq)
      have hse : (safe'.set at_ (lay q what (safe'.getD at_ []))).getD at_ [] = lay q what (safe'.getD at_ []) := by
        have := Ha2.out
        simp [List.getD, this]
      have hsl : (safe'.set at_ (lay q what (safe'.getD at_ []))).length = safe'.length := List.length_set
      have Hmn' := Lib.hid (Hmn.out (lay q what (safe'.getD at_ [])))
      have Hsy' := Hsy
      generalize lay q what (safe'.getD at_ []) = v at *
      generalize W2.setCells gs (at_ * 32) (u8s (what.take q)) = W3 at *
      have hrg := HR3.out.safeAt at_ (by rw [hsl]; exact Ha2.out)
      rw [hse] at hrg
      have hld := run_ldSector W3.drew gs (at_ * 32) v hrg Hv.out
      have hst := run_stSector W3.drew gn (at_ * 32) v Hv.out (own_there ((HR3.out.drewN 1).rnow) (at_ * 32) 32 (by rw [hsl]; have := Ha2.out; omega))
      have HR4 := Lib.hid ((HR3.out.drewN 1).layNow at_ v Hv.out (by rw [hsl]; exact Ha2.out))
      have Hk4 := Lib.hid (Hk3.out.trans ((Kp.drew F W3).trans (Kp.sets HR3.out.foot.2.1 (u8s v) (at_ * 32) W3.drew)))
      have HR4 : Hid (PR (W3.drew.setCells gn (at_ * 32) (u8s v)) F g gn cn gs cs _ _ _ _ _ _) := HR4
      have e0 : W3.cell? ⟨g, 0, none⟩ = some (.slice (some ⟨gn, 0, none⟩) (safe'.set at_ v).length cn) := HR3.out.blk.cell 0
      have e1 : W3.cell? ⟨g, 1, none⟩ = some (.slice (some ⟨gs, 0, none⟩) (safe'.set at_ v).length cs) := HR3.out.blk.cell 1
      have e2 : W3.cell? ⟨N, 0, none⟩ = some (.int .i64 (at_ : Int)) := HB3.out.cell 0
      rw [hsl] at e0 e1
      clear hse hsl hrg HR2 Hk2 HBd HR1 Hkw HR3 Hk3 HB3 hsrc Hkept
      go_wp2
      go_still_tail 15, (by kernel_rfl)
      change wpList _ _ _ _ _ W3.drew
      clear hld e0 e1 e2
      generalize W3.drew = W4 at *
      go_wp2
      clear hst
      generalize W4.setCells gn (at_ * 32) (u8s v) = W5 at *
      go_roundg (gk - 1)
      case measure => omega
      case rel => exact ⟨j + 1, by go_num, by omega, ⟨now'.set at_ v, by rw [Hsy.out]; exact HR4.out, by rw [Hsy.out]; exact Hmn'.out, Hk4.out⟩⟩
    · obtain rfl : j = m := by omega
      obtain ⟨now', hr, hmid, hkw⟩ := HR.out
      have hall : d.waits.take j = d.waits := List.take_of_length_le (by rw [Hm.out]; exact Nat.le_refl _)
      have hnil : d.waits.drop j = [] := List.drop_eq_nil_of_le (by rw [Hm.out]; exact Nat.le_refl _)
      rw [hall] at hr hmid
      rw [hnil] at hmid
      have he := hmid.done hr.nlen
      subst he
      have Hf := Lib.hid (forget_meth g F gn cn gs cs _ _ _ _ _ _ wr hr)
      have Hkw := Lib.hid hkw
      clear hr hmid hall hnil hkw HR
      go_wp2_with fail
      refine Hf.out.mono ?_
      rintro e w' ⟨rfl, F', wv', hpr, hmv⟩
      have c3 := hpr.blk.cell 3
      have c4 := hpr.blk.cell 4
      have f3 := hpr.blk.frozen 3
      have f4 := hpr.blk.frozen 4
      have HF : Hid (∃ F', PD ((w'.setCell ⟨g, 3, none⟩ (.bool true)).setCell ⟨g, 4, none⟩ (.int .i64 (-1))) F' g (d.crash ks) ∧ Mv F F' w ((w'.setCell ⟨g, 3, none⟩ (.bool true)).setCell ⟨g, 4, none⟩ (.int .i64 (-1)))) := by
        refine ⟨F', ⟨gn, cn, gs, cs, wv', -1, (hpr.setUp true).setLeft (-1), .inl rfl, by simp [Dk.crash], by simp [Dk.crash], by omega, by rw [Dk.crash_len]; exact hlen.1, by rw [Dk.crash_len]; exact hlen.2⟩, ?_⟩
        refine ((Mv.of Hkw.out).trans hmv).trans (Mv.of ?_)
        exact (Kp.set_ (p := ⟨g, 3, none⟩) hpr.foot.1 _).trans (Kp.set_ (p := ⟨g, 4, none⟩) hpr.foot.1 _)
      clear hpr hmv Hf Hkw
      go_wp2
      go_end0
      exact ⟨rfl, HF.out⟩
set_option maxRecDepth 100000 in
theorem crash_nil (A : Option Addr) (n c : Nat) (w : World) : Calls Tryz.prog 37 #[.pointer none, .slice A n c] w fun e w' => e = .returned (.tuple #[]) ∧ w = w' := by
  go_enter Tryz.func37, Tryz.ntmps37
  go_wp2
  refine bodyPost_ret (results_none rfl _ _ _) rfl ?_
  exact ⟨rfl, rfl⟩
end Go.Proofs.YtfepjgafamaegaaGreat

/- The program's Disk: New, Clone. -/
namespace Go.Proofs.YtfepjgafamaegaaGreat
open Go.RowKit

theorem secC_zero (n : Nat) : secC (List.replicate n (List.replicate 32 0)) = List.replicate (n * 32) (.int .u8 0) := by
  induction n with
  | zero => rfl
  | succ n ih =>
    unfold secC at ih ⊢
    rw [List.replicate_succ, List.flatMap_cons, ih, Nat.add_mul, Nat.one_mul, Nat.add_comm, ← List.replicate_append_replicate]
    rfl
theorem made_zero (n : Nat) : (madeCells (Value.agg (Array.replicate 32 (.int .u8 0))).cells (n * 32)).toList = List.replicate (n * 32) (.int .u8 0) := by
  apply List.ext_getElem?
  intro j
  by_cases hj : j < n * 32
  · have h2 : j % 32 < (Array.replicate 32 (Value.int .u8 0)).size := by simp; omega
    simp only [madeCells, Value.cells, Array.size_replicate, Array.toList_map, List.getElem?_map, Array.toList_range, List.getElem?_range hj, Option.map_some, List.getElem?_replicate, if_pos hj]
    rw [getElem!_pos (Array.replicate 32 (Value.int .u8 0)) _ h2]
    simp
  · rw [List.getElem?_eq_none (by simp [madeCells]; omega), List.getElem?_eq_none (by simp; omega)]
theorem syncS_nil (s : List (List UInt8)) : syncS s [] = s := rfl

theorem PR.fresh (w : World) (n : Nat) (hn : n ≤ 2048) {w1 : World} {gn gs g : Nat} (hgn : Bk w1 gn 128 (madeCells (Value.agg (Array.replicate 32 (.int .u8 0))).cells (n * 32))) (hgs : Bk w1 gs 128 (madeCells (Value.agg (Array.replicate 32 (.int .u8 0))).cells (n * 32)))
    (hg : Bk w1 g 126 #[.slice (some ⟨gn, 0, none⟩) n n, .slice (some ⟨gs, 0, none⟩) n n, .slice none 0 0, .bool true, .int .i64 (-1)]) (h1 : g ≠ gn) (h2 : g ≠ gs) (h3 : gn ≠ gs) (b1 : w.heap.size ≤ g) (b2 : w.heap.size ≤ gn) (b3 : w.heap.size ≤ gs) (hn1 : 1 ≤ n) :
    ∃ F, PD w1 F g (Dk.new n) ∧ ∀ k, F k → w.heap.size ≤ k := by
  have hl : (List.replicate n (List.replicate 32 (0 : UInt8))).length = n := List.length_replicate
  have ho : ∀ k, Bk w1 k 128 (madeCells (Value.agg (Array.replicate 32 (.int .u8 0))).cells (n * 32)) → w1.ownsRow 0 128 32 (.slice (some ⟨k, 0, none⟩) n n) n (secC (List.replicate n (List.replicate 32 0))) := fun k hk =>
    ⟨by rw [secC_zero]; simp, .inr ⟨k, n, _, rfl, Nat.zero_le _, hk, Nat.le_refl _, by unfold maxLen; omega, by simp [madeCells], by rw [made_zero, secC_zero]; simp⟩⟩
  refine ⟨fun k => k = g ∨ k = gn ∨ k = gs, ⟨gn, n, gs, n, .slice none 0 0, -1, { blk := ?_, rnow := ?_, rsafe := ?_, rwaits := World.ownsRow_nil _ _ _ _, nlen := rfl, nrow := ?_, srow := ?_, wrow := by intro x hx; simp [Dk.new] at hx, ne1 := h1, ne2 := h2, ne3 := h3, wne := by intro k hk; simp [Value.ownBlock] at hk, foot := ⟨.inl rfl, .inr (.inl rfl), .inr (.inr rfl), by intro k hk; simp [Value.ownBlock] at hk⟩, lt := ?_ }, .inl rfl, by simp [Dk.new], by simp [Dk.new], by omega, by simp [Dk.new]; exact hn1, by simp [Dk.new]; exact hn⟩, ?_⟩
  · simp only [Dk.new, hl]
    exact hg
  · simp only [Dk.new, hl, syncS_nil]
    exact ho gn hgn
  · simp only [Dk.new, hl]
    exact ho gs hgs
  · intro s hs
    simp only [Dk.new, syncS_nil] at hs
    rw [List.eq_of_mem_replicate hs, List.length_replicate]
  · intro s hs
    simp only [Dk.new] at hs
    rw [List.eq_of_mem_replicate hs, List.length_replicate]
  · rintro k (rfl | rfl | rfl)
    · exact hg.lt
    · exact hgn.lt
    · exact hgs.lt
  · rintro k (rfl | rfl | rfl) <;> assumption

theorem three_new (w : World) (a b c : Array Value) (t t' t'' : TypeId) : Bk (((w.alloc (.cells a t)).alloc (.cells b t')).alloc (.cells c t'')).drew w.heap.size t a ∧ Bk (((w.alloc (.cells a t)).alloc (.cells b t')).alloc (.cells c t'')).drew (w.heap.size + 1) t' b ∧
    Bk (((w.alloc (.cells a t)).alloc (.cells b t')).alloc (.cells c t'')).drew (w.heap.size + 1 + 1) t'' c ∧ Below w.heap.size w (((w.alloc (.cells a t)).alloc (.cells b t')).alloc (.cells c t'')).drew := by
  have h1 := Bk.new w t a
  have h2 := Bk.new (w.alloc (.cells a t)) t' b
  have h3 := Bk.new ((w.alloc (.cells a t)).alloc (.cells b t')) t'' c
  have e2 : (w.alloc (.cells a t)).heap.size = w.heap.size + 1 := by simp
  have e3 : ((w.alloc (.cells a t)).alloc (.cells b t')).heap.size = w.heap.size + 1 + 1 := by simp
  rw [e2] at h2
  rw [e3] at h3
  have b2 := (Below.refl (w.alloc (.cells a t)).heap.size (w.alloc (.cells a t))).alloc (Nat.le_refl _) (.cells b t')
  have b3 := (Below.refl ((w.alloc (.cells a t)).alloc (.cells b t')).heap.size ((w.alloc (.cells a t)).alloc (.cells b t'))).alloc (Nat.le_refl _) (.cells c t'')
  have k1 := (h1.below b2 h1.lt).below b3 (Nat.lt_of_lt_of_le h1.lt (by omega))
  have k2 := h2.below b3 h2.lt
  exact ⟨k1, k2, h3, ((((Below.refl _ _).alloc (Nat.le_refl _) _).alloc (by simp) _).alloc (by simp; omega) _).drew⟩
set_option maxRecDepth 100000 in
set_option maxHeartbeats 2000000 in
theorem new_any (n : Nat) (w : World) (h1 : 1 ≤ n) (h2 : n ≤ 2048) :
    Calls Tryz.prog 44 #[.int .i64 n] w fun e w' => ∃ g F, e = .returned (.tuple #[.pointer (some ⟨g, 0, none⟩), .int .i64 0]) ∧ PD w' F g (Dk.new n) ∧ (∀ k, F k → w.heap.size ≤ k) ∧ Below w.heap.size w w' := by
  obtain ⟨iw, hiw, hzw, hsw, hbw⟩ := info_parts Tryz.infoSector
  have hmk : ∀ W : World, (Instr.makeSlice 123 (.int .i64 (n : Int)) (.int .i64 (n : Int))).run Tryz.prog W = .ok (.slice (some ⟨W.heap.size, 0, none⟩) n n) (W.alloc (.cells (madeCells (Value.agg (Array.replicate 32 (.int .u8 0))).cells (n * 32)) 128)) := fun W => by
    have h := run_make (P := Tryz.prog) W 123 128 iw _ Tryz.underlying123 hiw hzw .i64 .i64 n n (by omega) (Int.le_refl _) (by rw [hbw]; omega) (by omega)
    rw [hsw] at h
    simpa only [Int.toNat_natCast] using h
  clear hiw hzw hsw hbw
  generalize hZ : madeCells (Value.agg (Array.replicate 32 (.int .u8 0))).cells (n * 32) = Z at *
  go_enter Tryz.func44, Tryz.ntmps44
  go_wp2
  go_region
  all_goals
    go_wp2
    go_ret2
    obtain ⟨t1, t2, t3, t4⟩ := three_new w Z Z #[.slice (some ⟨_, 0, none⟩) n n, .slice (some ⟨_, 0, none⟩) n n, .slice none 0 0, .bool true, .int .i64 (-1)] 128 128 126
    subst Z
    first
      | (obtain ⟨F, hF, hge⟩ := PR.fresh w n h2 t1 t2 t3 (by omega) (by omega) (by omega) (by omega) (by omega) (by omega) h1; exact ⟨_, F, rfl, hF, hge, t4⟩)
      | (obtain ⟨F, hF, hge⟩ := PR.fresh w n h2 t2 t1 t3 (by omega) (by omega) (by omega) (by omega) (by omega) (by omega) h1; exact ⟨_, F, rfl, hF, hge, t4⟩)
set_option maxRecDepth 100000 in
theorem new_bad (n : Int) (w : World) (h : n < 1 ∨ 2048 < n) :
    Calls Tryz.prog 44 #[.int .i64 n] w fun e w' => e = .returned (.tuple #[.pointer none, .int .i64 2]) ∧ w = w' := by
  by_cases h1 : n < 1
  · go_enter Tryz.func44, Tryz.ntmps44
    go_wp2
    go_ret2
    exact ⟨rfl, rfl⟩
  · have h2 : 2048 < n := by omega
    clear h
    go_enter Tryz.func44, Tryz.ntmps44
    go_wp2
    go_ret2
    exact ⟨rfl, rfl⟩
end Go.Proofs.YtfepjgafamaegaaGreat

/- The program's Disk: Clone. -/
namespace Go.Proofs.YtfepjgafamaegaaGreat
open Go.RowKit

theorem secC_one (l : List (List UInt8)) : ∀ u ∈ secC l, u.oneCell' = true := by
  intro u hu
  obtain ⟨x, _, h⟩ := List.mem_flatMap.1 hu
  exact u8s_one x u h
theorem wrC_one (l : List (Nat × List UInt8)) : ∀ u ∈ wrC l, u.oneCell' = true := by
  intro u hu
  obtain ⟨x, _, h⟩ := List.mem_flatMap.1 hu
  exact wr1_one x u h
theorem own_some {w : World} {base e size n : Nat} {v : Value} {xs : List Value} (h : w.ownsRow base e size v n xs) (hn : 0 < n) : ∃ k c, v = .slice (some ⟨k, 0, none⟩) n c ∧ base ≤ k ∧ k < w.heap.size := by
  rcases h.2 with ⟨_, h0⟩ | ⟨k, cap, cur, hv, hb, hh, _⟩
  · omega
  · exact ⟨k, cap, hv, hb, (Array.getElem?_eq_some_iff.1 hh).1⟩

end Go.Proofs.YtfepjgafamaegaaGreat
