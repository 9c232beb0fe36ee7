/- The program's Disk: Sync. -/
import Derived.Test.YtmjffikdaejffaaPDisk4
import Derived.Deep.LoopGhost
import Derived.StillTailTactics
namespace Go.Proofs.Ytmjffikdaejffaa
open Go.RowKit

/-- A write by value: read out of its row, laid into a variable: by a law each. -/
def ldWrite (p : Value) : Sem Value := Instr.loadAt 76 p
theorem ldWrite_eq (p : Value) : Instr.loadAt 76 p = ldWrite p := rfl
theorem run_ldWrite (w : World) (g o : Nat) (C : List Value) (hc : w.rangeAt g o C) (hl : C.length = 33) : (ldWrite (.pointer (some ⟨g, o, none⟩))).run Try.prog w = .ok (.agg C.toArray) w :=
  run_loadAt_mid w g o 76 C _ hc Try.underlying76 rfl (by rw [Try.sizeWrite, hl])
def stWrite (p x : Value) : Sem Unit := Instr.storeAt 76 p x
theorem stWrite_eq (p x : Value) : Instr.storeAt 76 p x = stWrite p x := rfl
theorem setCells_whole (w : World) (zs : Array Value) (t : TypeId) (C : List Value) (hz : zs.size = C.length) : (w.alloc (.cells zs t)).setCells w.heap.size 0 C = w.alloc (.cells C.toArray t) := by
  have h := heap_sets w.heap.size t C 0 (w.alloc (.cells zs t)) zs.toList (by simpa using heap_alloc_new w _) (by simp [hz])
  have e : (over zs.toList 0 C).toArray = C.toArray := by
    unfold over
    rw [List.take_zero, List.nil_append, List.drop_eq_nil_of_le (by simp [hz]), List.append_nil]
  rw [e] at h
  have hk := Kp.sets (F := fun k => k = w.heap.size) rfl C 0 (w.alloc (.cells zs t))
  have hsz : ∀ (vs : List Value) (o : Nat) (W : World), (W.setCells w.heap.size o vs).heap.size = W.heap.size := by
    intro vs
    induction vs with
    | nil => intro o W; rfl
    | cons v r ih => intro o W; rw [World.setCells, ih]; simp [World.setCell]
  have hdr : ∀ (vs : List Value) (o : Nat) (W : World), (W.setCells w.heap.size o vs).drawn = W.drawn := by
    intro vs
    induction vs with
    | nil => intro o W; rfl
    | cons v r ih => intro o W; rw [World.setCells, ih]; rfl
  have hheap : ((w.alloc (.cells zs t)).setCells w.heap.size 0 C).heap = (w.alloc (.cells C.toArray t)).heap := by
    apply Array.ext_getElem?
    intro k
    by_cases hk1 : k = w.heap.size
    · subst hk1
      rw [h]
      exact (heap_alloc_new w _).symm
    · by_cases hk2 : k < w.heap.size
      · rw [hk.block k (by simp; omega) hk1, Below.heap_alloc _ _ _ hk2, Below.heap_alloc _ _ _ hk2]
      · rw [Array.getElem?_eq_none (by rw [hsz]; simp; omega), Array.getElem?_eq_none (by simp; omega)]
  have h1 := hk.os
  have h2 := hk.tape
  have h3 := hk.output
  have h4 := hdr C 0 (w.alloc (.cells zs t))
  generalize (w.alloc (.cells zs t)).setCells w.heap.size 0 C = X at *
  cases X
  simp only at hheap h1 h2 h3 h4
  subst hheap h1 h2 h3 h4
  rfl
theorem run_stWrite (w : World) (zs : Array Value) (t : TypeId) (C : List Value) (hz : zs.size = 33) (hl : C.length = 33) (h1 : ∀ u ∈ C, u.oneCell' = true) :
    (stWrite (.pointer (some ⟨w.heap.size, 0, none⟩)) (.agg C.toArray)).run Try.prog (w.alloc (.cells zs t)) = .ok () (w.alloc (.cells C.toArray t)) := by
  have hb : Bk (w.alloc (.cells zs t)) w.heap.size t zs := Bk.new w t zs
  have h := run_storeAt_mid (P := Try.prog) (w.alloc (.cells zs t)) w.heap.size 0 76 C.toArray (bk_there hb 0 _ (by simp [hz, hl])) (by rw [Try.sizeWrite]; simp [hl]) (all_oneCell_toArray h1)
  rw [List.toList_toArray] at h
  rw [setCells_whole w zs t C (by rw [hz, hl])] at h
  exact h
attribute [local go_sem ↓] ldWrite_eq stWrite_eq

theorem wr1_one (x : Nat × List UInt8) : ∀ u ∈ wr1 x, u.oneCell' = true := by
  intro u hu
  unfold wr1 at hu
  rcases List.mem_cons.1 hu with rfl | hu
  · rfl
  · exact u8s_one _ u hu

theorem PR.laySafe32 {w : World} {F : Nat → Prop} {g gn cn gs cs : Nat} {wv : Value} {now safe : List (List UInt8)} {ws : List (Nat × List UInt8)} {up : Bool} {pl : Int} (h : PR w F g gn cn gs cs wv now safe ws up pl) (a : Nat) (b : List UInt8) (hb : b.length = 32) (ha : a < safe.length) :
    PR (w.setCells gs (a * 32) (u8s b)) F g gn cn gs cs wv now (safe.set a b) ws up pl := by
  have := h.laySafe a 32 b hb (Nat.le_refl _) ha
  have e1 : b.take 32 = b := List.take_of_length_le (by omega)
  have e2 : lay 32 b (safe.getD a []) = b := by unfold lay; rw [e1, List.drop_eq_nil_of_le (by rw [rows_getD h.srow ha]; exact Nat.le_refl _), List.append_nil]
  rwa [e1, e2] at this
theorem syncS_take (s : List (List UInt8)) (ws : List (Nat × List UInt8)) (j : Nat) (hj : j < ws.length) : syncS s (ws.take (j + 1)) = (syncS s (ws.take j)).set ws[j].1 ws[j].2 := by
  unfold syncS
  rw [List.take_succ_eq_append_getElem hj, List.foldl_append]
  rfl

set_option maxRecDepth 100000 in
set_option maxHeartbeats 4000000 in
theorem sync_go (g : Nat) (d : Dk) (F : Nat → Prop) (w : World) (hd : d.down = false) (hact : d.act.1 = true) (hwl : d.waits.length ≤ 1000000000) (h : PD w F g d) :
    Calls Try.prog 16 #[.pointer (some ⟨g, 0, none⟩)] w fun e w' => e = .returned (.int .i64 0) ∧ ∃ F', PD w' F' g { d.act.2 with safe := syncS d.safe d.waits, waits := [] } ∧ Mv F F' w w' := by
  have Ha := Lib.hid (act_meth g d F w hd h)
  rw [hact] at Ha
  have hlen := h.len
  have c3 : w.cell? ⟨g, 3, none⟩ = some (.bool true) := by
    obtain ⟨gn, cn, gs, cs, wv, pl, hr, hrest⟩ := h
    have := hr.blk.cell 3
    simpa [hd] using this
  obtain ⟨e1, e2⟩ := d.act_same
  rw [← e2] at hwl
  rw [← e1] at hlen
  rw [← e1, ← e2]
  generalize d.act.2 = d1 at *
  clear h e1 e2 hd hact
  go_enter Try.func16, Try.ntmps16
  go_wp2_with fail
  refine Ha.out.mono ?_
  rintro e w1 ⟨rfl, hpd, hkp⟩
  obtain ⟨gn, cn, gs, cs, wv, pl, hr, hrest⟩ := hpd
  have c2 : w1.cell? ⟨g, 2, none⟩ = some wv := hr.blk.cell 2
  obtain ⟨A, c, rfl, hlc, hcm⟩ := own_shape hr.rwaits
  have HR := Lib.hid hr
  have Hrest := Lib.hid hrest
  have Hkp := Lib.hid hkp
  clear hr hrest hkp Ha c3 hcm
  generalize hn : d1.waits.length = n at *
  have Hn := Lib.hid hn
  clear hn
  go_wp2
  go_loopg [24] n (fun k i wr => ∃ j : Nat, i = .int .i64 j ∧ j + k = n ∧ Hid (PR wr F g gn cn gs cs (.slice A n c) (syncS d1.safe d1.waits) (syncS d1.safe (d1.waits.take j)) d1.waits (!d1.down) pl ∧ Kp F w wr))
  case atStart => exact ⟨0, rfl, by omega, ⟨by simpa [syncS] using HR.out, Hkp.out⟩⟩
  case round =>
    clear HR Hkp c2
    obtain ⟨j, rfl, hk, HR⟩ := hrel
    by_cases hj : j < n
    · have hjl : j < d1.waits.length := by rw [Hn.out]; exact hj
      obtain ⟨gw, rfl⟩ : ∃ gw, A = some ⟨gw, 0, none⟩ := by
        rcases HR.out.1.rwaits.2 with ⟨h', h0⟩ | ⟨gw, cap, cur, hv, _⟩
        · omega
        · injection hv with e1; exact ⟨gw, e1⟩
      have hr := HR.out.1
      have hkw := HR.out.2
      have hsy := syncS_take d1.safe d1.waits j hjl
      have hwa := hr.waitAt j hjl
      have hrow := hr.wrow _ (List.getElem_mem hjl)
      generalize d1.waits[j] = x at *
      obtain ⟨at_, what⟩ := x
      simp only at hrow hsy
      have hld := run_ldWrite wr gw (j * 33) _ hwa (by show (Value.int .i64 (at_ : Int) :: u8s what).length = 33; rw [List.length_cons, u8s_len, hrow.2])
      have hst := fun (zs : Array Value) (hz : zs.size = 33) => run_stWrite wr zs 76 (wr1 (at_, what)) hz (by show (Value.int .i64 (at_ : Int) :: u8s what).length = 33; rw [List.length_cons, u8s_len, hrow.2]) (wr1_one _)
      have Hrow := Lib.hid hrow
      have Hsy := Lib.hid hsy
      have HR1 := Lib.hid hr
      have Hkw := Lib.hid hkw
      clear hr hkw hrow hsy hwa hjl HR
      go_wp2
      have HR2 : Hid (PR (wr.alloc (.cells (wr1 (at_, what)).toArray 76)).drew F g gn cn gs cs (.slice (some ⟨gw, 0, none⟩) n c) (syncS d1.safe d1.waits) (syncS d1.safe (d1.waits.take j)) d1.waits (!d1.down) pl) := (HR1.out.alloc _).drewN 1
      have HB2 : Hid (Bk (wr.alloc (.cells (wr1 (at_, what)).toArray 76)).drew wr.heap.size 76 (wr1 (at_, what)).toArray) := Bk.new wr 76 (wr1 (at_, what)).toArray
      have Hk2 : Hid (Kp F w (wr.alloc (.cells (wr1 (at_, what)).toArray 76)).drew) := Hkw.out.trans ((Kp.alloc F wr _).trans (Kp.drew F _))
      generalize wr.heap.size = N at *
      generalize wr.alloc (.cells (wr1 (at_, what)).toArray 76) = W at *
      have d0 : W.cell? ⟨g, 1, none⟩ = some (.slice (some ⟨gs, 0, none⟩) (syncS d1.safe (d1.waits.take j)).length cs) := HR2.out.blk.cell 1
      have d1' : W.cell? ⟨N, 0, none⟩ = some (.int .i64 (at_ : Int)) := HB2.out.cell 0
      have hsl : (syncS d1.safe (d1.waits.take j)).length = d1.safe.length := syncS_len _ _
      rw [hsl] at d0
      have ha0 : (0 : Int) ≤ (at_ : Int) := by omega
      have ha1 : (at_ : Int) < (d1.safe.length : Int) := by have := Hrow.out.1; rw [hsl] at this; omega
      have ha2 : at_ < (syncS d1.safe (d1.waits.take j)).length := Hrow.out.1
      have Ha2 := Lib.hid ha2
      have hw32 : (u8s what).length = 32 := by rw [u8s_len]; exact Hrow.out.2
      have Hw32 := Lib.hid hw32
      have hsrc : Hid (∀ k v, (u8s what)[k]? = some v → W.drew.cell? ((⟨N, 1, none⟩ : Addr).add k) = some v) := fun k v hv => by
        rw [Addr.add_mid]
        show W.cell? ⟨N, 1 + k, none⟩ = some v
        have := HB2.out.cell (1 + k)
        refine this.trans ?_
        rw [Nat.add_comm, List.getElem?_toArray]
        exact hv
      clear hsl hld hst ha2 hw32
      go_still_tail 10, (by kernel_rfl)
      change wpList _ _ _ _ _ W.drew
      generalize W.drew = W2 at *
      go_wp2_with ((refine wpList_copy_mid rfl _ _ 37 37 rfl 5 Try.underlying37 Try.sizeU8 gs (at_ * 32) 32 32 ⟨N, 1, none⟩ 32 32 rfl rfl (u8s what) Hw32.out hsrc.out (own_there HR2.out.rsafe _ _ (by rw [Hw32.out]; have := Ha2.out; omega)) (u8s_one what) ?_))
      have HR3 := Lib.hid (HR2.out.laySafe32 at_ what Hrow.out.2 Ha2.out)
      have Hk3 := Lib.hid (Hk2.out.trans (Kp.sets HR2.out.foot.2.2.1 (u8s what) (at_ * 32) W2))
      rw [← Hsy.out] at HR3
      generalize W2.setCells gs (at_ * 32) (u8s what) = W3 at *
      clear HR2 Hk2 d0 d1' hsrc HB2
      go_wp2
      go_roundg (gk - 1)
      case measure => omega
      case rel => exact ⟨j + 1, by go_num, by omega, ⟨HR3.out, Hk3.out⟩⟩
    · obtain rfl : j = n := by omega
      have hall : d1.waits.take j = d1.waits := List.take_of_length_le (by rw [Hn.out]; exact Nat.le_refl _)
      rw [hall] at HR
      have Hf := Lib.hid (forget_meth g F gn cn gs cs _ _ _ _ _ _ wr HR.out.1)
      go_wp2_with fail
      refine Hf.out.mono ?_
      rintro e w' ⟨rfl, F', wv', hpr, hmv⟩
      have HF : Hid (∃ F', PD w' F' g { d1 with safe := syncS d1.safe d1.waits, waits := [] } ∧ Mv F F' w w') := by
        refine ⟨F', ⟨gn, cn, gs, cs, wv', pl, hpr, Hrest.out.1, Hrest.out.2.1, Hrest.out.2.2.1, Hrest.out.2.2.2.1, ?_, ?_⟩, (Mv.of HR.out.2).trans hmv⟩
        · simp only [syncS_len]; exact hlen.1
        · simp only [syncS_len]; exact hlen.2
      clear hpr hmv Hf HR
      go_wp2
      go_ret
      exact ⟨rfl, HF.out⟩
theorem sync_any (g : Nat) (d : Dk) (F : Nat → Prop) (w : World) (hwl : d.waits.length ≤ 1000000000) (h : PD w F g d) :
    Calls Try.prog 16 #[.pointer (some ⟨g, 0, none⟩)] w fun e w' => e = .returned (.int .i64 d.sync.1) ∧ ∃ F', PD w' F' g d.sync.2 ∧ Mv F F' w w' := by
  have c3 : w.cell? ⟨g, 3, none⟩ = some (.bool (!d.down)) := by
    obtain ⟨gn, cn, gs, cs, wv, pl, hr, hrest⟩ := h
    exact hr.blk.cell 3
  unfold Dk.sync
  by_cases hd : d.down = true
  · have e1 : d.act = (false, d) := by unfold Dk.act; rw [if_pos hd]
    rw [e1, if_neg (by simp)]
    rw [hd] at c3
    have HF : Hid (∃ F', PD w F' g d ∧ Mv F F' w w) := ⟨F, h, Mv.refl F w⟩
    clear h e1 hwl
    go_enter Try.func16, Try.ntmps16
    go_wp2
    go_ret
    exact ⟨rfl, HF.out⟩
  · have hd' : d.down = false := by simpa using hd
    rw [hd'] at c3
    by_cases hact : d.act.1 = true
    · rw [if_pos hact]
      exact sync_go g d F w hd' hact hwl h
    · rw [if_neg hact]
      have Ha := Lib.hid (act_meth g d F w hd' h)
      have hact' : d.act.1 = false := by simpa using hact
      rw [hact'] at Ha
      generalize d.act.2 = d1 at *
      clear h hact hact' hwl
      go_enter Try.func16, Try.ntmps16
      go_wp2_with fail
      refine Ha.out.mono ?_
      rintro e w1 ⟨rfl, hpd, hkp⟩
      have HF : Hid (∃ F', PD w1 F' g d1 ∧ Mv F F' w w1) := ⟨F, hpd, Mv.of hkp⟩
      clear hpd hkp
      go_wp2
      go_ret
      exact ⟨rfl, HF.out⟩
theorem sync_nil (w : World) : Calls Try.prog 16 #[.pointer none] w fun e w' => e = .returned (.int .i64 1) ∧ w = w' := by
  go_enter Try.func16, Try.ntmps16
  go_wp2
  go_ret
  exact ⟨rfl, rfl⟩
theorem write_nil (a : Int) (A : Option Addr) (n c : Nat) (w : World) : Calls Try.prog 15 #[.pointer none, .int .i64 a, .slice A n c] w fun e w' => e = .returned (.int .i64 1) ∧ w = w' := by
  have Hr := Lib.hid (reach_nil a w)
  go_enter Try.func15, Try.ntmps15
  go_wp2_with fail
  refine Hr.out.mono ?_
  rintro e w' ⟨rfl, rfl⟩
  go_wp2
  go_ret
  exact ⟨rfl, rfl⟩
end Go.Proofs.Ytmjffikdaejffaa
