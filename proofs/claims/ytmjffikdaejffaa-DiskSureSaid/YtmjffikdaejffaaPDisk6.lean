/- The program's Disk: Crash. -/
import Derived.Test.YtmjffikdaejffaaPDisk5
import Derived.Test.YtmjffikdaejffaaDiskP3
import Derived.StillTailTactics
namespace Go.Proofs.Ytmjffikdaejffaa
open Go.RowKit

theorem clip_cast (k : Int) : ((clip k : Nat) : Int) = min (max k 0) 32 := by unfold clip; omega
set_option maxHeartbeats 1000000 in
theorem kept_any (A : Option Addr) (n c i B : Nat) (ks : List Int) (w : World) (hn : n ≤ 9223372036854775807) (hi : i ≤ 9223372036854775807) (h : RdI w B A n ks) :
    Calls Try.prog 38 #[.slice A n c, .int .i64 i] w fun e w' => e = .returned (.int .i64 (keptOf ks i)) ∧ w = w' := by
  have hl := h.1
  unfold keptOf
  by_cases hin : i < n
  · rw [if_pos (by omega)]
    obtain ⟨b, o, rfl, _, hc⟩ := h.2.2 (by omega)
    have hb := h.2.1 _ (List.getElem_mem (show i < ks.length by omega))
    have hcell := hc i (by omega)
    have e : ks.getD i 0 = ks[i]'(by omega) := by simp [List.getD, show i < ks.length by omega]
    rw [e]
    generalize ks[i]'(by omega) = k at *
    have h1 : (i : Int) < (n : Int) := by omega
    have hcl := Lib.hid (clip_cast k)
    clear h hc e hl
    by_cases hk0 : k < 0
    · have hz : clip k = 0 := by unfold clip; omega
      rw [hz]
      go_enter Try.func38, Try.ntmps38
      go_wp2
      go_ret
      exact ⟨rfl, rfl⟩
    · by_cases hk1 : 32 < k
      · have hz : clip k = 32 := by unfold clip; omega
        rw [hz]
        go_enter Try.func38, Try.ntmps38
        go_wp2
        go_ret
        exact ⟨rfl, rfl⟩
      · obtain ⟨m, rfl⟩ := Int.eq_ofNat_of_zero_le (show 0 ≤ k by omega)
        have hz : clip (m : Int) = m := by unfold clip; omega
        rw [hz]
        clear hcl hz
        go_enter Try.func38, Try.ntmps38
        go_wp2
        go_ret
        exact ⟨rfl, rfl⟩
  · rw [if_neg (by omega)]
    have h1 : (n : Int) ≤ (i : Int) := by omega
    clear h hl
    go_enter Try.func38, Try.ntmps38
    go_wp2
    go_ret
    exact ⟨rfl, rfl⟩
theorem RdI.kpA {w w' : World} {B n : Nat} {A : Option Addr} {l : List Int} {F : Nat → Prop} (h : RdI w B A n l) (hk : Kp F w w') (hF : 0 < n → ∀ ad, A = some ad → ¬ F ad.block) : RdI w' B A n l :=
  ⟨h.1, h.2.1, fun hn => by
    obtain ⟨b, o, e, hb, hc⟩ := h.2.2 hn
    exact ⟨b, o, e, hb, fun j hj => cell_kp (hc j hj) hk (hF hn ⟨b, o, none⟩ e)⟩⟩
def stSector (p x : Value) : Sem Unit := Instr.storeAt 74 p x
theorem stSector_eq (p x : Value) : Instr.storeAt 74 p x = stSector p x := rfl
theorem run_stSector (w : World) (g o : Nat) (l : List UInt8) (hl : l.length = 32) (ht : w.there g o 32) :
    (stSector (.pointer (some ⟨g, o, none⟩)) (.agg (u8s l).toArray)).run Try.prog w = .ok () (w.setCells g o (u8s l)) := by
  have h := run_storeAt_mid (P := Try.prog) w g o 74 (u8s l).toArray (by simpa [u8s_len, hl] using ht) (by rw [Try.sizeSector]; simp [u8s_len, hl]) (all_oneCell_toArray (u8s_one l))
  rw [List.toList_toArray] at h
  exact h
attribute [local go_sem ↓] ldWrite_eq stWrite_eq ldSector_eq stSector_eq

/-- What both rows of sectors have in the midst of a crash. -/
def Mid_ (now safe : List (List UInt8)) (rest : List (Nat × List UInt8)) : Prop := ∀ a, (∃ x ∈ rest, x.1 = a) ∨ now.getD a [] = safe.getD a []
theorem Mid_.start (s : List (List UInt8)) (ws : List (Nat × List UInt8)) : Mid_ (syncS s ws) s ws := by
  intro a
  induction ws generalizing s with
  | nil => exact .inr rfl
  | cons w ws ih =>
    by_cases e : w.1 = a
    · exact .inl ⟨w, List.mem_cons_self .., e⟩
    · rcases ih (s.set w.1 w.2) with ⟨x, hx, h⟩ | h
      · exact .inl ⟨x, List.mem_cons_of_mem _ hx, h⟩
      · refine .inr (h.trans ?_)
        simp [List.getD, List.getElem?_set_ne e]
theorem Mid_.next {now safe : List (List UInt8)} {ws : List (Nat × List UInt8)} {j : Nat} (hj : j < ws.length) (h : Mid_ now safe (ws.drop j)) (v : List UInt8) (hlen : now.length = safe.length) :
    Mid_ (now.set ws[j].1 v) (safe.set ws[j].1 v) (ws.drop (j + 1)) := by
  intro a
  by_cases e : ws[j].1 = a
  · subst e
    right
    by_cases ha : ws[j].1 < safe.length
    · simp [List.getD, ha, hlen]
    · simp [List.getD, hlen, Nat.le_of_not_lt ha]
  · rcases h a with ⟨x, hx, h⟩ | h
    · rw [List.drop_eq_getElem_cons hj] at hx
      rcases List.mem_cons.1 hx with rfl | hx
      · exact absurd h e
      · exact .inl ⟨x, hx, h⟩
    · right
      simpa [List.getD, List.getElem?_set_ne e] using h
theorem Mid_.done {now safe : List (List UInt8)} (h : Mid_ now safe []) (hlen : now.length = safe.length) : now = safe := by
  apply List.ext_getElem?
  intro a
  rcases h a with ⟨x, hx, _⟩ | h
  · cases hx
  · by_cases ha : a < safe.length
    · have ha' : a < now.length := by omega
      rw [List.getElem?_eq_getElem ha, List.getElem?_eq_getElem ha']
      simpa [List.getD, ha, ha'] using h
    · rw [List.getElem?_eq_none (by omega), List.getElem?_eq_none (by omega)]

set_option maxRecDepth 100000 in
set_option maxHeartbeats 4000000 in
theorem crash_any (g : Nat) (d : Dk) (F : Nat → Prop) (A : Option Addr) (n c : Nat) (ks : List Int) (w : World) (hn : n ≤ 9223372036854775807) (hwl : d.waits.length ≤ 1000000000)
    (hks : RdI w w.heap.size A n ks) (hap : 0 < n → ∀ ad, A = some ad → ¬ F ad.block) (h : PD w F g d) :
    Calls Try.prog 17 #[.pointer (some ⟨g, 0, none⟩), .slice A n c] w fun e w' => e = .returned (.tuple #[]) ∧ ∃ F', PD w' F' g (d.crash ks) ∧ Mv F F' w w' := by
  have hlen := h.len
  obtain ⟨gn, cn, gs, cs, wv, pl, hr, hrest⟩ := h
  have c2 : w.cell? ⟨g, 2, none⟩ = some wv := hr.blk.cell 2
  obtain ⟨Aw, cw, rfl, hlc, hcm⟩ := own_shape hr.rwaits
  have HR := Lib.hid hr
  have Hks := Lib.hid hks
  have Hap := Lib.hid hap
  clear hr hrest hcm hks hap
  generalize hm : d.waits.length = m at *
  have Hm := Lib.hid hm
  clear hm
  go_enter Try.func17, Try.ntmps17
  go_wp2
  go_loopg [13] m (fun k i wr => ∃ j : Nat, i = .int .i64 j ∧ j + k = m ∧ Hid (∃ now', PR wr F g gn cn gs cs (.slice Aw m cw) now' (crashS d.safe (d.waits.take j) ks) d.waits (!d.down) pl ∧ Mid_ now' (crashS d.safe (d.waits.take j) ks) (d.waits.drop j) ∧ Kp F w wr))
  case atStart => exact ⟨0, rfl, by omega, ⟨syncS d.safe d.waits, by simpa [crashS_nil] using HR.out, by simpa [crashS_nil] using Mid_.start d.safe d.waits, Kp.refl F w⟩⟩
  case round =>
    clear HR c2
    obtain ⟨j, rfl, hk, HR⟩ := hrel
    by_cases hj : j < m
    · have hjl : j < d.waits.length := by rw [Hm.out]; exact hj
      obtain ⟨now', hr, hmid, hkw⟩ := HR.out
      obtain ⟨gw, rfl⟩ : ∃ gw, Aw = some ⟨gw, 0, none⟩ := by
        rcases hr.rwaits.2 with ⟨h', h0⟩ | ⟨gw, cap, cur, hv, _⟩
        · omega
        · injection hv with e1; exact ⟨gw, e1⟩
      have hsy := crashS_take d.waits d.safe ks j hjl
      have hmn := fun v => hmid.next hjl v hr.nlen
      have hwa := hr.waitAt j hjl
      have hrow := hr.wrow _ (List.getElem_mem hjl)
      generalize d.waits[j] = x at *
      obtain ⟨at_, what⟩ := x
      simp only at hrow hsy hmn
      have hld := run_ldWrite wr gw (j * 33) _ hwa (by show (Value.int .i64 (at_ : Int) :: u8s what).length = 33; rw [List.length_cons, u8s_len, hrow.2])
      have hst := fun (zs : Array Value) (hz : zs.size = 33) => run_stWrite wr zs 76 (wr1 (at_, what)) hz (by show (Value.int .i64 (at_ : Int) :: u8s what).length = 33; rw [List.length_cons, u8s_len, hrow.2]) (wr1_one _)
      have Hrow := Lib.hid hrow
      have Hsy := Lib.hid hsy
      have HR1 := Lib.hid hr
      have Hkw := Lib.hid hkw
      have Hmn := Lib.hid hmn
      clear hr hkw hrow hsy hwa hjl HR hmid hmn
      go_wp2
      generalize crashS d.safe (d.waits.take j) ks = safe' at *
      have HR2 : Hid (PR (wr.alloc (.cells (wr1 (at_, what)).toArray 76)).drew F g gn cn gs cs (.slice (some ⟨gw, 0, none⟩) m cw) now' safe' d.waits (!d.down) pl) := (HR1.out.alloc _).drewN 1
      have HB2 : Hid (Bk (wr.alloc (.cells (wr1 (at_, what)).toArray 76)).drew wr.heap.size 76 (wr1 (at_, what)).toArray) := Bk.new wr 76 (wr1 (at_, what)).toArray
      have Hk2 : Hid (Kp F w (wr.alloc (.cells (wr1 (at_, what)).toArray 76)).drew) := Hkw.out.trans ((Kp.alloc F wr _).trans (Kp.drew F _))
      have HN : Hid (¬ F wr.heap.size) := fun hf => by have := HR1.out.lt _ hf; omega
      generalize wr.heap.size = N at *
      generalize wr.alloc (.cells (wr1 (at_, what)).toArray 76) = W at *
      have d0 : W.cell? ⟨g, 1, none⟩ = some (.slice (some ⟨gs, 0, none⟩) safe'.length cs) := HR2.out.blk.cell 1
      have d1' : W.cell? ⟨N, 0, none⟩ = some (.int .i64 (at_ : Int)) := HB2.out.cell 0
      have ha0 : (0 : Int) ≤ (at_ : Int) := by omega
      have ha1 : (at_ : Int) < (safe'.length : Int) := by have := Hrow.out.1; omega
      have Ha2 := Lib.hid Hrow.out.1
      have Hkept := Lib.hid (kept_any A n c j w.heap.size ks W.drew hn (by omega) (Hks.out.kpA Hk2.out Hap.out))
      have hq := keptOf_le ks j
      generalize keptOf ks j = q at *
      have hq0 : (0 : Int) ≤ (q : Int) := by omega
      have hq1 : (q : Int) ≤ 32 := by omega
      have hw32 : (u8s (what.take q)).length = q := by rw [u8s_len, List.length_take, Hrow.out.2]; omega
      have Hw32 := Lib.hid hw32
      have hsrc : Hid (∀ k v, (u8s (what.take q))[k]? = some v → W.drew.cell? ((⟨N, 1, none⟩ : Addr).add k) = some v) := fun k v hv => by
        rw [Addr.add_mid]
        show W.cell? ⟨N, 1 + k, none⟩ = some v
        have := HB2.out.cell (1 + k)
        refine this.trans ?_
        rw [Nat.add_comm, List.getElem?_toArray]
        have hlt : k < q := by
          have := (List.getElem?_eq_some_iff.1 hv).1
          rw [Hw32.out] at this
          exact this
        rw [← hv, u8s_get, List.getElem?_take_of_lt hlt]
        show (u8s what)[k]? = _
        rw [u8s_get]
      clear hld hst hw32
      go_still_tail 13, (by kernel_rfl)
      still_call (Hkept.out.mono fun _ _ ⟨h1, h2⟩ => ⟨h1, h2.symm⟩)
      repeat still_step
      refine wpStill_nil ?_
      change wpList _ _ _ _ _ W.drew
      have HBd : Hid (Bk W.drew N 76 (wr1 (at_, what)).toArray) := HB2
      clear d0 d1' HB2
      generalize W.drew = W2 at *
      go_wp2_with ((refine wpList_copy_mid rfl _ _ 37 37 rfl 5 Try.underlying37 Try.sizeU8 gs (at_ * 32) 32 32 ⟨N, 1, none⟩ q 32 rfl rfl (u8s (what.take q)) (by rw [Hw32.out]; exact (Nat.min_eq_left (by omega)).symm) hsrc.out (own_there HR2.out.rsafe _ _ (by rw [Hw32.out]; have := Ha2.out; omega)) (u8s_one (what.take q)) ?_))
      have HR3 := Lib.hid (HR2.out.laySafe at_ q what Hrow.out.2 hq Ha2.out)
      have Hk3 := Lib.hid (Hk2.out.trans (Kp.sets HR2.out.foot.2.2.1 (u8s (what.take q)) (at_ * 32) W2))
      have HB3 := Lib.hid (HBd.out.kp (Kp.sets (F := fun k => k = gs) rfl (u8s (what.take q)) (at_ * 32) W2) (fun e => HN.out (by rw [e]; exact HR2.out.foot.2.2.1)))
      have Hv := Lib.hid (lay_len q what (safe'.getD at_ []) Hrow.out.2 (rows_getD HR2.out.srow Ha2.out) hq)
      have hse : (safe'.set at_ (lay q what (safe'.getD at_ []))).getD at_ [] = lay q what (safe'.getD at_ []) := by
        have := Ha2.out
        simp [List.getD, this]
      have hsl : (safe'.set at_ (lay q what (safe'.getD at_ []))).length = safe'.length := List.length_set
      have Hmn' := Lib.hid (Hmn.out (lay q what (safe'.getD at_ [])))
      have Hsy' := Hsy
      generalize lay q what (safe'.getD at_ []) = v at *
      generalize W2.setCells gs (at_ * 32) (u8s (what.take q)) = W3 at *
      have hrg := HR3.out.safeAt at_ (by rw [hsl]; exact Ha2.out)
      rw [hse] at hrg
      have hld := run_ldSector W3.drew gs (at_ * 32) v hrg Hv.out
      have hst := run_stSector W3.drew gn (at_ * 32) v Hv.out (own_there ((HR3.out.drewN 1).rnow) (at_ * 32) 32 (by rw [hsl]; have := Ha2.out; omega))
      have HR4 := Lib.hid ((HR3.out.drewN 1).layNow at_ v Hv.out (by rw [hsl]; exact Ha2.out))
      have Hk4 := Lib.hid (Hk3.out.trans ((Kp.drew F W3).trans (Kp.sets HR3.out.foot.2.1 (u8s v) (at_ * 32) W3.drew)))
      have HR4 : Hid (PR (W3.drew.setCells gn (at_ * 32) (u8s v)) F g gn cn gs cs _ _ _ _ _ _) := HR4
      have e0 : W3.cell? ⟨g, 0, none⟩ = some (.slice (some ⟨gn, 0, none⟩) (safe'.set at_ v).length cn) := HR3.out.blk.cell 0
      have e1 : W3.cell? ⟨g, 1, none⟩ = some (.slice (some ⟨gs, 0, none⟩) (safe'.set at_ v).length cs) := HR3.out.blk.cell 1
      have e2 : W3.cell? ⟨N, 0, none⟩ = some (.int .i64 (at_ : Int)) := HB3.out.cell 0
      rw [hsl] at e0 e1
      clear hse hsl hrg HR2 Hk2 HBd HR1 Hkw HR3 Hk3 HB3 hsrc Hkept
      go_wp2
      go_still_tail 15, (by kernel_rfl)
      change wpList _ _ _ _ _ W3.drew
      clear hld e0 e1 e2
      generalize W3.drew = W4 at *
      go_wp2
      clear hst
      generalize W4.setCells gn (at_ * 32) (u8s v) = W5 at *
      go_roundg (gk - 1)
      case measure => omega
      case rel => exact ⟨j + 1, by go_num, by omega, ⟨now'.set at_ v, by rw [Hsy.out]; exact HR4.out, by rw [Hsy.out]; exact Hmn'.out, Hk4.out⟩⟩
    · obtain rfl : j = m := by omega
      obtain ⟨now', hr, hmid, hkw⟩ := HR.out
      have hall : d.waits.take j = d.waits := List.take_of_length_le (by rw [Hm.out]; exact Nat.le_refl _)
      have hnil : d.waits.drop j = [] := List.drop_eq_nil_of_le (by rw [Hm.out]; exact Nat.le_refl _)
      rw [hall] at hr hmid
      rw [hnil] at hmid
      have he := hmid.done hr.nlen
      subst he
      have Hf := Lib.hid (forget_meth g F gn cn gs cs _ _ _ _ _ _ wr hr)
      have Hkw := Lib.hid hkw
      clear hr hmid hall hnil hkw HR
      go_wp2_with fail
      refine Hf.out.mono ?_
      rintro e w' ⟨rfl, F', wv', hpr, hmv⟩
      have c3 := hpr.blk.cell 3
      have c4 := hpr.blk.cell 4
      have f3 := hpr.blk.frozen 3
      have f4 := hpr.blk.frozen 4
      have HF : Hid (∃ F', PD ((w'.setCell ⟨g, 3, none⟩ (.bool true)).setCell ⟨g, 4, none⟩ (.int .i64 (-1))) F' g (d.crash ks) ∧ Mv F F' w ((w'.setCell ⟨g, 3, none⟩ (.bool true)).setCell ⟨g, 4, none⟩ (.int .i64 (-1)))) := by
        refine ⟨F', ⟨gn, cn, gs, cs, wv', -1, (hpr.setUp true).setLeft (-1), .inl rfl, by simp [Dk.crash], by simp [Dk.crash], by omega, by rw [Dk.crash_len]; exact hlen.1, by rw [Dk.crash_len]; exact hlen.2⟩, ?_⟩
        refine ((Mv.of Hkw.out).trans hmv).trans (Mv.of ?_)
        exact (Kp.set_ (p := ⟨g, 3, none⟩) hpr.foot.1 _).trans (Kp.set_ (p := ⟨g, 4, none⟩) hpr.foot.1 _)
      clear hpr hmv Hf Hkw
      go_wp2
      go_end0
      exact ⟨rfl, HF.out⟩
theorem crash_nil (A : Option Addr) (n c : Nat) (w : World) : Calls Try.prog 17 #[.pointer none, .slice A n c] w fun e w' => e = .returned (.tuple #[]) ∧ w = w' := by
  go_enter Try.func17, Try.ntmps17
  go_wp2
  refine bodyPost_ret (results_none rfl _ _ _) rfl ?_
  exact ⟨rfl, rfl⟩
end Go.Proofs.Ytmjffikdaejffaa
