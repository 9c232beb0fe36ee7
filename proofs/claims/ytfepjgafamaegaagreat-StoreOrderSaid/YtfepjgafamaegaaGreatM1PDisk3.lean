/- Of the proofs of layer 4, merged: PDisk3. -/
import Derived.Test.YtfepjgafamaegaaGreatMPDisk
import Derived.Test.YtfepjgafamaegaaGreatM1Append2
import Derived.Deep.RegionLaw
import Derived.Deep.RegionHeld3

/- The program's Disk: Write. -/
namespace Go.Proofs.YtfepjgafamaegaaGreat
open Go.RowKit

theorem Tryz.infoSector : (Tryz.prog.info? 128).map (fun i => (i.zero, i.size, i.bytes)) = some (some (.agg (Array.replicate 32 (.int .u8 0))), 32, 32) := by kernel_rfl
theorem Tryz.infoWrite : (Tryz.prog.info? 130).map (fun i => (i.zero, i.size, i.bytes)) = some (some (.agg (#[.int .i64 0] ++ Array.replicate 32 (.int .u8 0))), 33, 40) := by kernel_rfl
theorem Tryz.sizeU8 : (Tryz.prog.info? 5).map (·.size) = some 1 := by kernel_rfl
theorem Tryz.sizeSector : (Tryz.prog.info? 128).map (·.size) = some 32 := by kernel_rfl
theorem Tryz.sizeWrite : (Tryz.prog.info? 130).map (·.size) = some 33 := by kernel_rfl

theorem Rd.kpA {w w' : World} {B n : Nat} {A : Option Addr} {l : List UInt8} {F : Nat → Prop} (h : Rd w B A n l) (hk : Kp F w w') (hF : ∀ ad, A = some ad → ¬ F ad.block) : Rd w' B A n l :=
  ⟨h.1, fun hn => by
    obtain ⟨b, o, e, hb, hc⟩ := h.2 hn
    exact ⟨b, o, e, hb, fun j hj => cell_kp (hc j hj) hk (hF ⟨b, o, none⟩ e)⟩⟩

/-- A literal of a write, and a row of one: by a law each, not cell by cell. -/
def bWrite (parts : Array (Nat × Value)) : Sem Value := Instr.build 130 parts
theorem bWrite_eq (parts : Array (Nat × Value)) : Instr.build 130 parts = bWrite parts := rfl
theorem run_bWrite (x : Int) (b : List UInt8) (hb : b.length = 32) (W : World) : (bWrite #[(0, .int .i64 x), (1, .agg (u8s b).toArray)]).run Tryz.prog W = .ok (.agg (Value.int .i64 x :: u8s b).toArray) W := by
  obtain ⟨it, hi, hz, hs, hb1⟩ := info_parts Tryz.infoWrite
  have h := built_pair (P := Tryz.prog) (t := 130) (s := 32) hi Tryz.underlying130 hz (by kernel_rfl) (by rfl) (.int .i64 x) rfl (.agg (u8s b).toArray) (by show (u8s b).toArray.size = 32; rw [List.size_toArray, u8s_len, hb])
  have e : (#[Value.int .i64 x] ++ (Value.agg (u8s b).toArray).cells) = (Value.int .i64 x :: u8s b).toArray := by
    show #[Value.int .i64 x] ++ (u8s b).toArray = _
    apply Array.toList_inj.1
    simp
  rw [e] at h
  exact run_build W _ _ _ h
def bWrites (parts : Array (Nat × Value)) : Sem Value := Instr.buildSlice 124 1 parts
theorem bWrites_eq (parts : Array (Nat × Value)) : Instr.buildSlice 124 1 parts = bWrites parts := rfl
theorem run_bWrites (x : Int) (b : List UInt8) (hb : b.length = 32) (W : World) : (bWrites #[(0, .agg (Value.int .i64 x :: u8s b).toArray)]).run Tryz.prog W = .ok (.slice (some ⟨W.heap.size, 0, none⟩) 1 1) (W.alloc (.cells (Value.int .i64 x :: u8s b).toArray 130)) := by
  obtain ⟨iw, hiw, hzw, hsw, hbw⟩ := info_parts Tryz.infoWrite
  exact run_buildSlice_one (P := Tryz.prog) Tryz.underlying124 hiw hzw hsw (by rfl) (by omega) (by omega) (.agg (Value.int .i64 x :: u8s b).toArray) (by show (Value.int .i64 x :: u8s b).toArray.size = 33; rw [List.size_toArray, List.length_cons, u8s_len, hb]) W
def ldSector (p : Value) : Sem Value := Instr.loadAt 128 p
theorem ldSector_eq (p : Value) : Instr.loadAt 128 p = ldSector p := rfl
theorem run_ldSector (w : World) (g o : Nat) (l : List UInt8) (hc : w.rangeAt g o (u8s l)) (hl : l.length = 32) : (ldSector (.pointer (some ⟨g, o, none⟩))).run Tryz.prog w = .ok (.agg (u8s l).toArray) w :=
  run_loadAt_mid w g o 128 (u8s l) _ hc Tryz.underlying128 rfl (by rw [Tryz.sizeSector, u8s_len, hl])
attribute [local go_sem ↓] bWrite_eq bWrites_eq ldSector_eq
attribute [local go_sem] run_bWrite run_bWrites

set_option maxRecDepth 100000 in
set_option maxHeartbeats 4000000 in
theorem write_go (g : Nat) (d : Dk) (F : Nat → Prop) (a : Nat) (A : Option Addr) (c : Nat) (b : List UInt8) (w : World) (hd : d.down = false) (ha : a < d.safe.length) (hb : b.length = 32) (hact : d.act.1 = true) (hwl : d.waits.length ≤ 1000000000)
    (hsrc : Rd w w.heap.size A 32 b) (hap : ∀ ad, A = some ad → ¬ F ad.block) (h : PD w F g d) :
    Calls Tryz.prog 98 #[.pointer (some ⟨g, 0, none⟩), .int .i64 a, .slice A 32 c] w fun e w' => e = .returned (.int .i64 0) ∧ ∃ F', PD w' F' g { d.act.2 with waits := d.waits ++ [(a, b)] } ∧ Mv F F' w w' := by
  have Hr := Lib.hid (reach_meth g d F a w h)
  have Ha := Lib.hid (act_meth g d F w hd h)
  have hre : d.reach a = 0 := by unfold Dk.reach; rw [if_neg (by simp [hd]), if_neg (by omega)]
  rw [hre] at Hr
  rw [hact] at Ha
  have hlen := h.len
  obtain ⟨e1, e2⟩ := d.act_same
  rw [← e1] at ha
  rw [← e2] at hwl ⊢
  generalize d.act.2 = d1 at *
  have Hsrc := Lib.hid hsrc
  have Hap := Lib.hid hap
  obtain ⟨ba, oa, rfl, _⟩ := hsrc.2 (by omega)
  clear h hre hsrc hap e1 e2 hd hact
  go_enter Tryz.func98, Tryz.ntmps98
  go_wp2_with fail
  refine Hr.out.mono ?_
  rintro e w' ⟨rfl, rfl⟩
  go_wp2_with fail
  refine Ha.out.mono ?_
  rintro e w1 ⟨rfl, hpd, hkp⟩
  have hsrc1 := Hsrc.out.kpA hkp Hap.out
  obtain ⟨gn, cn, gs, cs, wv, pl, hr, hrest⟩ := hpd
  have c0 : w1.cell? ⟨g, 0, none⟩ = some (.slice (some ⟨gn, 0, none⟩) d1.safe.length cn) := hr.blk.cell 0
  have HR := Lib.hid hr
  have Hrest := Lib.hid hrest
  have Hkp := Lib.hid hkp
  have Hs1 := Lib.hid hsrc1
  clear hr hrest hkp hsrc1 Hr Ha
  have hn2048 : d1.safe.length ≤ 2048 := Hrest.out.2.2.2.2.2
  have hb32 : (u8s b).length = 32 := by rw [u8s_len, hb]
  have Hb32 := Lib.hid hb32
  have Hb := Lib.hid hb
  clear hb hb32
  go_wp2_with ((refine wpList_copy_mid rfl _ _ 23 23 rfl 5 Tryz.underlying23 Tryz.sizeU8 gn (a * 32) 32 32 _ 32 c rfl rfl (u8s b) Hb32.out (Hs1.out.cells _ rfl) (own_there HR.out.rnow _ _ (by rw [Hb32.out]; omega)) (u8s_one b) ?_))
  have HR2 := Lib.hid (HR.out.layNow a b Hb.out ha)
  have Hkp2 := Lib.hid (Hkp.out.trans (Kp.sets HR.out.foot.2.1 (u8s b) (a * 32) w1))
  generalize w1.setCells gn (a * 32) (u8s b) = w2 at *
  have hna : a < (syncS d1.safe d1.waits).length := by rw [HR.out.nlen]; exact ha
  have hrange : w2.rangeAt gn (a * 32) (u8s b) := by
    have := HR2.out.nowAt a ha
    rwa [show ((syncS d1.safe d1.waits).set a b).getD a [] = b by simp [List.getD, hna]] at this
  have c0' : w2.cell? ⟨g, 0, none⟩ = some (.slice (some ⟨gn, 0, none⟩) d1.safe.length cn) := HR2.out.blk.cell 0
  have c2 : w2.cell? ⟨g, 2, none⟩ = some wv := HR2.out.blk.cell 2
  have f2 := HR2.out.blk.frozen 2
  have hu := Tryz.underlying128
  have hi : (Tryz.prog.info? 128).map (·.size) = some (u8s b).length := by rw [Tryz.sizeSector, Hb32.out]
  have hi1 := u8s_one b
  have hla : (u8s b).length = 32 := Hb32.out
  obtain ⟨iw, hiw, hzw, hsw, hbw⟩ := info_parts Tryz.infoWrite
  have hb := Hb.out
  have HC : Hid ((Value.int .i64 a :: u8s b).length = 1 * 33) := by show _ = _; rw [List.length_cons, hla]
  have HC1 : Hid (∀ u ∈ (Value.int .i64 a :: u8s b), u.oneCell' = true) := by
    intro u hu
    rcases List.mem_cons.1 hu with rfl | hu
    · rfl
    · exact u8s_one b u hu
  have HC2 : Hid (wrC (d1.waits ++ [(a, b)]) = wrC d1.waits ++ (Value.int .i64 a :: u8s b)) := by show _ = _; unfold wrC; rw [List.flatMap_append]; simp [wr1]
  have ha0 : (0 : Int) ≤ (a : Int) := by omega
  have ha1 : (a : Int) < (d1.safe.length : Int) := by omega
  have Hiw := Lib.hid hiw
  have Hzw := Lib.hid hzw
  have Hsw := Lib.hid hsw
  have Hbw := Lib.hid hbw
  clear hiw hzw hsw hbw c0 HR
  have HR3 := Lib.hid ((HR2.out.drewN 1).alloc (.cells (Value.int .i64 a :: u8s b).toArray 130))
  have Hkp3 := Lib.hid (Hkp2.out.trans ((Kp.drew F w2).trans (Kp.alloc F w2.drew (.cells (Value.int .i64 a :: u8s b).toArray 130))))
  have c2a : (w2.alloc (.cells (Value.int .i64 a :: u8s b).toArray 130)).cell? ⟨g, 2, none⟩ = some wv := HR3.out.blk.cell 2
  have hld := run_ldSector w2.drew gn (a * 32) b hrange Hb.out
  go_region_law ((refine step_append_app _ rfl _ _ 124 (by rfl) 0 130 iw _ 33 40 Tryz.underlying124 Hiw.out Hzw.out Hsw.out Hbw.out rfl wv d1.waits.length _ (by rfl) HR3.out.rwaits (some ⟨w2.heap.size, 0, none⟩) 1 1 (Value.int .i64 a :: u8s b) (by rfl) HC.out (by intro e; cases e) (new_cells _ _ _ rfl) HC1.out (by unfold maxLen; omega) (by omega) (by simp) ?_); intro v' w3 happ; (obtain ⟨Av, cv, rfl, _⟩ := own_shape happ.own); (have hk3 : Kp (fun k => wv.ownBlock = some k) _ w3 := Kp.of_row happ.grow (fun g e => e)); (have kb := HR3.out.blk.kp hk3 (fun e => (HR3.out.wne g e).1 rfl)); (have k2 := kb.cell 2); (have kf := kb.frozen 2))
  all_goals
    have ho : w3.ownsRow 0 130 33 (.slice Av (d1.waits.length + 1) cv) (d1.waits ++ [(a, b)]).length (wrC (d1.waits ++ [(a, b)])) := by
      rw [HC2.out, List.length_append]
      exact happ.own
    obtain ⟨hpr, hmv⟩ := HR3.out.setWaits hk3 ho (by
      rcases happ.block with h | h
      · exact .inl h
      · exact .inr fun k e => by rw [h] at e; injection e with e; rw [← e]; exact Nat.le_refl _) (fun x hx => by
      rcases List.mem_append.1 hx with hx | hx
      · exact HR3.out.wrow x hx
      · simp only [List.mem_singleton] at hx
        subst hx
        exact ⟨ha, Hb.out⟩)
    have hs : (syncS d1.safe d1.waits).set a b = syncS d1.safe (d1.waits ++ [(a, b)]) := by simp [syncS, List.foldl_append]
    rw [hs] at hpr
    have HF : Hid (∃ F', PD (w3.setCell ⟨g, 2, none⟩ (.slice Av (d1.waits.length + 1) cv)) F' g { d1 with waits := d1.waits ++ [(a, b)] } ∧ Mv F F' w (w3.setCell ⟨g, 2, none⟩ (.slice Av (d1.waits.length + 1) cv))) :=
      ⟨_, ⟨gn, cn, gs, cs, _, pl, hpr, Hrest.out⟩, (Mv.of Hkp3.out).trans hmv⟩
    clear happ hk3 kb k2 kf ho hpr hmv hs hld c2a c0' c2 f2 hrange HR2 HR3 Hkp2 Hkp3
    go_wp2
    go_ret
    exact ⟨rfl, HF.out⟩

set_option maxRecDepth 100000 in
/-- Where the write may not be, or the power goes. -/
theorem write_any (g : Nat) (d : Dk) (F : Nat → Prop) (a : Int) (A : Option Addr) (n c : Nat) (b : List UInt8) (w : World) (hn : n ≤ 9223372036854775807) (hwl : d.waits.length ≤ 1000000000)
    (hsrc : Rd w w.heap.size A n b) (hap : ∀ ad, A = some ad → ¬ F ad.block) (h : PD w F g d) :
    Calls Tryz.prog 98 #[.pointer (some ⟨g, 0, none⟩), .int .i64 a, .slice A n c] w fun e w' => e = .returned (.int .i64 (d.write a b).1) ∧ ∃ F', PD w' F' g (d.write a b).2 ∧ Mv F F' w w' := by
  have hl := hsrc.1
  unfold Dk.write
  have Hr := Lib.hid (reach_meth g d F a w h)
  by_cases hd : d.down = true
  · rw [if_pos hd]
    unfold Dk.reach at Hr
    rw [if_pos hd] at Hr
    have HF : Hid (∃ F', PD w F' g d ∧ Mv F F' w w) := ⟨F, h, Mv.refl F w⟩
    clear h hsrc hap hwl hl
    go_enter Tryz.func98, Tryz.ntmps98
    go_wp2_with fail
    refine Hr.out.mono ?_
    rintro e w' ⟨rfl, rfl⟩
    go_wp2
    go_ret
    exact ⟨rfl, HF.out⟩
  · have hd' : d.down = false := by simpa using hd
    rw [if_neg hd]
    by_cases ho : a < 0 ∨ (d.safe.length : Int) ≤ a
    · rw [if_pos (by rcases ho with h | h <;> simp [h])]
      unfold Dk.reach at Hr
      rw [if_neg hd, if_pos ho] at Hr
      have HF : Hid (∃ F', PD w F' g d ∧ Mv F F' w w) := ⟨F, h, Mv.refl F w⟩
      clear h hsrc hap hwl hl ho
      go_enter Tryz.func98, Tryz.ntmps98
      go_wp2_with fail
      refine Hr.out.mono ?_
      rintro e w' ⟨rfl, rfl⟩
      go_wp2
      go_ret
      exact ⟨rfl, HF.out⟩
    · have hre : d.reach a = 0 := by unfold Dk.reach; rw [if_neg hd, if_neg ho]
      rw [hre] at Hr
      by_cases h32 : n = 32
      · rw [if_neg (by omega)]
        subst h32
        obtain ⟨k, rfl⟩ := Int.eq_ofNat_of_zero_le (show 0 ≤ a by omega)
        by_cases hact : d.act.1 = true
        · rw [if_pos hact]
          exact write_go g d F k A c b w hd' (by omega) hl hact hwl hsrc hap h
        · rw [if_neg hact]
          have Ha := Lib.hid (act_meth g d F w hd' h)
          have hact' : d.act.1 = false := by simpa using hact
          rw [hact'] at Ha
          generalize d.act.2 = d1 at *
          clear h hsrc hap hwl hl ho hre hact hact'
          go_enter Tryz.func98, Tryz.ntmps98
          go_wp2_with fail
          refine Hr.out.mono ?_
          rintro e w' ⟨rfl, rfl⟩
          go_wp2_with fail
          refine Ha.out.mono ?_
          rintro e w1 ⟨rfl, hpd, hkp⟩
          have HF : Hid (∃ F', PD w1 F' g d1 ∧ Mv F F' w w1) := ⟨F, hpd, Mv.of hkp⟩
          clear hpd hkp
          go_wp2
          go_ret
          exact ⟨rfl, HF.out⟩
      · rw [if_pos (by omega)]
        have h32' : ((n : Int) != 32) = true := by simp; omega
        have HF : Hid (∃ F', PD w F' g d ∧ Mv F F' w w) := ⟨F, h, Mv.refl F w⟩
        clear h hsrc hap hwl hl ho hre
        go_enter Tryz.func98, Tryz.ntmps98
        go_wp2_with fail
        refine Hr.out.mono ?_
        rintro e w' ⟨rfl, rfl⟩
        go_wp2
        go_ret
        exact ⟨rfl, HF.out⟩
end Go.Proofs.YtfepjgafamaegaaGreat
