/- Layer 12's laws: the chapter's example, walked. -/
import Derived.Test.YtnomddhgcdoifaaRlT
namespace Go.Proofs.Ytnomddhgcdoifaa
open Go.RowKit

theorem OL.learnK {W w : World} {F : Nat → Prop} {g : Nat} {p : Rl} (h : OL W w F g p) (s : Nat) (si : Int) (hsi : si = (s : Int)) (hs : s < 18446744073709551616) (x : UInt8) (xi : Int) (hx : xi = (x.toNat : Int)) (r : Int) (p' : Rl) (he : p.learn s [x] = (r, p')) :
    Calls Try.prog 18 #[.pointer (some ⟨g, 0, none⟩), .int .u64 si, .slice (some ⟨w.heap.size, 0, none⟩) 1 1] (w.alloc (.cells #[.int .u8 xi] 5 (1, 2))) fun e w' => e = .returned (.int .i64 r) ∧ Hid (∃ F', OL W w' F' g p' ∧ Mv F F' w w') := by
  have := h.learn1 s si hsi hs x xi hx
  rw [he] at this
  exact this
theorem OL.applyK {W w : World} {F : Nat → Prop} {g : Nat} {p : Rl} (h : OL W w F g p) (sl : Nat) (l : List UInt8) (b : Bool) (p' : Rl) (si : Int) (n : Nat) (hsi : (sl : Int) = si) (hn : l.length = n) (he : p.told = (⟨sl, l⟩, b)) (hp : p.apply = p') :
    Calls Try.prog 19 #[.pointer (some ⟨g, 0, none⟩)] w fun e w' => ∃ A c, e = .returned (.tuple #[.agg #[.int .u64 si, .slice A n c], .bool b]) ∧ Hid (w'.ownsRow w.heap.size 5 1 (.slice A n c) l.length (u8s l) ∧ OL W w' F g p' ∧ Mv F F w w') := by
  subst hsi
  have := h.apply
  rw [he, hp] at this
  refine this.mono ?_
  rintro e w' ⟨⟨A, n', c⟩, rfl, HX⟩
  obtain ⟨A', c', hs, _⟩ := own_shape HX.out.1
  injection hs with _ hs _
  dsimp only at hs
  rw [hn] at hs
  subst hs
  exact ⟨A, c, rfl, HX⟩
set_option maxHeartbeats 8000000 in
set_option maxRecDepth 100000 in
theorem known12_any (W : World) : Calls Try.prog 5 #[] W fun e w' => e = .returned (.bool true) ∧ Below W.heap.size W w' := by
  have HN := Lib.hid (ol_new W)
  have kc := conv_bytesR
  go_enter Try.func5, Try.ntmps5
  go_wp2_with fail
  refine HN.out.mono ?_
  rintro e w1 ⟨g, F, rfl, H1⟩
  have Hs := Lib.hid (H1.out.learnK 2 2 rfl (by decide) 98 98 rfl 0 kp1 kp_a)
  clear H1
  go_wp2_with fail
  refine Hs.out.mono ?_
  clear Hs
  rintro e w2 ⟨rfl, H2⟩
  obtain ⟨F2, ho2, hm2⟩ := H2.out
  have Hs := Lib.hid (ho2.applyK 0 [] false kp1 0 0 rfl rfl kp_b kp_b')
  clear H2 ho2 hm2
  go_wp2_with fail
  refine Hs.out.mono ?_
  clear Hs
  rintro e w3 ⟨A3, c3, rfl, H3⟩
  obtain ⟨w4, hw4⟩ : ∃ w4, w4 = w3.alloc (.cells #[.int .u64 0, .slice A3 0 c3] 45) := ⟨_, rfl⟩
  have hb4 : Below w3.heap.size w3 w4 := by rw [hw4]; exact bel1L _ _
  have ho4 := H3.out.2.1.below hb4
  have HW4 := Lib.hid hw4
  have Hs := Lib.hid (ho4.holes 9 (by decide))
  rw [show (9 : Int).toNat = 9 from rfl, kp_c] at Hs
  have HO4 := Lib.hid ho4
  clear H3 hb4 ho4 hw4
  go_upto_region 6 with (fail)
  rw [← HW4.out]
  clear HW4
  go_wp2_with fail
  refine Hs.out.mono ?_
  clear Hs
  rintro e w5 ⟨A5, c5, rfl, H5⟩
  have ho5 := HO4.out.below H5.out.2
  obtain ⟨R5, hR5⟩ : ∃ R, A5 = some ⟨R, 0, none⟩ := by
    rcases H5.out.1.2 with ⟨_, h0⟩ | ⟨g, cap, cur, hv, _⟩
    · cases h0
    · injection hv with hv _ _; exact ⟨g, hv⟩
  subst hR5
  have hc5 : CellA w5 F2 ⟨R5, 0, none⟩ (.int .u64 1) := ⟨by
    have := H5.out.1.cells (g := R5) rfl 0 (.int .u64 1) rfl
    rwa [Addr.add_lit] at this, fun hf => by
    have hf : F2 R5 := hf
    have h1 := (H5.out.1.lt R5 rfl).1
    have h2 := HO4.out.lt _ hf
    omega⟩
  have Hc5 := Lib.hid hc5
  have Hs := Lib.hid ho5.next
  rw [kp_d] at Hs
  have HO5 := Lib.hid ho5
  clear hc5 ho5 H5 HO4
  go_wp2_with fail
  refine Hs.out.mono ?_
  clear Hs
  rintro e w6 ⟨rfl, H6⟩
  have ho6 := HO5.out.below H6.out
  have hc6 := Hc5.out.mv (Mv.belowL H6.out)
  have Hs := Lib.hid (ho6.learnK 1 1 rfl (by decide) 97 97 rfl 0 kp2 kp_e)
  have Hc6 := Lib.hid hc6
  clear Hc5 HO5 H6 hc6 ho6
  go_wp2_with fail
  refine Hs.out.mono ?_
  clear Hs
  rintro e w7 ⟨rfl, H7⟩
  obtain ⟨F7, ho7, hm7⟩ := H7.out
  have Hc7 := Lib.hid (Hc6.out.mv hm7)
  have Hlt7 := Lib.hid ho7.lt
  have Hs := Lib.hid (ho7.applyK 1 [97] true kp3 1 1 rfl rfl kp_f kp_f')
  clear H7 ho7 hm7 Hc6
  go_wp2_with fail
  refine Hs.out.mono ?_
  clear Hs
  rintro e w8 ⟨A8, c8, rfl, H8⟩
  obtain ⟨w9, hw9⟩ : ∃ w9, w9 = w8.alloc (.cells #[.int .u64 1, .slice A8 1 c8] 45) := ⟨_, rfl⟩
  obtain ⟨b9, hb9e⟩ : ∃ b, b = w8.heap.size := ⟨_, rfl⟩
  have hb9 : Below w8.heap.size w8 w9 := by rw [hw9]; exact bel1L _ _
  have hk9 : Bk w9 b9 45 #[.int .u64 1, .slice A8 1 c8] := by rw [hw9, hb9e]; exact Bk.new w8 _ _
  have ho9 := H8.out.2.1.below hb9
  have hr9 : RdA w9 F7 (A8, 1, c8) [97] := (RdA.of_own (s := (A8, 1, c8)) H8.out.1 Hlt7.out).mv (Mv.belowL hb9)
  have hF9 : ¬ F7 b9 := fun hf => by have := H8.out.2.1.lt _ hf; omega
  have hx0 : CellA w9 F7 ⟨b9, 0, none⟩ (.int .u64 1) := ⟨hk9.cell 0, hF9⟩
  have hx1 : CellA w9 F7 ⟨b9, 1, none⟩ (.slice A8 1 c8) := ⟨hk9.cell 1, hF9⟩
  have hc9 := (Hc7.out.mv H8.out.2.2).mv (Mv.belowL hb9)
  have HW9 := Lib.hid hw9
  have HB9 := Lib.hid hb9e
  have Hk9 := Lib.hid (And.intro hr9 (And.intro hx0 (And.intro hx1 hc9)))
  have Hlt9 := Lib.hid ho9.lt
  have Hs := Lib.hid (ho9.applyK 2 [98] true kp4 2 1 rfl rfl kp_g kp_g')
  clear hb9 hk9 ho9 hr9 hF9 hx0 hx1 hc9 hw9 hb9e H8 Hc7 Hlt7
  go_upto_region 10 with (fail)
  rw [← HB9.out, ← HW9.out]
  go_wp2_with fail
  refine Hs.out.mono ?_
  clear Hs
  rintro e wa ⟨Aa, ca, rfl, Ha⟩
  obtain ⟨wb, hwb⟩ : ∃ wb, wb = wa.alloc (.cells #[.int .u64 2, .slice Aa 1 ca] 45) := ⟨_, rfl⟩
  obtain ⟨bb, hbbe⟩ : ∃ b, b = wa.heap.size := ⟨_, rfl⟩
  have hbb : Below wa.heap.size wa wb := by rw [hwb]; exact bel1L _ _
  have hkb : Bk wb bb 45 #[.int .u64 2, .slice Aa 1 ca] := by rw [hwb, hbbe]; exact Bk.new wa _ _
  have hob := Ha.out.2.1.below hbb
  have hrb : RdA wb F7 (Aa, 1, ca) [98] := (RdA.of_own (s := (Aa, 1, ca)) Ha.out.1 Hlt9.out).mv (Mv.belowL hbb)
  have hFb : ¬ F7 bb := fun hf => by have := Ha.out.2.1.lt _ hf; omega
  have hy1 : CellA wb F7 ⟨bb, 1, none⟩ (.slice Aa 1 ca) := ⟨hkb.cell 1, hFb⟩
  obtain ⟨hr9, hx0, hx1, hc9⟩ := Hk9.out
  have mvb := Ha.out.2.2.trans (Mv.belowL hbb)
  have Hkb := Lib.hid (And.intro hrb (And.intro hy1 (And.intro (hr9.mv mvb) (And.intro (hx0.mv mvb) (And.intro (hx1.mv mvb) (hc9.mv mvb))))))
  have HWb := Lib.hid hwb
  have HBb := Lib.hid hbbe
  have Hs := Lib.hid (hob.learnK 2 2 rfl (by decide) 99 99 rfl 120 kp4 kp_h)
  clear hbb hkb hob hrb hFb hy1 hwb hbbe Ha Hk9 Hlt9 hr9 hx0 hx1 hc9 mvb HW9 HB9
  go_upto_region 11 with (fail)
  rw [← HBb.out, ← HWb.out]
  go_wp2_with fail
  refine Hs.out.mono ?_
  clear Hs
  rintro e wc ⟨rfl, Hc⟩
  obtain ⟨Fc, hoc, hmc⟩ := Hc.out
  have Hs := Lib.hid (hoc.trim 1 1 rfl)
  rw [kp_i] at Hs
  have Hmc := Lib.hid hmc
  clear Hc hoc hmc HWb HBb
  go_wp2_with fail
  refine Hs.out.mono ?_
  clear Hs
  rintro e wd ⟨rfl, Hd⟩
  have Hs := Lib.hid (Hd.out.1.catch_ 2 2 rfl (by decide) 9 (by decide))
  rw [show (9 : Int).toNat = 9 from rfl, kp_j] at Hs
  go_wp2_with fail
  refine Hs.out.mono ?_
  clear Hs
  rintro e we ⟨Ae, ce, rfl, He⟩
  obtain ⟨ees, hcat, hees, hbe⟩ := He.out
  obtain ⟨Re, hRe⟩ : ∃ R, Ae = some ⟨R, 0, none⟩ := by
    rcases hcat.own.2 with ⟨_, h0⟩ | ⟨g, cap, cur, hv, _⟩
    · cases h0
    · injection hv with hv _ _; exact ⟨g, hv⟩
  subst hRe
  obtain ⟨e0, he0⟩ : ∃ e0, ees = [e0] := by
    match ees, hees with
    | [e0], _ => exact ⟨e0, rfl⟩
  subst he0
  have hslot : e0.1.slot = 2 := by
    have : [e0.1] = [(⟨2, [98]⟩ : En)] := hees
    injection this with h _
    rw [h]
  have hce : CellA we Fc ⟨Re, 0, none⟩ (.int .u64 2) := ⟨by
    have := hcat.own.cells (g := Re) rfl 0 (.int .u64 (e0.1.slot : Int)) rfl
    rw [Addr.add_lit, hslot] at this
    exact this, fun hf => by
    have hf : Fc Re := hf
    have h1 := (hcat.own.lt Re rfl).1
    have h2 := Hd.out.1.lt _ hf
    omega⟩
  have hoe := Hd.out.1.below hbe
  have mve := (Hmc.out.trans Hd.out.2).trans (Mv.belowL hbe)
  obtain ⟨hrb, hy1, hr9, hx0, hx1, hc9⟩ := Hkb.out
  have hrb' := (hrb.mv mve).rd
  have hr9' := (hr9.mv mve).rd
  have k1 : (convert 33 9 (.slice A8 1 c8)).run Try.prog we = .ok (.string ⟨#[97]⟩) we := hr9'.str Try.underlying33 Try.underlying5 Try.underlying9 c8
  have k2 : (convert 33 9 (.slice Aa 1 ca)).run Try.prog we = .ok (.string ⟨#[98]⟩) we := hrb'.str Try.underlying33 Try.underlying5 Try.underlying9 ca
  have y1 := (hy1.mv mve).1
  have x0 := (hx0.mv mve).1
  have x1 := (hx1.mv mve).1
  have h0 := (hc9.mv mve).1
  have Hs := Lib.hid (hoe.catch_ 1 1 rfl (by decide) 9 (by decide))
  rw [show (9 : Int).toNat = 9 from rfl, kp_k] at Hs
  have Hce := Lib.hid hce
  have HOe := Lib.hid hoe
  clear hce hoe mve hrb hy1 hr9 hx0 hx1 hc9 hrb' hr9' Hkb He hcat hees hbe Hd Hmc hslot
  go_wp2_with fail
  refine Hs.out.mono ?_
  clear Hs
  rintro e wf ⟨Af, cf, rfl, Hf⟩
  obtain ⟨fes, _, _, hbf⟩ := Hf.out
  have hof := HOe.out.below hbf
  have hcf := (Hce.out.mv (Mv.belowL hbf)).1
  have Hs := Lib.hid (hof.learnK 1 1 rfl (by decide) 120 120 rfl 0 kp5 kp_l)
  clear hof hbf HOe Hce k1 k2 y1 x0 x1 h0
  go_wp2_with fail
  refine Hs.out.mono ?_
  rintro e wg ⟨rfl, Hg⟩
  obtain ⟨Fg, hog, _⟩ := Hg.out
  have HB := Lib.hid hog.2.2
  clear hog
  go_wp2
  go_ret
  exact ⟨rfl, HB.out⟩
end Go.Proofs.Ytnomddhgcdoifaa
