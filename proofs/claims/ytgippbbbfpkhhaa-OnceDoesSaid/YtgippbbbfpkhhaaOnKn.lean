/- Layer 13's laws: the chapter's example, walked. -/
import Derived.Test.YtgippbbbfpkhhaaOnT
namespace Go.Proofs.Ytgippbbbfpkhhaa
open Go.RowKit Go.Maps

def kt1 : Tb := ⟨2, [⟨7, 1, true, []⟩], 1, 0⟩
def kt2 : Tb := ⟨2, [⟨7, 1, false, [97]⟩], 1, 0⟩
def kt3 : Tb := ⟨2, [⟨7, 1, false, [97]⟩], 1, 1⟩
def kt4 : Tb := ⟨2, [⟨7, 3, true, []⟩], 2, 1⟩
def kt5 : Tb := ⟨2, [⟨7, 3, true, []⟩, ⟨8, 1, true, []⟩], 3, 1⟩
theorem kb_a : (Tb.new 2).begin 7 1 = ⟨1, [], 0, kt1⟩ := by rfl
theorem kb_b : kt1.begin 7 1 = ⟨3, [], 0, kt1⟩ := by rfl
theorem kb_c : kt1.ended 7 1 [97] = (0, kt2) := by rfl
theorem kb_d : kt2.begin 7 1 = ⟨2, [97], 0, kt3⟩ := by rfl
theorem kb_e : kt3.begin 7 3 = ⟨1, [], 0, kt4⟩ := by rfl
theorem kb_f : kt4.begin 7 2 = ⟨0, [], 70, kt4⟩ := by rfl
theorem kb_g : kt4.begin 8 1 = ⟨1, [], 0, kt5⟩ := by rfl
theorem kb_h : kt5.begin 9 1 = ⟨0, [], 130, kt5⟩ := by rfl
theorem kb_i : encT (Tb.new 2) = [2, 0] := by
  unfold encT
  show Lib.uvarint 2 ++ Lib.uvarint 0 ++ [] = [2, 0]
  rw [uvarint_zero, Lib.uvarint_small (by decide)]
  rfl
/-- Begin, with numbers written out. -/
theorem OW.beginK {W w : World} {F : Nat → Prop} {g : Nat} {t : Tb} (h : OW W w F g t) (id num : Nat) (idi numi : Int) (h1 : idi = (id : Int)) (h2 : numi = (num : Int)) (hid : id < 18446744073709551616) (hnum : num < 18446744073709551616) (kind : Nat) (ki : Int) (hk : (kind : Int) = ki) (rep : List UInt8) (n : Nat) (hn : rep.length = n) (err : Int) (t' : Tb) (he : t.begin id num = ⟨kind, rep, err, t'⟩) :
    Calls Try.prog 13 #[.pointer (some ⟨g, 0, none⟩), .int .u64 idi, .int .u64 numi] w fun e w' => ∃ A c, e = .returned (.tuple #[.int .i64 ki, .slice A n c, .int .i64 err]) ∧ Hid (∃ F', OW W w' F' g t' ∧ Mv F F' w w' ∧ RdA w' F' (A, n, c) rep) := by
  subst h1 h2 hk hn
  have := h.begin id num hid hnum
  rw [he] at this
  refine this.mono ?_
  rintro e w' ⟨A, c, rfl, HX⟩
  obtain ⟨F', a, b, _, d⟩ := HX.out
  exact ⟨A, c, rfl, Lib.hid ⟨F', a, b, d⟩⟩
set_option maxHeartbeats 8000000 in
set_option maxRecDepth 100000 in
theorem known13_any (W : World) : Calls Try.prog 10 #[] W fun e w' => e = .returned (.bool true) ∧ Below W.heap.size W w' := by
  have HN := Lib.hid (ow_new 2 W (by decide))
  have kc := conv_bytesO
  go_enter Try.func10, Try.ntmps10
  go_wp2_with fail
  refine HN.out.mono ?_
  clear HN
  rintro e w1 ⟨g, F, rfl, H1⟩
  have Hs := Lib.hid (H1.out.beginK 7 1 7 1 rfl rfl (by decide) (by decide) 1 1 rfl [] 0 rfl 0 kt1 kb_a)
  clear H1
  go_wp2_with fail
  refine Hs.out.mono ?_
  clear Hs
  rintro e w2 ⟨A2, c2, rfl, H2⟩
  obtain ⟨F2, o2, -, -⟩ := H2.out
  have Hs := Lib.hid (o2.beginK 7 1 7 1 rfl rfl (by decide) (by decide) 3 3 rfl [] 0 rfl 0 kt1 kb_b)
  clear H2 o2
  go_wp2_with fail
  refine Hs.out.mono ?_
  clear Hs
  rintro e w3 ⟨A3, c3, rfl, H3⟩
  obtain ⟨F3, o3, -, -⟩ := H3.out
  have hb3 := bel1N w3 (.cells #[.int .u8 97] 5 (1, 2))
  have hr3 : RdA (w3.alloc (.cells #[.int .u8 97] 5 (1, 2))) F3 (some ⟨w3.heap.size, 0, none⟩, 1, 1) [97] := ⟨Nat.le_refl 1, (by decide : 1 ≤ maxLen), rfl, fun _ => by
    obtain ⟨b, o, e, hb, hc⟩ := (Rd.markO (w := w3) 97 97 rfl).2 (by decide)
    injection e with e
    injection e with e1 e2
    subst e1 e2
    exact ⟨_, _, rfl, fun hf => by have := o3.p.lt _ hf; omega, hb, hc⟩⟩
  have Hs := Lib.hid ((o3.below hb3).ended 7 1 (by decide) (some ⟨w3.heap.size, 0, none⟩) 1 1 [97] hr3 (by decide))
  rw [kb_c] at Hs
  clear H3 o3 hb3 hr3
  go_wp2_with fail
  refine Hs.out.mono ?_
  clear Hs
  rintro e w4 ⟨rfl, H4⟩
  obtain ⟨F4, o4, -⟩ := H4.out
  have Hs := Lib.hid (o4.beginK 7 1 7 1 rfl rfl (by decide) (by decide) 2 2 rfl [97] 1 rfl 0 kt3 kb_d)
  clear H4 o4
  go_wp2_with fail
  refine Hs.out.mono ?_
  clear Hs
  rintro e w5 ⟨A5, c5, rfl, H5⟩
  obtain ⟨F5, o5, -, r5⟩ := H5.out
  have Hr := Lib.hid r5
  have Hs := Lib.hid (o5.beginK 7 3 7 3 rfl rfl (by decide) (by decide) 1 1 rfl [] 0 rfl 0 kt4 kb_e)
  clear H5 o5 r5
  go_wp2_with fail
  refine Hs.out.mono ?_
  clear Hs
  rintro e w6 ⟨A6, c6, rfl, H6⟩
  obtain ⟨F6, o6, m6, -⟩ := H6.out
  have Hr6 := Lib.hid (Hr.out.mv m6)
  have Hs := Lib.hid (o6.beginK 7 2 7 2 rfl rfl (by decide) (by decide) 0 0 rfl [] 0 rfl 70 kt4 kb_f)
  clear H6 o6 m6 Hr
  go_wp2_with fail
  refine Hs.out.mono ?_
  clear Hs
  rintro e w7 ⟨A7, c7, rfl, H7⟩
  obtain ⟨F7, o7, m7, -⟩ := H7.out
  have Hr7 := Lib.hid (Hr6.out.mv m7)
  have Hs := Lib.hid (o7.beginK 8 1 8 1 rfl rfl (by decide) (by decide) 1 1 rfl [] 0 rfl 0 kt5 kb_g)
  clear H7 o7 m7 Hr6
  go_wp2_with fail
  refine Hs.out.mono ?_
  clear Hs
  rintro e w8 ⟨A8, c8, rfl, H8⟩
  obtain ⟨F8, o8, m8, -⟩ := H8.out
  have Hr8 := Lib.hid (Hr7.out.mv m8)
  have Hs := Lib.hid (o8.beginK 9 1 9 1 rfl rfl (by decide) (by decide) 0 0 rfl [] 0 rfl 130 kt5 kb_h)
  clear H8 o8 m8 Hr7
  go_wp2_with fail
  refine Hs.out.mono ?_
  clear Hs
  rintro e w9 ⟨A9, c9, rfl, H9⟩
  obtain ⟨F9, o9, m9, -⟩ := H9.out
  have Hr9 := Lib.hid (Hr8.out.mv m9)
  have Hs := Lib.hid (counts_any o9.p)
  rw [show kt5.nb = 3 from rfl, show kt5.na = 1 from rfl] at Hs
  have HO9 := Lib.hid o9
  clear H9 o9 m9 Hr8
  go_wp2_with fail
  refine Hs.out.mono ?_
  clear Hs
  rintro e wa ⟨rfl, Ha⟩
  have HOa := Lib.hid (HO9.out.below Ha.out)
  have Hra := Lib.hid (Hr9.out.mv (Mv.belowO Ha.out))
  have Hs := Lib.hid (ow_new 2 wa (by decide))
  clear HO9 Hr9 Ha
  go_wp2_with fail
  refine Hs.out.mono ?_
  clear Hs
  rintro e wb ⟨g2, Fb, rfl, Hb⟩
  have hrb := (Hra.out.mv (Mv.belowO Hb.out.bel)).rd
  have k1 : (convert 33 9 (.slice A5 1 c5)).run Try.prog wb = .ok (.string ⟨#[97]⟩) wb := hrb.str Try.underlying33 Try.underlying5 Try.underlying9 c5
  have Hs := Lib.hid (csave_any Hb.out.p Hb.out.ok)
  rw [kb_i] at Hs
  have HBb : Hid (Below W.heap.size W wb) := Lib.hid (below_then HOa.out.bel Hb.out.bel)
  clear hrb Hra HOa Hb
  go_wp2_with fail
  refine Hs.out.mono ?_
  clear Hs
  rintro e wc ⟨Ac, cc, rfl, Hc⟩
  have k2 : (convert 33 9 (.slice Ac 2 cc)).run Try.prog wc = .ok (.string ⟨#[2, 0]⟩) wc := (Rd.of_own Hc.out.1).str Try.underlying33 Try.underlying5 Try.underlying9 cc
  have HB := Lib.hid (below_then HBb.out Hc.out.2)
  clear Hc k1
  go_wp2
  go_ret
  exact ⟨rfl, HB.out⟩
end Go.Proofs.Ytgippbbbfpkhhaa
