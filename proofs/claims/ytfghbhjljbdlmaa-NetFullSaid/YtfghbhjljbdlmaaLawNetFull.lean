/- NetFull is true at every packet and number, if Back does as the chapter says. -/
import Derived.Test.YtfghbhjljbdlmaaNetGw
import Derived.Test.YtfghbhjljbdlmaaNetK
import Derived.Test.YtfghbhjljbdlmaaLaw
import Derived.Deep.LoopGhost
import Derived.Deep.RegionHeld3
import Derived.BigQuiet
import Derived.Deep.QuietTactic
namespace Go.Proofs.Ytfghbhjljbdlmaa
open Go.ChangeShapes Go.WideShapes Go.ChangeAt Go.RowKit

/-- Full of one packet. -/
def nfS (l : List UInt8) (k : Nat) : Nt := ⟨2, List.replicate k ⟨1, 0, l⟩, []⟩
theorem nf_node (l : List UInt8) (k : Nat) : (nfS l k).node 1 = true ∧ (nfS l k).node 0 = true ∧ (nfS l k).parted 1 0 = false := ⟨rfl, rfl, rfl⟩
theorem nf_len (l : List UInt8) (k : Nat) : (nfS l k).row.length = k := by simp [nfS]
theorem nf_send {l : List UInt8} {k : Nat} (hk : k < 256) (hl : l.length ≤ 1200) : (nfS l k).send ⟨1, 0, l⟩ = (0, nfS l (k + 1)) := by
  obtain ⟨h1, h2, h3⟩ := nf_node l k
  unfold Nt.send
  rw [nf_len]
  simp only [h1, h2, h3]
  rw [if_neg (by decide), if_neg (by omega), if_neg (by omega), if_neg (by decide)]
  unfold nfS
  rw [List.replicate_succ']
theorem nf_full {l : List UInt8} {k : Nat} (hk : 256 ≤ k) (hl : l.length ≤ 1200) : (nfS l k).send ⟨1, 0, l⟩ = (5, nfS l k) := by
  obtain ⟨h1, h2, h3⟩ := nf_node l k
  unfold Nt.send
  rw [nf_len]
  simp only [h1, h2, h3]
  rw [if_neg (by decide), if_neg (by omega), if_pos (by omega)]
theorem nf_there (l : List UInt8) (k : Nat) (a : Int) (h0 : 0 ≤ a) (h1 : a < (k : Int)) : (nfS l k).there a = true := by
  unfold Nt.there
  rw [nf_len]
  simp only [Bool.and_eq_true, decide_eq_true_eq]
  exact ⟨h0, h1⟩
theorem nf_twice (l : List UInt8) {k : Nat} (hk : 256 ≤ k) : (nfS l k).twice 0 = (false, nfS l k) := by
  unfold Nt.twice
  rw [nf_len, if_neg]
  rintro ⟨_, h⟩
  omega
theorem nf_twice2 (l : List UInt8) {k : Nat} (hk : k < 256) (h0 : 0 < k) : (nfS l k).twice 0 = (true, nfS l (k + 1)) := by
  unfold Nt.twice
  rw [nf_len, if_pos ⟨nf_there l k 0 (by omega) (by omega), hk⟩]
  have h2 : (nfS l k).at_ 0 = ⟨1, 0, l⟩ := by
    unfold Nt.at_ nfS
    cases k with
    | zero => omega
    | succ k => rfl
  rw [h2]
  unfold nfS
  rw [List.replicate_succ']
theorem nf_drop (l : List UInt8) {k : Nat} (a : Int) (h0 : 0 ≤ a) (h1 : a < (k : Int)) : (nfS l k).take a = nfS l (k - 1) := by
  unfold Nt.take
  rw [if_pos (nf_there l k a h0 h1)]
  unfold Nt.cut nfS
  simp only [List.eraseIdx_replicate]
  rw [if_pos (by omega)]

theorem nf_at (m : Int) : 0 ≤ wrap64 ((IntKind.u64.wrap m).tmod 256) ∧ wrap64 ((IntKind.u64.wrap m).tmod 256) < 256 := by
  have e : IntKind.u64.wrap m = m % 18446744073709551616 := by simp [IntKind.wrap, IntKind.bits, IntKind.signed]
  rw [e, Int.tmod_eq_emod_of_nonneg (by omega)]
  unfold wrap64
  omega

set_option maxHeartbeats 8000000 in
set_option maxRecDepth 100000 in
theorem netFull_walk (hB : BackSaid) (fr dt : Int) (l : List UInt8) (A : Option Addr) (n c : Nat) (more : Int) (w : World) (_hc : n ≤ c) (_hm : c ≤ 9223372036854775807) (hA : Rd w w.heap.size A n l) (_h1 : -9223372036854775808 ≤ more) (_h2 : more ≤ 9223372036854775807) :
    Calls Try.prog 8 #[.agg #[.int .i64 fr, .int .i64 dt, .slice A n c], .int .i64 more] w fun e w' => e = .returned (.bool true) ∧ Below w.heap.size w w' := by
  have HKn := Lib.hid (nknown_any hB)
  have HA := Lib.hid hA
  have HN : Hid (∀ w, Calls Try.prog 15 #[.int .i64 2] w fun e w' => ∃ g F, e = .returned (.tuple #[.pointer (some ⟨g, 0, none⟩), .int .i64 0]) ∧ NN w w' F g (Nt.new 2)) := by
    exact Lib.hid fun w => nn_new 2 w (by decide) (by decide)
  clear hB hA
  go_enter Try.func8, Try.ntmps8
  go_wp2_with fail
  have hb0 : Below w.heap.size w (w.alloc (.cells #[.int .i64 fr, .int .i64 dt, .slice A n c] 34)) := (Below.refl _ _).alloc (Nat.le_refl _) _
  have hk0 := Bk.new w 34 #[.int .i64 fr, .int .i64 dt, .slice A n c]
  have hr0 := (HA.out.below hb0)
  generalize w.alloc (.cells #[.int .i64 fr, .int .i64 dt, .slice A n c] 34) = w0 at *
  generalize hP : w.heap.size = P at *
  refine (HN.out w0).mono ?_
  clear HN
  rintro x w1 ⟨g, F, rfl, h1⟩
  have hz1 := h1.2.2.size
  have hz0 := hb0.size
  have hz0' := hk0.lt
  have hk1 := hk0.below h1.2.2 hk0.lt
  have d0 : w1.cell? ⟨P, 0, none⟩ = some (.int .i64 fr) := hk1.cell 0
  have d1 : w1.cell? ⟨P, 1, none⟩ = some (.int .i64 dt) := hk1.cell 1
  have d2 : w1.cell? ⟨P, 2, none⟩ = some (.slice A n c) := hk1.cell 2
  have e0 := hk1.frozen 0
  have e1 := hk1.frozen 1
  have H1 := Lib.hid h1
  have HK0 := Lib.hid hk0
  have HK1 := Lib.hid hk1
  have h1w : NN w w1 F g (Nt.new 2) := ⟨h1.1, fun k hf => by have := h1.2.1 k hf; omega, by rw [hP]; exact hb0.trans (h1.2.2.mono (by omega))⟩
  have ha1 : Apt w1 F P := ⟨hk1.lt, fun hf => by have := h1.2.1 P hf; omega⟩
  replace H1 := Lib.hid h1w
  have HA1 := Lib.hid ha1
  have HP := Lib.hid hP
  clear hk0 hk1 h1 hb0 hr0 h1w ha1 hz1 hz0 hz0' HK0
  by_cases h100 : 100 < n
  · have m1 : (100 : Int) < (n : Int) := by omega
    go_wp2_with fail
    refine (HKn.out _).mono ?_
    rintro e w2 ⟨rfl, hb2⟩
    have HB2 := Lib.hid (H1.out.2.2.trans (hb2.mono H1.out.2.2.size))
    clear hb2
    go_wp2
    go_ret
    exact ⟨rfl, HB2.out⟩
  · have m1 : ¬ (100 : Int) < (n : Int) := by omega
    have hk2 := (HK1.out.set_ 0 (.int .i64 1)).set_ 1 (.int .i64 0)
    have hk2 : Bk ((w1.setCell ⟨P, 0, none⟩ (.int .i64 1)).setCell ⟨P, 1, none⟩ (.int .i64 0)) P 34 #[.int .i64 1, .int .i64 0, .slice A n c] := hk2
    have hkS : Kp (fun k => k = P) w1 ((w1.setCell ⟨P, 0, none⟩ (.int .i64 1)).setCell ⟨P, 1, none⟩ (.int .i64 0)) := (Kp.set_ (F := fun k => k = P) (p := ⟨P, 0, none⟩) rfl _).trans (Kp.set_ (F := fun k => k = P) (p := ⟨P, 1, none⟩) rfl _)
    have hPw := HP.out
    have HL0 : Hid (∃ F, NN w ((w1.setCell ⟨P, 0, none⟩ (.int .i64 1)).setCell ⟨P, 1, none⟩ (.int .i64 0)) F g (nfS l 0) ∧ Apt ((w1.setCell ⟨P, 0, none⟩ (.int .i64 1)).setCell ⟨P, 1, none⟩ (.int .i64 0)) F P ∧ Bk ((w1.setCell ⟨P, 0, none⟩ (.int .i64 1)).setCell ⟨P, 1, none⟩ (.int .i64 0)) P 34 #[.int .i64 1, .int .i64 0, .slice A n c]) :=
      Lib.hid ⟨F, ⟨H1.out.1.kp hkS (fun k hf e => HA1.out.off (by rw [← e]; exact hf)), H1.out.2.1, H1.out.2.2.trans (hkS.below (fun k e => by omega) H1.out.2.2.size)⟩, ⟨hk2.lt, HA1.out.off⟩, hk2⟩
    have HLn := Lib.hid HA.out.1
    clear hk2 hkS hPw H1 HA1 HK1
    go_wp2_with fail
    go_loopg [7] 256 (fun q iv wr => ∃ k : Nat, iv = .int .i64 k ∧ k + q = 256 ∧ Hid (∃ F, NN w wr F g (nfS l k) ∧ Apt wr F P ∧ Bk wr P 34 #[.int .i64 1, .int .i64 0, .slice A n c]))
    case atStart => exact ⟨0, rfl, rfl, HL0⟩
    case round =>
      obtain ⟨k, rfl, hk, HL⟩ := hrel
      obtain ⟨F, hn, ha, hb⟩ := HL.out
      have d0 : wr.cell? ⟨P, 0, none⟩ = some (.int .i64 1) := hb.cell 0
      have d1 : wr.cell? ⟨P, 1, none⟩ = some (.int .i64 0) := hb.cell 1
      have d2 : wr.cell? ⟨P, 2, none⟩ = some (.slice A n c) := hb.cell 2
      have hrd : Rd wr wr.heap.size A n l := (HA.out.below (by rw [← HP.out]; exact hn.2.2)).more (by rw [← HP.out]; exact hn.2.2.size)
      have HS := hn.acted (nSend_any g ⟨1, 0, l⟩ A n c (nfS l k) F wr hrd hn.1)
      have HAp := Lib.hid ha
      have HBk := Lib.hid hb
      unfold pkV at HS
      by_cases hk2 : k < 256
      · rw [nf_send hk2 (by rw [HLn.out]; omega)] at HS
        replace HS := Lib.hid HS
        clear hn ha hb hrd HL HL0
        go_wp2_with fail
        refine HS.out.mono ?_
        rintro e w4 ⟨rfl, F4, hn4, hm4⟩
        have HL4 : Hid (∃ F, NN w w4 F g (nfS l (k + 1)) ∧ Apt w4 F P ∧ Bk w4 P 34 #[.int .i64 1, .int .i64 0, .slice A n c]) := Lib.hid ⟨F4, hn4, HAp.out.mv hm4, HBk.out.mv HAp.out hm4⟩
        clear hn4 hm4 HS HAp HBk d0 d1 d2
        go_wp2
        go_roundg (gk - 1)
        case measure => omega
        case rel => exact ⟨k + 1, by go_num, by omega, HL4⟩
      · have hk3 : k = 256 := by omega
        rw [nf_full (by omega) (by rw [HLn.out]; omega)] at HS
        replace HS := Lib.hid HS
        clear hn ha hb hrd HL HL0
        go_wp2_with fail
        refine HS.out.mono ?_
        rintro e w4 ⟨rfl, F4, hn4, hm4⟩
        have hb4 := HBk.out.mv HAp.out hm4
        have ha4 := HAp.out.mv hm4
        have HT := hn4.acted (nTwice_any g 0 (nfS l k) F4 w4 hn4.1)
        rw [nf_twice l (by omega)] at HT
        replace HT := Lib.hid HT
        have HB4 := Lib.hid hb4
        have HA4 := Lib.hid ha4
        clear hn4 hm4 hb4 ha4 HS HAp HBk d0 d1 d2
        go_wp2_with fail
        refine HT.out.mono ?_
        rintro e w5 ⟨rfl, F5, hn5, hm5⟩
        have HB5 := Lib.hid (HB4.out.mv HA4.out hm5)
        have HA5 := Lib.hid (HA4.out.mv hm5)
        have HL5 := hn5.len
        rw [nf_len] at HL5
        replace HL5 := Lib.hid HL5
        have HN5 := Lib.hid hn5
        clear HB4 HA4 HT hn5 hm5
        go_wp2_with fail
        refine HL5.out.mono ?_
        rintro e w6 ⟨rfl, rfl⟩
        clear HL5
        go_wp2_with fail
        obtain ⟨at0, at1⟩ := nf_at more
        generalize wrap64 ((IntKind.u64.wrap more).tmod 256) = at_ at *
        have HD := HN5.out.acted (nDrop_any g at_ (nfS l k) F5 w5 HN5.out.1)
        rw [nf_there l k at_ at0 (by omega), nf_drop l at_ at0 (by omega)] at HD
        replace HD := Lib.hid HD
        clear HN5
        refine HD.out.mono ?_
        rintro e w7 ⟨rfl, F7, hn7, hm7⟩
        have HB7 := Lib.hid (HB5.out.mv HA5.out hm7)
        have HA7 := Lib.hid (HA5.out.mv hm7)
        have HT := hn7.acted (nTwice_any g 0 (nfS l (k - 1)) F7 w7 hn7.1)
        rw [nf_twice2 l (by omega) (by omega)] at HT
        replace HT := Lib.hid HT
        clear HD HB5 HA5 hn7 hm7
        go_wp2_with fail
        refine HT.out.mono ?_
        rintro e w8 ⟨rfl, F8, hn8, hm8⟩
        have HB8 := Lib.hid (HB7.out.mv HA7.out hm8)
        have HA8 := Lib.hid (HA7.out.mv hm8)
        have HS := hn8.acted (nSend_any g ⟨1, 0, l⟩ A n c (nfS l (k - 1 + 1)) F8 w8 ((HA.out.below (by rw [← HP.out]; exact hn8.2.2)).more (by rw [← HP.out]; exact hn8.2.2.size)) hn8.1)
        rw [nf_full (by omega) (by rw [HLn.out]; omega)] at HS
        unfold pkV at HS
        replace HS := Lib.hid HS
        have d0 : w8.cell? ⟨P, 0, none⟩ = some (.int .i64 1) := HB8.out.cell 0
        have d1 : w8.cell? ⟨P, 1, none⟩ = some (.int .i64 0) := HB8.out.cell 1
        have d2 : w8.cell? ⟨P, 2, none⟩ = some (.slice A n c) := HB8.out.cell 2
        clear HT HB7 HA7 hn8 hm8
        go_wp2_with fail
        refine HS.out.mono ?_
        rintro e w9 ⟨rfl, F9, hn9, hm9⟩
        have Hb9 := Lib.hid hn9.2.2
        clear HS HB8 HA8 hn9 hm9 d0 d1 d2
        go_wp2_with fail
        refine (HKn.out _).mono ?_
        rintro e w10 ⟨rfl, hb10⟩
        have Hb10 := Lib.hid (Hb9.out.trans (hb10.mono Hb9.out.size))
        clear hb10
        go_wp2
        go_ret
        exact ⟨rfl, Hb10.out⟩

namespace netFull
set_option maxRecDepth 100000 in
theorem lifted (os : Os) (started : os.Started) (H : Type) (enc : TypeId × Value → H) :
    ReturnsInHanded {} Try.checked os 8 .any (Rows.netFullSpec.pre6 enc Try.prog Try.f8 Rows.netFullRow.domain false) (Rows.netFullSpec.post enc Try.prog Try.f8 false true false false) := by
  refine law_lift started (by kernel_rfl) Try.func8
    (ChangeSpec.witness6 (enc := enc) (C := Try.checked) false ⟨#[], #[.agg #[.int .i64 0, .int .i64 0, .slice none 0 0], .int .i64 0], []⟩ 8 (by kernel_rfl) (by kernel_rfl) (by kernel_rfl) (by kernel_rfl))
    rfl ?_ (by kernel_rfl) (by kernel_rfl) ?_
  · intro ds h
    match ds, h with
    | [_, _], _ => rfl
  intro W base args ds p g
  have hA := g.trod
  have hval := g.val
  rw [Try.params8] at hA hval
  obtain ⟨v0, vs0, d0, ds0, p0, q0, hargs, rfl, rfl, h0, r0⟩ := trodAll_cons hA
  obtain ⟨v1, vs1, d1, ds1, p1, q1, rfl, rfl, rfl, h1, r1⟩ := trodAll_cons r0
  obtain ⟨rfl, rfl, rfl⟩ := trodAll_nil r1
  obtain rfl : args = #[v0, v1] := by cases args; simp_all
  obtain ⟨x0, hx0, rfl⟩ := given_pk (hval 0 34 v0 rfl rfl) h0
  obtain ⟨a1, rfl, _, _, w1⟩ := open_int Try.underlying3 (hval 1 3 v1 rfl rfl) h1
  have b1 := bounds_i64 w1
  exact netFull_walk back_said x0.p.frm x0.p.dst x0.p.body x0.A x0.n x0.c a1 W hx0.cap.1 hx0.cap.2 hx0.body b1.1 b1.2

theorem over : Rows.netFullRow.holds Try.pinned (OpenSpec.ofChange Rows.netFullSpec) :=
  OpenClaim.holds_of_wide 8 Try.f8 rfl rfl rfl rfl rfl rfl rfl ⟨rfl, rfl, rfl, rfl, rfl⟩ rfl rfl rfl rfl rfl (by kernel_rfl) Try.func8 (by kernel_rfl)
    (of_decide_eq_true (by kernel_rfl)) (by unfold Func.isWrapper; first | (rw [if_pos (by decide +kernel)]; kernel_rfl) | (rw [if_neg (by decide +kernel)]; exact ⟨rfl, rfl⟩))
    (fun os started H enc _ => lifted os started H enc)
end netFull

theorem NetFull_proved : Rows.NetFullSaid := netFull.over
#print axioms NetFull_proved
end Go.Proofs.Ytfghbhjljbdlmaa
