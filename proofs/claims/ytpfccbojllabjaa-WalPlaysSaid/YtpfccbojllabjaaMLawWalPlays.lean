/- WalPlays: whatever is appended, synced, reset, in whichever act the power goes, whatever is kept: each answer, the records, how many are safe, the room, and each sector of the disk are what the chapter says. Of every number of sectors and every row of acts: no condition. -/
import Derived.Test.YtpfccbojllabjaaMWGiven
namespace Go.Proofs.Ytpfccbojllabjaa
open Go.ChangeShapes Go.WideShapes Go.ChangeAt Go.RowKit

set_option maxRecDepth 100000 in
set_option maxHeartbeats 8000000 in
theorem walPlays_walk (s : Int) (A : Option Addr) (n c : Nat) (f : Nat → Ac4) (W : World) (hs1 : -9223372036854775808 ≤ s) (hs2 : s ≤ 9223372036854775807) (_hc : n ≤ c) (_hm : c ≤ 9223372036854775807) (hf : Acts4 W W.heap.size A n f) :
    Calls Try.prog 3 #[.int .i64 s, .slice A n c] W fun e w' => e = .returned (.bool true) ∧ Below W.heap.size W w' := by
  have Hf := Lib.hid hf
  clear hf
  by_cases hbig : 40 < s ∧ s ≤ 2048
  · obtain ⟨h1, h2⟩ := hbig
    go_enter Try.func3, Try.ntmps3
    go_wp2_with fail
    refine (known_any W).mono ?_
    rintro e w1 ⟨rfl, hb⟩
    have HB := Lib.hid hb
    clear hb
    go_wp2
    go_ret
    exact ⟨rfl, HB.out⟩
  · by_cases hbad : s < 1 ∨ 2048 < s
    · have hb1 : ¬ (40 < s ∧ s ≤ 2048) := hbig
      have hB := Lib.hid hbad
      by_cases h64 : 40 < s
      · have h2 : 2048 < s := by omega
        clear hbad hbig hb1
        go_enter Try.func3, Try.ntmps3
        go_wp2_with fail
        refine (start_bad s W hB.out).mono ?_
        rintro e w' ⟨rfl, rfl⟩
        go_wp2_with fail
        refine (known_any W).mono ?_
        rintro e w1 ⟨rfl, hb⟩
        have HB := Lib.hid hb
        clear hb
        go_wp2
        go_ret
        exact ⟨rfl, HB.out⟩
      · clear hbad hbig hb1
        go_enter Try.func3, Try.ntmps3
        go_wp2_with fail
        refine (start_bad s W hB.out).mono ?_
        rintro e w' ⟨rfl, rfl⟩
        go_wp2_with fail
        refine (known_any W).mono ?_
        rintro e w1 ⟨rfl, hb⟩
        have HB := Lib.hid hb
        clear hb
        go_wp2
        go_ret
        exact ⟨rfl, HB.out⟩
    · obtain ⟨m, rfl⟩ := Int.eq_ofNat_of_zero_le (show 0 ≤ s by omega)
      have h1 : 1 ≤ m := by omega
      have h2 : m ≤ 40 := by omega
      clear hbad hbig
      go_enter Try.func3, Try.ntmps3
      go_wp2_with fail
      refine (start_any m W h1 (by omega)).mono ?_
      rintro e w1 ⟨gp, gd, M, H, rfl, hq, hge, hb⟩
      have HR := Lib.hid (RunW.start hq hge hb)
      clear hq hge hb
      go_wp2
      go_loopg [7] n (fun k i wr => ∃ j : Nat, i = .int .i64 j ∧ j + k = n ∧ j ≤ 60 ∧ Hid (RunW W wr gp gd M j m))
      case atStart => exact ⟨0, rfl, by omega, by omega, HR⟩
      case round =>
        clear HR
        obtain ⟨j, rfl, hk, hj60, Hrun⟩ := hrel
        by_cases hj : j < n ∧ j < 60
        · obtain ⟨hj1, hj2⟩ := hj
          obtain ⟨b, o, rfl, hb, hact⟩ := (Hf.out.up Hrun.out.size) (by omega)
          obtain ⟨hok, t0, t1, t2, t3, t4⟩ := hact j hj1
          have hok0 : (f j).Ok W W.heap.size := by
            obtain ⟨b', o', e', hb', hact'⟩ := Hf.out (by omega)
            exact (hact' j hj1).1
          have HC0 := Lib.hid (heavy_any (f j).la (f j).ln (f j).lc _ (f j).list wr (by have := hok.lcap; omega) hok.list)
          have HC1 : Hid (∀ W', Below wr.heap.size wr W' → Calls Try.prog 12 #[.pointer (some ⟨gp, 0, none⟩), .agg #[.int .i64 (f j).kind, .int .i64 (f j).n, .int .u8 ((f j).fill.toNat : Int), .slice (f j).la (f j).ln (f j).lc, .slice (f j).ka (f j).kn (f j).kc]] W' fun e w' => e = .returned (.bool true) ∧ RunW W w' gp gd M (j + 1) m) := fun W' hb' => (Hrun.out.below hb').play (by omega) (f j) hok0
          have HB := Lib.hid Hrun.out.size
          have Hb := Lib.hid hb
          clear hact hok hok0 hb
          go_wp2_with fail
          refine HC0.out.mono ?_
          rintro e w2 ⟨hv, rfl, _, q, rfl⟩
          have HB2 : Hid (Below W.heap.size W (wr.drewN q)) := bel_drewN HB.out q
          have hbq : Below wr.heap.size wr (wr.drewN q) := bel_drewN (Below.refl _ _) q
          have HC2 := Lib.hid (HC1.out _ hbq)
          clear HC0 HC1 hbq
          have t1' : (wr.drewN q).cell? ⟨b, o + j * 5 + 1, none⟩ = some (.int .i64 (f j).n) := t1
          have t0' : (wr.drewN q).cell? ⟨b, o + j * 5, none⟩ = some (.int .i64 (f j).kind) := t0
          have t2' : (wr.drewN q).cell? ⟨b, o + j * 5 + 2, none⟩ = some (.int .u8 ((f j).fill.toNat : Int)) := t2
          have t3' : (wr.drewN q).cell? ⟨b, o + j * 5 + 3, none⟩ = some (.slice (f j).la (f j).ln (f j).lc) := t3
          have t4' : (wr.drewN q).cell? ⟨b, o + j * 5 + 4, none⟩ = some (.slice (f j).ka (f j).kn (f j).kc) := t4
          clear t0 t1 t2 t3 t4 HB
          cases hv with
          | true =>
            go_wp2_with fail
            refine (known_any _).mono ?_
            rintro e w3 ⟨rfl, hb3⟩
            have HF := Lib.hid (below_then HB2.out hb3)
            clear hb3
            go_wp2
            go_ret
            exact ⟨rfl, HF.out⟩
          | false =>
            by_cases hn : 1030 < (f j).n
            · go_wp2_with fail
              refine (known_any _).mono ?_
              rintro e w3 ⟨rfl, hb3⟩
              have HF := Lib.hid (below_then HB2.out hb3)
              clear hb3
              go_wp2
              go_ret
              exact ⟨rfl, HF.out⟩
            · go_wp2_with fail
              refine HC2.out.mono ?_
              rintro e w3 ⟨rfl, hr3⟩
              have HC3 := Lib.hid hr3.alike
              clear hr3 HC2
              go_wp2_with fail
              refine HC3.out.mono ?_
              rintro e w4 ⟨rfl, hr4⟩
              have HR4 := Lib.hid hr4
              clear hr4 HC3 t0' t1' t2' t3' t4'
              go_wp2
              go_roundg (gk - 1)
              case measure => omega
              case rel => exact ⟨j + 1, by go_num, by omega, by omega, HR4⟩
        · obtain ⟨d, hD, hdl, hdw⟩ := Hrun.out.disks
          have c0 := hD.cells.1
          have HC1 : Hid (∀ W1 g, Below wr.heap.size wr W1 → wr.heap.size ≤ g → RdI W1 W1.heap.size (some ⟨g, 0, none⟩) 3 [9, 32, 5] → Calls Try.prog 14 #[.pointer (some ⟨gd, 0, none⟩), .slice (some ⟨g, 0, none⟩) 3 3] W1 fun e w2 => e = .returned (.tuple #[]) ∧ RunD W w2 gp gd M (d.crash [9, 32, 5]) d) := fun W1 g hb hg hk => hD.crash (by omega) W1 hb g 3 3 _ (by omega) hg hk
          have HC2 : Hid (∀ w2, RunD W w2 gp gd M (d.crash [9, 32, 5]) d → w2.cell? ⟨gp, 2, none⟩ = some (.pointer (some ⟨M, 0, none⟩)) ∧ ∀ W1 g, Below w2.heap.size w2 W1 → w2.heap.size ≤ g → RdI W1 W1.heap.size (some ⟨g, 0, none⟩) 3 [9, 32, 5] → Calls Try.prog 15 #[.pointer (some ⟨M, 0, none⟩), .slice (some ⟨g, 0, none⟩) 3 3] W1 fun e w3 => e = .returned (.tuple #[]) ∧ RunD W w3 gp gd M (d.crash [9, 32, 5]) (d.crash [9, 32, 5])) := fun w2 h2 => ⟨h2.cells.2, fun W1 g hb hg hk => h2.rcrash (by omega) W1 hb g 3 3 _ (by omega) hg hk⟩
          clear hD hdl hdw
          have hjn : ¬ (j < n ∧ j < 60) := hj
          by_cases hjn1 : j < n
          all_goals by_cases hj5 : j < 60
          all_goals first
            | (exfalso; omega)
            | (clear hj hjn
               go_wp2_with fail
               refine (HC1.out _ _ ((Below.refl _ _).alloc (Nat.le_refl _) _) (Nat.le_refl _) ((ints3_rd wr 9 32 5 (by omega) (by omega) (by omega) _).more (by simp))).mono ?_
               rintro e w2 ⟨rfl, hr2⟩
               obtain ⟨k2, hc2⟩ := HC2.out w2 hr2
               have HC3 := Lib.hid hc2
               clear hc2 hr2 HC1 HC2
               go_wp2_with fail
               refine (HC3.out _ _ ((Below.refl _ _).alloc (Nat.le_refl _) _) (Nat.le_refl _) ((ints3_rd w2 9 32 5 (by omega) (by omega) (by omega) _).more (by simp))).mono ?_
               rintro e w3 ⟨rfl, hr3⟩
               have HR3 := Lib.hid hr3
               have hdw : (d.crash [9, 32, 5]).waits.length = 0 := rfl
               generalize d.crash [9, 32, 5] = dd at *
               have Hdw := Lib.hid hdw
               clear hr3 HC3 k2 c0 hdw
               go_wp2
               go_loopg [9] m (fun k i wr => ∃ t : Nat, i = .int .i64 t ∧ t + k = m ∧ Hid (RunD W wr gp gd M dd dd))
               case atStart => exact ⟨0, rfl, by omega, HR3⟩
               case round =>
                 clear HR3
                 obtain ⟨t, rfl, hk2, HR⟩ := hrel
                 by_cases ht : t < m
                 · have c0 := HR.out.cells.1
                   have c2 := HR.out.cells.2
                   have HQ1 := Lib.hid (HR.out.read (t : Int))
                   go_wp2_with fail
                   refine HQ1.out.mono ?_
                   rintro e w4 ⟨A4, n4, c4, r4, rfl, hrd4, hb4⟩
                   have HR4 := Lib.hid (HR.out.below hb4)
                   have c2' := HR4.out.cells.2
                   have HQ2 := Lib.hid (HR4.out.rread (by rw [Hdw.out]; omega) (t : Int))
                   have Hrd4 := Lib.hid hrd4
                   clear hrd4 hb4 HQ1 HR c0 c2
                   go_wp2_with fail
                   refine HQ2.out.mono ?_
                   rintro e w5 ⟨A5, n5, c5, r5, rfl, hrd5, hb5⟩
                   have HR5 := Lib.hid (HR4.out.below hb5)
                   have hs := same_any A4 A5 n4 n5 c4 c5 _ _ _ _ w5 (Hrd4.out.below hb5) hrd5
                   rw [beq_self_eq_true] at hs
                   have HS := Lib.hid hs
                   clear hs hrd5 hb5 HQ2 Hrd4 HR4 c2'
                   go_wp2_with fail
                   refine HS.out.mono ?_
                   rintro e w6 ⟨rfl, rfl⟩
                   clear HS
                   go_wp2
                   go_roundg (gk - 1)
                   case measure => omega
                   case rel => exact ⟨t + 1, by go_num, by omega, HR5⟩
                 · have HB := Lib.hid HR.out.size
                   clear HR
                   go_wp2_with fail
                   refine (known_any wr).mono ?_
                   rintro e w5 ⟨rfl, hb⟩
                   have HB2 := Lib.hid (HB.out.trans (hb.mono HB.out.size))
                   clear hb
                   go_wp2
                   go_ret
                   exact ⟨rfl, HB2.out⟩)
namespace walPlays
set_option maxRecDepth 100000 in
theorem lifted (os : Os) (started : os.Started) (H : Type) (enc : TypeId × Value → H) :
    ReturnsInHanded {} Try.checked os 3 .any (Rows.walPlaysSpec.pre6 enc Try.prog Try.f3 Rows.walPlaysRow.domain false) (Rows.walPlaysSpec.post enc Try.prog Try.f3 false true false false) := by
  refine law_lift started (by kernel_rfl) Try.func3
    (ChangeSpec.witness6 (enc := enc) (C := Try.checked) false ⟨#[], #[.int .i64 0, .slice none 0 0], []⟩ 8 (by kernel_rfl) (by kernel_rfl) (by kernel_rfl) (by kernel_rfl))
    rfl ?_ (by kernel_rfl) (by kernel_rfl) ?_
  · intro ds h
    match ds, h with
    | [_, _], _ => rfl
  intro W base args ds p g
  have hA := g.trod
  have hval := g.val
  rw [Try.params3] at hA hval
  obtain ⟨v0, vs0, d0, ds0, p0, q0, hargs, rfl, rfl, h0, r0⟩ := trodAll_cons hA
  obtain ⟨v1, vs1, d1, ds1, p1, q1, rfl, rfl, rfl, h1, r1⟩ := trodAll_cons r0
  obtain ⟨rfl, rfl, rfl⟩ := trodAll_nil r1
  obtain rfl : args = #[v0, v1] := by cases args; simp_all
  obtain ⟨a0, rfl, _, _, w0⟩ := open_int Try.underlying3 (hval 0 3 v0 rfl rfl) h0
  have b0 := bounds_i64 w0
  obtain ⟨A1, n1, c1, f1, rfl, hc1, hm1, hr1⟩ := given_acts4 (hval 1 22 v1 rfl rfl) h1
  exact walPlays_walk a0 A1 n1 c1 f1 W b0.1 b0.2 hc1 hm1 hr1

theorem over : Rows.walPlaysRow.holds Try.pinned (OpenSpec.ofChange Rows.walPlaysSpec) :=
  OpenClaim.holds_of_wide 3 Try.f3 rfl rfl rfl rfl rfl rfl rfl ⟨rfl, rfl, rfl, rfl, rfl⟩ rfl rfl rfl rfl rfl (by kernel_rfl) Try.func3 (by kernel_rfl)
    (of_decide_eq_true (by kernel_rfl)) (by unfold Func.isWrapper; first | (rw [if_pos (by decide +kernel)]; kernel_rfl) | (rw [if_neg (by decide +kernel)]; exact ⟨rfl, rfl⟩))
    (fun os started H enc _ => lifted os started H enc)
end walPlays

theorem WalPlays_proved : Rows.WalPlaysSaid := walPlays.over
#print axioms WalPlays_proved
end Go.Proofs.Ytpfccbojllabjaa
