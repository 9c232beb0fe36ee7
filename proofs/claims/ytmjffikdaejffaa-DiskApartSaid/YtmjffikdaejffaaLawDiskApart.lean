/- DiskApart: what becomes of a clone changes nothing of the disk; what is read is the reader's own; a disk that is not there answers so. Of every two rows of acts: no condition. -/
import Derived.Test.YtmjffikdaejffaaDSep
namespace Go.Proofs.Ytmjffikdaejffaa
open Go.ChangeShapes Go.WideShapes Go.ChangeAt Go.RowKit

set_option maxRecDepth 100000 in
set_option maxHeartbeats 8000000 in
theorem diskApart_walk (A : Option Addr) (n c : Nat) (f : Nat → Ac) (A2 : Option Addr) (n2 c2 : Nat) (f2 : Nat → Ac) (W : World) (_hc : n ≤ c) (_hm : c ≤ 9223372036854775807) (hf : Acts3 W W.heap.size A n f) (_hc2 : n2 ≤ c2) (_hm2 : c2 ≤ 9223372036854775807) (hf2 : Acts3 W W.heap.size A2 n2 f2) :
    Calls Try.prog 7 #[.slice A n c, .slice A2 n2 c2] W fun e w' => e = .returned (.bool true) ∧ Below W.heap.size W w' := by
  have Hf := Lib.hid hf
  have Hf2 := Lib.hid hf2
  clear hf hf2
  go_enter Try.func7, Try.ntmps7
  go_wp2_with fail
  refine (new_any 4 W (by omega) (by omega)).mono ?_
  rintro e w1 ⟨g, F, rfl, hp1, hge1, hb1⟩
  go_wp2_with fail
  refine (rnew_any 4 w1 (by omega) (by omega)).mono ?_
  rintro e w2 ⟨M, G, rfl, hr2, hge2, hb2⟩
  have HR := Lib.hid (Run.start hp1 hge1 hb1 hr2 hge2 hb2 rfl)
  clear hp1 hge1 hb1 hr2 hge2 hb2
  go_wp2
  go_loopg [9] n (fun k i wr => ∃ j : Nat, i = .int .i64 j ∧ j + k = n ∧ j ≤ 60 ∧ Hid (∃ d, Run W wr g M j d))
  case atStart => exact ⟨0, rfl, by omega, by omega, ⟨_, HR.out⟩⟩
  case round =>
    clear HR
    obtain ⟨j, rfl, hk, hj60, HR⟩ := hrel
    obtain ⟨d, hrun⟩ := HR.out
    have Hrun := Lib.hid hrun
    clear hrun HR
    by_cases hj : j < n ∧ j < 60
    · obtain ⟨hj1, hj2⟩ := hj
      obtain ⟨b, o, rfl, hb, hact⟩ := (Hf.out.up Hrun.out.size) (by omega)
      obtain ⟨hok, t0, t1, t2, t3, t4⟩ := hact j hj1
      have hok0 : (f j).Ok W W.heap.size := by
        obtain ⟨b', o', e', hb', hact'⟩ := Hf.out (by omega)
        exact (hact' j hj1).1
      have HC1 := Lib.hid (Hrun.out.play (by omega) (f j) hok0)
      clear hact hok hok0 hb
      go_wp2_with fail
      refine HC1.out.mono ?_
      rintro e w3 ⟨rfl, hrun⟩
      have Hrun3 := Lib.hid hrun
      clear hrun HC1 Hrun t0 t1 t2 t3 t4
      go_wp2
      go_roundg (gk - 1)
      case measure => omega
      case rel => exact ⟨j + 1, by go_num, by omega, by omega, ⟨_, Hrun3.out⟩⟩
    · have HC := Lib.hid (Hrun.out.clone (by omega))
      by_cases hjn : j < n
      all_goals try have hj5 : ¬ (j < 60) := by omega
      all_goals
          (go_wp2_with fail
           refine HC.out.mono ?_
           rintro e w3 ⟨gc, rfl, hs⟩
           have HS := Lib.hid hs
           clear hs HC Hrun
           go_wp2
           go_loopg [12] n2 (fun k i wr => ∃ q : Nat, i = .int .i64 q ∧ q + k = n2 ∧ q ≤ 60 ∧ Hid (Sep W wr g M j d gc (j + q)))
           case atStart => exact ⟨0, rfl, by omega, by omega, HS.out⟩
           case round =>
             clear HS hjn hj
             obtain ⟨q, rfl, hk2, hq60, HS⟩ := hrel
             by_cases hq : q < n2 ∧ q < 60
             · obtain ⟨hq1, hq2⟩ := hq
               have HC := Lib.hid (HS.out.clone (by omega))
               go_wp2_with fail
               refine HC.out.mono ?_
               rintro e w4 ⟨M2, rfl, hs⟩
               have HS4 := Lib.hid hs
               have hbel : Below W.heap.size W w4 := by
                 obtain ⟨_, _, _, _, _, _, h, _⟩ := hs
                 exact h
               obtain ⟨b, o, rfl, hb, hact⟩ := (Hf2.out.up hbel) (by omega)
               obtain ⟨hok, t0, t1, t2, t3, t4⟩ := hact q hq1
               have hok0 : (f2 q).Ok W W.heap.size := by
                 obtain ⟨b', o', e', hb', hact'⟩ := Hf2.out (by omega)
                 exact (hact' q hq1).1
               have HC1 := Lib.hid (HS4.out.play (by omega) (by omega) (f2 q) hok0)
               clear hact hok hok0 hb hbel hs HC HS
               go_wp2_with fail
               refine HC1.out.mono ?_
               rintro e w5 ⟨bb, rfl, hs⟩
               have HS5 := Lib.hid hs
               clear hs HC1 HS4 t0 t1 t2 t3 t4
               go_wp2
               go_roundg (gk - 1)
               case measure => omega
               case rel => exact ⟨q + 1, by go_num, by omega, by omega, HS5.out⟩
             · have HR0 := Lib.hid HS.out.run
               clear HS
               by_cases hqn : q < n2
               all_goals try have hq5 : ¬ (q < 60) := by omega
               all_goals
                   (obtain ⟨w6, hw6⟩ : ∃ w6, w6 = wr := ⟨_, rfl⟩
                    subst hw6
                    go_wp2
                    go_loopg [14, 15] 4 (fun k v i wv => ∃ (t : Nat) (vals : List Value), i = .int .i64 t ∧ t + k = 4 ∧ vals.length = t ∧ Hid (∃ ls, Told2 w6 wv v vals ls))
                    case atStart => exact ⟨0, [], rfl, rfl, rfl, ⟨[], Told2.nil _⟩⟩
                    case round =>
                      clear hqn hq hk2 hk
                      obtain ⟨t, vals, rfl, hk3, hvl, HT⟩ := hrel
                      obtain ⟨ls, ht⟩ := HT.out
                      have T0 := Lib.hid ht
                      clear ht HT
                      by_cases htt : t < 4
                      · have CR := Lib.hid ((HR0.out.below T0.out.bel).read (t : Int))
                        obtain ⟨i0, hi0, hz0, hz1, hz2⟩ := info_parts Try.infoBytesT
                        have Hi0 := Lib.hid hi0
                        have Hz0 := Lib.hid hz0
                        have Hz1 := Lib.hid hz1
                        have Hz2 := Lib.hid hz2
                        clear hi0 hz0 hz1 hz2
                        go_wp2_with fail
                        refine CR.out.mono ?_
                        rintro e w7 ⟨Ar, cr, z, l, rfl, ho, hb, hl⟩
                        have hal := (Below.refl w7.heap.size w7).alloc (Nat.le_refl _) (.cells #[.slice Ar l.length cr] 37)
                        have HROW := Lib.hid (own_below (own_below T0.out.row hb fun k e => (T0.out.row.lt k e).2) hal fun k e => Nat.lt_of_lt_of_le (T0.out.row.lt k e).2 hb.size)
                        have Hsz : Hid (w6.heap.size ≤ w7.heap.size) := Nat.le_trans T0.out.bel.size hb.size
                        have Ho := Lib.hid ho
                        have Hb := Lib.hid hb
                        have Hal := Lib.hid hal
                        clear ho hb hal CR
                        go_wp2_with (at_builtin; go_loud (refine wpList_append_app _ rfl _ _ 42 rfl w6.heap.size 37 i0 (.slice none 0 0) 1 24 Try.underlying42 Hi0.out Hz0.out Hz1.out Hz2.out rfl _ vals.length vals rfl HROW.out (some ⟨w7.heap.size, 0, none⟩) 1 1 [Value.slice Ar l.length cr] rfl rfl (by intro h; cases h) (cell_new1 _ _ _) (by intro u hu; simp at hu; subst hu; rfl) (by unfold maxLen; omega) (by omega) (by have := Hsz.out; simp; omega) ?_))
                        intro v5 w8 ha
                        have T5 := Lib.hid (Told2.push T0.out Ho.out Hb.out hl Hal.out (by rw [hvl]; exact ha))
                        clear ha HROW Ho Hb Hal T0
                        go_wp2
                        go_roundg (gk - 1)
                        case measure => omega
                        case rel => exact ⟨t + 1, _, by go_num, by omega, by rw [List.length_append, hvl]; rfl, ⟨_, T5.out⟩⟩
                      · have ht4 : t = 4 := by omega
                        subst ht4
                        obtain ⟨At, ct, hv, hco⟩ := T0.out.own hvl (by omega)
                        have CO := Lib.hid hco
                        subst hv
                        have HT0 := Lib.hid T0.out.bel
                        clear hco T0 hvl hk3 htt
                        go_wp2_with fail
                        refine CO.out.mono ?_
                        rintro e w7 ⟨rfl, hb⟩
                        have HR7 := Lib.hid (HR0.out.below (HT0.out.trans hb))
                        clear hb CO HT0 HR0
                        go_wp2
                        go_loopg [19] 4 (fun k i wv => ∃ (t : Nat), i = .int .i64 t ∧ t + k = 4 ∧ Hid (Run W wv g M j d))
                        case atStart => exact ⟨0, rfl, rfl, HR7.out⟩
                        case round =>
                          clear HR7
                          obtain ⟨t, rfl, hk4, HR8⟩ := hrel
                          by_cases htt : t < 4
                          · have HC2 := Lib.hid (HR8.out.alike (by omega) (t : Int))
                            clear HR8
                            go_wp2_with fail
                            refine HC2.out.mono ?_
                            rintro e w9 ⟨rfl, hrun⟩
                            have Hrun9 := Lib.hid hrun
                            clear hrun HC2
                            go_wp2
                            go_roundg (gk - 1)
                            case measure => omega
                            case rel => exact ⟨t + 1, by go_num, by omega, Hrun9.out⟩
                          · have HB := Lib.hid HR8.out.size
                            clear HR8
                            go_wp2_with fail
                            refine (read_nil _ _).mono ?_
                            rintro e w' ⟨rfl, rfl⟩
                            go_wp2_with fail
                            refine (arm_nil _ _).mono ?_
                            rintro e w' ⟨rfl, rfl⟩
                            go_wp2_with fail
                            refine (crash_nil _ _ _ _).mono ?_
                            rintro e w' ⟨rfl, rfl⟩
                            go_wp2_with fail
                            refine (write_nil _ _ _ _ _).mono ?_
                            rintro e w' ⟨rfl, rfl⟩
                            go_wp2_with fail
                            refine (sync_nil _).mono ?_
                            rintro e w' ⟨rfl, rfl⟩
                            go_wp2_with fail
                            refine (up_nil _).mono ?_
                            rintro e w' ⟨rfl, rfl⟩
                            go_wp2_with fail
                            refine (waiting_nil _).mono ?_
                            rintro e w' ⟨rfl, rfl⟩
                            go_wp2_with fail
                            refine (sectors_nil _).mono ?_
                            rintro e w' ⟨rfl, rfl⟩
                            go_wp2_with fail
                            refine (clone_nil _).mono ?_
                            rintro e w' ⟨rfl, rfl⟩
                            go_wp2_with fail
                            refine (known_any _).mono ?_
                            rintro e w10 ⟨rfl, hb⟩
                            have HB2 := Lib.hid (HB.out.trans (hb.mono HB.out.size))
                            clear hb
                            go_wp2
                            go_ret
                            exact ⟨rfl, HB2.out⟩))
namespace diskApart
set_option maxRecDepth 100000 in
theorem lifted (os : Os) (started : os.Started) (H : Type) (enc : TypeId × Value → H) :
    ReturnsInHanded {} Try.checked os 7 .any (Rows.diskApartSpec.pre6 enc Try.prog Try.f7 Rows.diskApartRow.domain false) (Rows.diskApartSpec.post enc Try.prog Try.f7 false true false false) := by
  refine law_lift started (by kernel_rfl) Try.func7
    (ChangeSpec.witness6 (enc := enc) (C := Try.checked) false ⟨#[], #[.slice none 0 0, .slice none 0 0], []⟩ 8 (by kernel_rfl) (by kernel_rfl) (by kernel_rfl) (by kernel_rfl))
    rfl ?_ (by kernel_rfl) (by kernel_rfl) ?_
  · intro ds h
    match ds, h with
    | [_, _], _ => rfl
  intro W base args ds p g
  have hA := g.trod
  have hval := g.val
  rw [Try.params7] at hA hval
  obtain ⟨v0, vs0, d0, ds0, p0, q0, hargs, rfl, rfl, h0, r0⟩ := trodAll_cons hA
  obtain ⟨v1, vs1, d1, ds1, p1, q1, rfl, rfl, rfl, h1, r1⟩ := trodAll_cons r0
  obtain ⟨rfl, rfl, rfl⟩ := trodAll_nil r1
  obtain rfl : args = #[v0, v1] := by cases args; simp_all
  obtain ⟨A0, n0, c0, f0, rfl, hc0, hm0, hr0⟩ := given_acts3 (hval 0 22 v0 rfl rfl) h0
  obtain ⟨A1, n1, c1, f1, rfl, hc1, hm1, hr1⟩ := given_acts3 (hval 1 22 v1 rfl rfl) h1
  exact diskApart_walk A0 n0 c0 f0 A1 n1 c1 f1 W hc0 hm0 hr0 hc1 hm1 hr1

theorem over : Rows.diskApartRow.holds Try.pinned (OpenSpec.ofChange Rows.diskApartSpec) :=
  OpenClaim.holds_of_wide 7 Try.f7 rfl rfl rfl rfl rfl rfl rfl ⟨rfl, rfl, rfl, rfl, rfl⟩ rfl rfl rfl rfl rfl (by kernel_rfl) Try.func7 (by kernel_rfl)
    (of_decide_eq_true (by kernel_rfl)) (by unfold Func.isWrapper; first | (rw [if_pos (by decide +kernel)]; kernel_rfl) | (rw [if_neg (by decide +kernel)]; exact ⟨rfl, rfl⟩))
    (fun os started H enc _ => lifted os started H enc)
end diskApart

theorem DiskApart_proved : Rows.DiskApartSaid := diskApart.over
#print axioms DiskApart_proved
end Go.Proofs.Ytmjffikdaejffaa
