/- DiskArms: just as many acts go well as it was armed with; from then on none, till a crash. Of every number and every row of acts: no condition. -/
import Derived.Test.YtmjffikdaejffaaDHeld
import Derived.Test.YtmjffikdaejffaaDActs
import Derived.Deep.RegionLaw
namespace Go.Proofs.Ytmjffikdaejffaa
open Go.ChangeShapes Go.WideShapes Go.ChangeAt Go.RowKit

theorem arm_sync {n : Int} {done : Nat} {d : Dk} (h : Armed n done d) : (¬ (0 ≤ n ∧ n ≤ done) ∧ d.sync.1 = 0 ∧ Armed n (done + 1) d.sync.2 ∧ d.sync.2.down = false) ∨ ((0 ≤ n ∧ n ≤ done) ∧ d.sync.1 = 6 ∧ Armed n done d.sync.2 ∧ d.sync.2.down = true) := by
  unfold Dk.sync
  rcases h.act with ⟨h1, h2, h3, h4⟩ | ⟨h1, h2, h3, h4⟩
  · rw [if_pos h1]
    exact .inl ⟨h2, rfl, h3, h4⟩
  · rw [if_neg (by simp [h1])]
    exact .inr ⟨h2, rfl, h3, h4⟩
theorem arm_write {n : Int} {done : Nat} {d : Dk} (h : Armed n done d) (a : Nat) (b : List UInt8) (ha : a < d.safe.length) (hb : b.length = 32) :
    (¬ (0 ≤ n ∧ n ≤ done) ∧ (d.write a b).1 = 0 ∧ Armed n (done + 1) (d.write a b).2 ∧ (d.write a b).2.down = false) ∨ ((0 ≤ n ∧ n ≤ done) ∧ (d.write a b).1 = 6 ∧ Armed n done (d.write a b).2 ∧ (d.write a b).2.down = true) := by
  unfold Dk.write
  by_cases hd : d.down = true
  · rw [if_pos hd]
    rcases h with ⟨_, _, h0⟩ | ⟨h1, h2, h3⟩
    · rw [hd] at h0; cases h0
    · rcases h3 with ⟨h0, _⟩ | ⟨_, h4⟩
      · rw [hd] at h0; cases h0
      · exact .inr ⟨⟨h1, by omega⟩, rfl, .inr ⟨h1, h2, .inr ⟨hd, h4⟩⟩, hd⟩
  · rw [if_neg hd, if_neg (by omega)]
    rcases h.act with ⟨h1, h2, h3, h4⟩ | ⟨h1, h2, h3, h4⟩
    · rw [if_pos h1]
      exact .inl ⟨h2, rfl, h3, h4⟩
    · rw [if_neg (by simp [h1])]
      exact .inr ⟨h2, rfl, h3, h4⟩
theorem write_more (d : Dk) (a : Int) (b : List UInt8) : (d.write a b).2.waits.length ≤ d.waits.length + 1 := by
  unfold Dk.write
  split
  · simp
  split
  · simp
  split
  · simp
  · simp [d.act_same.2]
theorem sync_more (d : Dk) : d.sync.2.waits.length ≤ d.waits.length := by
  unfold Dk.sync
  split
  · simp
  · simp [d.act_same.2]
theorem crash_sync (d : Dk) : (d.crash []).sync.1 = 0 := rfl

/-- int(uint(a) % 4). -/
theorem mod4 (a : Int) : ∃ k : Nat, k < 4 ∧ IntKind.i64.wrap ((IntKind.u64.wrap a).tmod 4) = (k : Int) := by
  have h : IntKind.u64.wrap a = a % 18446744073709551616 := IntKind.wrap_u64 a
  rw [h, Int.tmod_eq_emod_of_nonneg (by omega), IntKind.wrap_i64]
  exact ⟨((a % 18446744073709551616) % 4).toNat, by omega, by omega⟩

set_option maxRecDepth 100000 in
set_option maxHeartbeats 8000000 in
theorem diskArms_walk (n : Int) (A : Option Addr) (m c : Nat) (f : Nat → Ac) (W : World) (hn1 : -9223372036854775808 ≤ n) (hn2 : n ≤ 9223372036854775807) (_hc : m ≤ c) (_hm : c ≤ 9223372036854775807) (hf : Acts3 W W.heap.size A m f) :
    Calls Try.prog 6 #[.int .i64 n, .slice A m c] W fun e w' => e = .returned (.bool true) ∧ Below W.heap.size W w' := by
  have Hf := Lib.hid hf
  clear hf
  go_enter Try.func6, Try.ntmps6
  go_wp2_with fail
  refine (new_any 4 W (by omega) (by omega)).mono ?_
  rintro e w0 ⟨g, F0, rfl, hp0, hge0, hb0⟩
  have M0 : Hid (Mine W w0 F0 g (Dk.new 4)) := ⟨hp0, hge0, hb0⟩
  clear hp0 hge0 hb0
  have C0 := Lib.hid (arm_meth g (Dk.new 4) F0 n w0 hn1 hn2 M0.out.1)
  go_wp2_with fail
  refine C0.out.mono ?_
  rintro e w1 ⟨rfl, hp1, hk1⟩
  have M1 : Hid (Mine W w1 F0 g ((Dk.new 4).arm n)) := M0.out.step hp1 (Mv.of hk1)
  have A1 := Lib.hid (Armed.start (Dk.new 4) n rfl)
  clear hp1 hk1 C0 M0
  go_wp2
  go_loopg [7, 8] m (fun k x i wr => ∃ j dn : Nat, i = .int .i64 j ∧ x = .int .i64 dn ∧ j + k = m ∧ dn ≤ j ∧ j ≤ 100 ∧ Hid (∃ F d, Mine W wr F g d ∧ Armed n dn d ∧ d.safe.length = 4 ∧ d.waits.length ≤ j))
  case atStart => exact ⟨0, 0, rfl, rfl, by omega, by omega, by omega, ⟨_, _, M1.out, A1.out, rfl, by simp [Dk.arm, Dk.new]⟩⟩
  case round =>
    clear M1 A1
    obtain ⟨j, dn, rfl, rfl, hk, hdn, hj100, HR⟩ := hrel
    obtain ⟨F, d, hmine, harm, hsl, hwl⟩ := HR.out
    have HM := Lib.hid hmine
    have HA := Lib.hid harm
    have Hsl := Lib.hid hsl
    have Hwl := Lib.hid hwl
    clear hmine harm hsl hwl HR
    by_cases hj : j < m ∧ j < 100
    · obtain ⟨hj1, hj2⟩ := hj
      obtain ⟨b, o, rfl, hb, hact⟩ := (Hf.out.up HM.out.2.2) (by omega)
      obtain ⟨_, t0, t1, t2, _, _⟩ := hact j hj1
      have hbw : b < wr.heap.size := Nat.lt_of_lt_of_le hb HM.out.2.2.size
      clear hact
      by_cases hkind : (f j).kind = 1
      · rw [hkind] at t0
        clear t1 t2
        have C1 := Lib.hid (sync_any g d F wr (by have := Hwl.out; omega) HM.out.1)
        have hmore := sync_more d
        have hslen := Dk.sync_len d
        have hcase := arm_sync HA.out
        have Hmore := Lib.hid hmore
        have Hslen := Lib.hid hslen
        clear hmore hslen
        rcases hcase with ⟨q1, q2, q3, q4⟩ | ⟨q1, q2, q3, q4⟩
        · rw [q2] at C1
          have Hq3 := Lib.hid q3
          clear q2 q3
          go_wp2_with fail
          refine C1.out.mono ?_
          rintro e w2 ⟨rfl, F', hp2, hm2⟩
          have M2 : Hid (Mine W w2 F' g d.sync.2) := HM.out.step hp2 hm2
          clear hp2 hm2 C1 t0 HM
          have C3a := up_meth g d.sync.2 F' _ M2.out.1
          rw [q4] at C3a
          have C3 := Lib.hid C3a
          clear q4 C3a
          by_cases hn0 : 0 ≤ n
          all_goals
            first
              | (have hn3 : ¬ (n ≤ (dn : Int)) := (by omega)
                 have hn4 : decide (n ≤ (dn : Int)) = false := decide_eq_false hn3
                 clear q1 hn3
                 go_wp2_with fail
                 refine C3.out.mono ?_
                 rintro e w' ⟨rfl, rfl⟩
                 go_wp2
                 go_roundg (gk - 1)
                 case measure => omega
                 case rel => exact ⟨j + 1, dn + 1, by go_num, by go_num, by omega, by omega, by omega, ⟨F', _, M2.out, Hq3.out, by rw [Hslen.out]; exact Hsl.out, by have := Hmore.out; have := Hwl.out; omega⟩⟩)
              | (clear q1
                 go_wp2_with fail
                 refine C3.out.mono ?_
                 rintro e w' ⟨rfl, rfl⟩
                 go_wp2
                 go_roundg (gk - 1)
                 case measure => omega
                 case rel => exact ⟨j + 1, dn + 1, by go_num, by go_num, by omega, by omega, by omega, ⟨F', _, M2.out, Hq3.out, by rw [Hslen.out]; exact Hsl.out, by have := Hmore.out; have := Hwl.out; omega⟩⟩)
        · rw [q2] at C1
          have Hq3 := Lib.hid q3
          clear q2 q3
          go_wp2_with fail
          refine C1.out.mono ?_
          rintro e w2 ⟨rfl, F', hp2, hm2⟩
          have M2 : Hid (Mine W w2 F' g d.sync.2) := HM.out.step hp2 hm2
          clear hp2 hm2 C1 t0 HM
          have C3a := up_meth g d.sync.2 F' _ M2.out.1
          rw [q4] at C3a
          have C3 := Lib.hid C3a
          clear q4 C3a
          obtain ⟨hn0, hn3⟩ := q1
          go_wp2_with fail
          refine C3.out.mono ?_
          rintro e w' ⟨rfl, rfl⟩
          go_wp2
          go_roundg (gk - 1)
          case measure => omega
          case rel => exact ⟨j + 1, dn, by go_num, rfl, by omega, by omega, by omega, ⟨F', _, M2.out, Hq3.out, by rw [Hslen.out]; exact Hsl.out, by have := Hmore.out; have := Hwl.out; omega⟩⟩
      · obtain ⟨a4, ha4, hmod⟩ := mod4 (f j).at_
        have q9 : ((f j).kind == 1) = false := by simpa using hkind
        have hx := u8_lt (f j).fill
        have Ccell : Hid (∀ w2, Below wr.heap.size wr.drew w2 → w2.cell? ⟨b, o + j * 5 + 1, none⟩ = some (.int .i64 (f j).at_)) := fun w2 hb2 => (hb2.cell (p := ⟨b, o + j * 5 + 1, none⟩) hbw).trans t1
        have hB := rowB_len (f j).fill 32
        have C1 : Hid (∀ w2 A c, Below wr.heap.size wr.drew w2 → w2.ownsRow wr.heap.size 5 1 (.slice A 32 c) 32 (u8s (rowB (f j).fill 32)) → Calls Try.prog 15 #[.pointer (some ⟨g, 0, none⟩), .int .i64 (a4 : Int), .slice A 32 c] w2 fun e w' => e = .returned (.int .i64 (d.write a4 (rowB (f j).fill 32)).1) ∧ ∃ F', Mine W w' F' g (d.write a4 (rowB (f j).fill 32)).2) := fun w2 A c hb2 ho => by
          have hm2 : Mine W w2 F g d := (HM.out.kp (K := fun _ => False) (Kp.drew _ wr) (fun _ _ h => h) (fun _ h => h.elim)).below hb2
          have hh : Held w2 F A 32 c (rowB (f j).fill 32) := ⟨own_mono ho (Nat.zero_le _), fun k e hf => by have h1 := (ho.lt k e).1; have h2 := HM.out.1.lt k hf; omega⟩
          refine (write_any g d F a4 A 32 c _ w2 (by omega) (by have := Hwl.out; omega) hh.rd hh.ap hm2.1).mono ?_
          rintro e w' ⟨rfl, F', h1, h2⟩
          exact ⟨rfl, F', hm2.step h1 h2⟩
        have Hrow := Lib.hid (row_full (f j).fill)
        have hmore := write_more d a4 (rowB (f j).fill 32)
        have hslen := Dk.write_len d a4 (rowB (f j).fill 32)
        have hcase := arm_write HA.out a4 (rowB (f j).fill 32) (by have := Hsl.out; omega) hB
        have Hmore := Lib.hid hmore
        have Hslen := Lib.hid hslen
        have hj0 : (0 : Int) ≤ (j : Int) := by omega
        have hjm : (j : Int) < (m : Int) := by omega
        generalize rowB (f j).fill 32 = row at *
        generalize (f j).at_ = at_ at *
        generalize (f j).fill = fill at *
        have ha40 : (0 : Int) ≤ (a4 : Int) := by omega
        clear hmore hslen hB HM
        rcases hcase with ⟨q1, q2, q3, q4⟩ | ⟨q1, q2, q3, q4⟩
        · rw [q2] at C1
          have Hq3 := Lib.hid q3
          clear q2 q3
          go_wp2_with fail
          go_region_law (first | (go_simp; go_at_call 14; (refine (Hrow.out _).mono ?_; rintro e w2 ⟨Ab, cb, rfl, ho, hbl⟩; (have t1' := Ccell.out w2 hbl); (have C5 := Lib.hid (C1.out w2 Ab cb hbl ho)); clear ho hbl)) | (go_simp; go_at_call 15; (refine C5.out.mono ?_; rintro e w3 ⟨rfl, F', hm3⟩; (have M2 := Lib.hid hm3); clear hm3)))
          all_goals
            have C3a := up_meth g (d.write a4 row).2 F' _ M2.out.1
            rw [q4] at C3a
            have C3 := Lib.hid C3a
            clear q4 C3a
            by_cases hn0 : 0 ≤ n
            all_goals
              first
                | (have hn3 : ¬ (n ≤ (dn : Int)) := (by omega)
                   have hn4 : decide (n ≤ (dn : Int)) = false := decide_eq_false hn3
                   clear q1 hn3
                   go_wp2_with fail
                   refine C3.out.mono ?_
                   rintro e w' ⟨rfl, rfl⟩
                   go_wp2
                   go_roundg (gk - 1)
                   case measure => omega
                   case rel => exact ⟨j + 1, dn + 1, by go_num, by go_num, by omega, by omega, by omega, ⟨F', _, M2.out, Hq3.out, by rw [Hslen.out]; exact Hsl.out, by have := Hmore.out; have := Hwl.out; omega⟩⟩)
                | (clear q1
                   go_wp2_with fail
                   refine C3.out.mono ?_
                   rintro e w' ⟨rfl, rfl⟩
                   go_wp2
                   go_roundg (gk - 1)
                   case measure => omega
                   case rel => exact ⟨j + 1, dn + 1, by go_num, by go_num, by omega, by omega, by omega, ⟨F', _, M2.out, Hq3.out, by rw [Hslen.out]; exact Hsl.out, by have := Hmore.out; have := Hwl.out; omega⟩⟩)
        · rw [q2] at C1
          have Hq3 := Lib.hid q3
          clear q2 q3
          go_wp2_with fail
          go_region_law (first | (go_simp; go_at_call 14; (refine (Hrow.out _).mono ?_; rintro e w2 ⟨Ab, cb, rfl, ho, hbl⟩; (have t1' := Ccell.out w2 hbl); (have C5 := Lib.hid (C1.out w2 Ab cb hbl ho)); clear ho hbl)) | (go_simp; go_at_call 15; (refine C5.out.mono ?_; rintro e w3 ⟨rfl, F', hm3⟩; (have M2 := Lib.hid hm3); clear hm3)))
          all_goals
            have C3a := up_meth g (d.write a4 row).2 F' _ M2.out.1
            rw [q4] at C3a
            have C3 := Lib.hid C3a
            clear q4 C3a
            obtain ⟨hn0, hn3⟩ := q1
            go_wp2_with fail
            refine C3.out.mono ?_
            rintro e w' ⟨rfl, rfl⟩
            go_wp2
            go_roundg (gk - 1)
            case measure => omega
            case rel => exact ⟨j + 1, dn, by go_num, rfl, by omega, by omega, by omega, ⟨F', _, M2.out, Hq3.out, by rw [Hslen.out]; exact Hsl.out, by have := Hmore.out; have := Hwl.out; omega⟩⟩
    · have C2 := Lib.hid (crash_any g d F none 0 0 [] wr (by omega) (by have := Hwl.out; omega) (RdI.nil _ _ _) (fun h => by omega) HM.out.1)
      by_cases hjm : j < m
      all_goals by_cases hj5 : j < 100
      all_goals first
        | (exfalso; omega)
        | (go_wp2_with fail
           refine C2.out.mono ?_
           rintro e w2 ⟨rfl, F', hp2, hm2⟩
           have M2 : Hid (Mine W w2 F' g (d.crash [])) := HM.out.step hp2 hm2
           clear hp2 hm2 C2
           have C3a := up_meth g (d.crash []) F' w2 M2.out.1
           rw [show (d.crash []).down = false from rfl] at C3a
           have C3 := Lib.hid C3a
           have C4a := sync_any g (d.crash []) F' w2 (by show 0 ≤ 1000000000; omega) M2.out.1
           rw [crash_sync] at C4a
           have C4 := Lib.hid C4a
           clear C3a C4a
           go_wp2_with fail
           refine C3.out.mono ?_
           rintro e w' ⟨rfl, rfl⟩
           go_wp2_with fail
           refine C4.out.mono ?_
           rintro e w4 ⟨rfl, F4, hp4, hm4⟩
           have M4 : Hid (Mine W w4 F4 g (d.crash []).sync.2) := M2.out.step hp4 hm4
           clear hp4 hm4 C3 C4
           go_wp2_with fail
           refine (known_any w4).mono ?_
           rintro e w5 ⟨rfl, hb⟩
           have HB := Lib.hid (M4.out.2.2.trans (hb.mono M4.out.2.2.size))
           clear hb
           go_wp2
           go_ret
           exact ⟨rfl, HB.out⟩)
namespace diskArms
set_option maxRecDepth 100000 in
theorem lifted (os : Os) (started : os.Started) (H : Type) (enc : TypeId × Value → H) :
    ReturnsInHanded {} Try.checked os 6 .any (Rows.diskArmsSpec.pre6 enc Try.prog Try.f6 Rows.diskArmsRow.domain false) (Rows.diskArmsSpec.post enc Try.prog Try.f6 false true false false) := by
  refine law_lift started (by kernel_rfl) Try.func6
    (ChangeSpec.witness6 (enc := enc) (C := Try.checked) false ⟨#[], #[.int .i64 0, .slice none 0 0], []⟩ 8 (by kernel_rfl) (by kernel_rfl) (by kernel_rfl) (by kernel_rfl))
    rfl ?_ (by kernel_rfl) (by kernel_rfl) ?_
  · intro ds h
    match ds, h with
    | [_, _], _ => rfl
  intro W base args ds p g
  have hA := g.trod
  have hval := g.val
  rw [Try.params6] at hA hval
  obtain ⟨v0, vs0, d0, ds0, p0, q0, hargs, rfl, rfl, h0, r0⟩ := trodAll_cons hA
  obtain ⟨v1, vs1, d1, ds1, p1, q1, rfl, rfl, rfl, h1, r1⟩ := trodAll_cons r0
  obtain ⟨rfl, rfl, rfl⟩ := trodAll_nil r1
  obtain rfl : args = #[v0, v1] := by cases args; simp_all
  obtain ⟨a0, rfl, _, _, w0⟩ := open_int Try.underlying3 (hval 0 3 v0 rfl rfl) h0
  have b0 := bounds_i64 w0
  obtain ⟨A1, n1, c1, f1, rfl, hc1, hm1, hr1⟩ := given_acts3 (hval 1 22 v1 rfl rfl) h1
  exact diskArms_walk a0 A1 n1 c1 f1 W b0.1 b0.2 hc1 hm1 hr1

theorem over : Rows.diskArmsRow.holds Try.pinned (OpenSpec.ofChange Rows.diskArmsSpec) :=
  OpenClaim.holds_of_wide 6 Try.f6 rfl rfl rfl rfl rfl rfl rfl ⟨rfl, rfl, rfl, rfl, rfl⟩ rfl rfl rfl rfl rfl (by kernel_rfl) Try.func6 (by kernel_rfl)
    (of_decide_eq_true (by kernel_rfl)) (by unfold Func.isWrapper; first | (rw [if_pos (by decide +kernel)]; kernel_rfl) | (rw [if_neg (by decide +kernel)]; exact ⟨rfl, rfl⟩))
    (fun os started H enc _ => lifted os started H enc)
end diskArms

theorem DiskArms_proved : Rows.DiskArmsSaid := diskArms.over
#print axioms DiskArms_proved
end Go.Proofs.Ytmjffikdaejffaa
