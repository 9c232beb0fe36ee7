/- DiskPlays: whatever is written, synced, armed, and kept when the power goes, each answer is what the chapter says, and so is each sector at the end. Of every number of sectors and every row of acts: no condition. -/
import Derived.Test.YtmjffikdaejffaaDAlike
import Derived.Test.YtmjffikdaejffaaDKnown
namespace Go.Proofs.Ytmjffikdaejffaa
open Go.ChangeShapes Go.WideShapes Go.ChangeAt Go.RowKit

theorem write_waits (d : Dk) (a : Int) (b : List UInt8) : (d.write a b).2.waits.length ≤ d.waits.length + 1 := by
  unfold Dk.write
  split
  · simp
  split
  · simp
  split
  · simp
  · simp [d.act_same.2]
theorem sync_waits (d : Dk) : d.sync.2.waits.length ≤ d.waits.length := by
  unfold Dk.sync
  split
  · simp
  · simp [d.act_same.2]
theorem play_waits (d : Dk) (x : Ac) : (d.play x).waits.length ≤ d.waits.length + 1 := by
  unfold Dk.play
  split
  · exact write_waits _ _ _
  split
  · have := sync_waits d; omega
  split
  · simp [Dk.arm]
  split
  · simp [Dk.crash]
  · omega
theorem play_len (d : Dk) (x : Ac) : (d.play x).safe.length = d.safe.length := by
  unfold Dk.play
  split
  · exact Dk.write_len _ _ _
  split
  · exact Dk.sync_len _
  split
  · rfl
  split
  · exact Dk.crash_len _ _
  · rfl

/-- What holds between the rounds of a law that plays both disks. -/
def Run (W w : World) (g M i : Nat) (d : Dk) : Prop := ∃ H, Both w H g M d ∧ (∀ k, H k → W.heap.size ≤ k) ∧ Below W.heap.size W w ∧ d.waits.length ≤ i
theorem Run.size {W w : World} {g M i : Nat} {d : Dk} (h : Run W w g M i d) : Below W.heap.size W w := by
  obtain ⟨H, _, _, h, _⟩ := h
  exact h
theorem Run.below {W w w' : World} {g M i : Nat} {d : Dk} (h : Run W w g M i d) (hb : Below w.heap.size w w') : Run W w' g M i d := by
  obtain ⟨H, h1, h2, h3, h4⟩ := h
  exact ⟨H, h1.below hb, h2, h3.trans (hb.mono h3.size), h4⟩
theorem Run.play {W w : World} {g M i : Nat} {d : Dk} (h : Run W w g M i d) (hi : i ≤ 1000000) (x : Ac) (hx : x.Ok W W.heap.size) :
    Calls Try.prog 12 #[.pointer (some ⟨g, 0, none⟩), .pointer (some ⟨M, 0, none⟩), .agg #[.int .i64 x.kind, .int .i64 x.at_, .int .u8 (x.fill.toNat : Int), .int .i64 x.n, .slice x.ka x.kn x.kc]] w fun e w' => e = .returned (.bool true) ∧ Run W w' g M (i + 1) (d.play x) := by
  obtain ⟨H, h1, h2, h3, h4⟩ := h
  refine (play_any g M d H x w W.heap.size (by omega) (hx.below h3) h3.size h2 h1).mono ?_
  rintro e w' ⟨rfl, H', k1, k2⟩
  exact ⟨rfl, H', k1, k2.ge h3.size h2, h3.trans (k2.kp.below h2 h3.size), by have := play_waits d x; omega⟩
theorem Run.alike {W w : World} {g M i : Nat} {d : Dk} (h : Run W w g M i d) (hi : i ≤ 1000000) (a : Int) :
    Calls Try.prog 13 #[.pointer (some ⟨g, 0, none⟩), .pointer (some ⟨M, 0, none⟩), .int .i64 a] w fun e w' => e = .returned (.bool true) ∧ Run W w' g M i d := by
  have h0 := h
  obtain ⟨H, h1, h2, h3, h4⟩ := h
  refine (alike_any g M d H a w (by omega) h1).mono ?_
  rintro e w' ⟨rfl, hb⟩
  exact ⟨rfl, h0.below hb⟩
theorem Run.start {W w1 w2 : World} {g M : Nat} {d : Dk} {F G : Nat → Prop} (h1 : PD w1 F g d) (f1 : ∀ k, F k → W.heap.size ≤ k) (b1 : Below W.heap.size W w1) (h2 : RD w2 G M d) (f2 : ∀ k, G k → w1.heap.size ≤ k) (b2 : Below w1.heap.size w1 w2) (hd : d.waits.length = 0) : Run W w2 g M 0 d :=
  ⟨fun k => F k ∨ G k, ⟨F, G, h1.below b2, h2, fun k hf hg => by have := h1.lt k hf; have := f2 k hg; omega, fun k h => .inl h, fun k h => .inr h, by
    rintro k (h | h)
    · exact Nat.lt_of_lt_of_le (h1.lt k h) b2.size
    · exact h2.lt k h⟩, by
    rintro k (h | h)
    · exact f1 k h
    · have := f2 k h; have := b1.size; omega, b1.trans (b2.mono b1.size), by omega⟩

set_option maxRecDepth 100000 in
set_option maxHeartbeats 4000000 in
theorem diskPlays_walk (s : Int) (A : Option Addr) (n c : Nat) (f : Nat → Ac) (W : World) (hs1 : -9223372036854775808 ≤ s) (hs2 : s ≤ 9223372036854775807) (_hc : n ≤ c) (_hm : c ≤ 9223372036854775807) (hf : Acts3 W W.heap.size A n f) :
    Calls Try.prog 3 #[.int .i64 s, .slice A n c] W fun e w' => e = .returned (.bool true) ∧ Below W.heap.size W w' := by
  have Hf := Lib.hid hf
  clear hf
  by_cases hbig : 64 < s ∧ s ≤ 2048
  · obtain ⟨h1, h2⟩ := hbig
    go_enter Try.func3, Try.ntmps3
    go_wp2_with fail
    refine (known_any W).mono ?_
    rintro e w1 ⟨rfl, hb⟩
    have HB := Lib.hid hb
    clear hb
    go_wp2
    go_ret
    exact ⟨rfl, HB.out⟩
  · by_cases hbad : s < 1 ∨ 2048 < s
    · have hb1 : ¬ (64 < s ∧ s ≤ 2048) := hbig
      have hB := Lib.hid hbad
      by_cases h64 : 64 < s
      · have h2 : 2048 < s := by omega
        clear hbad hbig hb1
        go_enter Try.func3, Try.ntmps3
        go_wp2_with fail
        refine (new_bad s W hB.out).mono ?_
        rintro e w' ⟨rfl, rfl⟩
        go_wp2_with fail
        refine (rnew_bad s W hB.out).mono ?_
        rintro e w' ⟨rfl, rfl⟩
        go_wp2_with fail
        refine (known_any W).mono ?_
        rintro e w1 ⟨rfl, hb⟩
        have HB := Lib.hid hb
        clear hb
        go_wp2
        go_ret
        exact ⟨rfl, HB.out⟩
      · clear hbad hbig hb1
        go_enter Try.func3, Try.ntmps3
        go_wp2_with fail
        refine (new_bad s W hB.out).mono ?_
        rintro e w' ⟨rfl, rfl⟩
        go_wp2_with fail
        refine (rnew_bad s W hB.out).mono ?_
        rintro e w' ⟨rfl, rfl⟩
        go_wp2_with fail
        refine (known_any W).mono ?_
        rintro e w1 ⟨rfl, hb⟩
        have HB := Lib.hid hb
        clear hb
        go_wp2
        go_ret
        exact ⟨rfl, HB.out⟩
    · obtain ⟨m, rfl⟩ := Int.eq_ofNat_of_zero_le (show 0 ≤ s by omega)
      have h1 : 1 ≤ m := by omega
      have h2 : m ≤ 64 := by omega
      clear hbad hbig
      go_enter Try.func3, Try.ntmps3
      go_wp2_with fail
      refine (new_any m W h1 (by omega)).mono ?_
      rintro e w1 ⟨g, F, rfl, hp1, hge1, hb1⟩
      go_wp2_with fail
      refine (rnew_any m w1 h1 (by omega)).mono ?_
      rintro e w2 ⟨M, G, rfl, hr2, hge2, hb2⟩
      have HR := Lib.hid (Run.start hp1 hge1 hb1 hr2 hge2 hb2 rfl)
      clear hp1 hge1 hb1 hr2 hge2 hb2
      go_wp2
      go_loopg [9] n (fun k i wr => ∃ j : Nat, i = .int .i64 j ∧ j + k = n ∧ j ≤ 150 ∧ Hid (∃ d, Run W wr g M j d))
      case atStart => exact ⟨0, rfl, by omega, by omega, ⟨_, HR.out⟩⟩
      case round =>
        clear HR
        obtain ⟨j, rfl, hk, hj150, HR⟩ := hrel
        obtain ⟨d, hrun⟩ := HR.out
        have Hrun := Lib.hid hrun
        clear hrun HR
        by_cases hj : j < n ∧ j < 150
        · obtain ⟨hj1, hj2⟩ := hj
          obtain ⟨b, o, rfl, hb, hact⟩ := (Hf.out.up Hrun.out.size) (by omega)
          obtain ⟨hok, t0, t1, t2, t3, t4⟩ := hact j hj1
          have hok0 : (f j).Ok W W.heap.size := by
            obtain ⟨b', o', e', hb', hact'⟩ := Hf.out (by omega)
            exact (hact' j hj1).1
          have HC1 := Lib.hid (Hrun.out.play (by omega) (f j) hok0)
          have Hb := Lib.hid hb
          clear hact hok hok0 hb
          go_wp2_with fail
          refine HC1.out.mono ?_
          rintro e w3 ⟨rfl, hrun⟩
          have Hrun3 := Lib.hid hrun
          have HC2 := Lib.hid (hrun.alike (by omega) (f j).at_)
          clear hrun HC1
          have t1' : w3.cell? ⟨b, o + j * 5 + 1, none⟩ = some (.int .i64 (f j).at_) := by
            obtain ⟨b', o', e', hb', hact'⟩ := (Hf.out.up Hrun3.out.size) (by omega)
            injection e' with e'
            injection e' with e1 e2
            subst e1 e2
            exact (hact' j hj1).2.2.1
          clear t0 t1 t2 t3 t4
          go_wp2_with fail
          refine HC2.out.mono ?_
          rintro e w4 ⟨rfl, hrun⟩
          have Hrun4 := Lib.hid hrun
          clear hrun HC2 Hrun3 Hrun t1'
          go_wp2
          go_roundg (gk - 1)
          case measure => omega
          case rel => exact ⟨j + 1, by go_num, by omega, by omega, ⟨_, Hrun4.out⟩⟩
        · by_cases hjn : j < n
          all_goals by_cases hj5 : j < 150
          all_goals first
            | (exfalso; omega)
            | (go_wp2
               go_loopg [11] m (fun k i wr => ∃ t : Nat, i = .int .i64 t ∧ t + k = m ∧ Hid (∃ d, Run W wr g M j d))
               case atStart => exact ⟨0, rfl, by omega, ⟨_, Hrun.out⟩⟩
               case round =>
                 clear Hrun
                 obtain ⟨t, rfl, hk2, HR⟩ := hrel
                 obtain ⟨d, hrun⟩ := HR.out
                 by_cases ht : t < m
                 · have HC2 := Lib.hid (hrun.alike (by omega) (t : Int))
                   clear hrun HR
                   go_wp2_with fail
                   refine HC2.out.mono ?_
                   rintro e w4 ⟨rfl, hrun⟩
                   have Hrun4 := Lib.hid hrun
                   clear hrun HC2
                   go_wp2
                   go_roundg (gk - 1)
                   case measure => omega
                   case rel => exact ⟨t + 1, by go_num, by omega, ⟨_, Hrun4.out⟩⟩
                 · have HB := Lib.hid hrun.size
                   clear hrun HR
                   go_wp2_with fail
                   refine (known_any wr).mono ?_
                   rintro e w5 ⟨rfl, hb⟩
                   have HB2 := Lib.hid (HB.out.trans (hb.mono HB.out.size))
                   clear hb
                   go_wp2
                   go_ret
                   exact ⟨rfl, HB2.out⟩)
namespace diskPlays
set_option maxRecDepth 100000 in
theorem lifted (os : Os) (started : os.Started) (H : Type) (enc : TypeId × Value → H) :
    ReturnsInHanded {} Try.checked os 3 .any (Rows.diskPlaysSpec.pre6 enc Try.prog Try.f3 Rows.diskPlaysRow.domain false) (Rows.diskPlaysSpec.post enc Try.prog Try.f3 false true false false) := by
  refine law_lift started (by kernel_rfl) Try.func3
    (ChangeSpec.witness6 (enc := enc) (C := Try.checked) false ⟨#[], #[.int .i64 0, .slice none 0 0], []⟩ 8 (by kernel_rfl) (by kernel_rfl) (by kernel_rfl) (by kernel_rfl))
    rfl ?_ (by kernel_rfl) (by kernel_rfl) ?_
  · intro ds h
    match ds, h with
    | [_, _], _ => rfl
  intro W base args ds p g
  have hA := g.trod
  have hval := g.val
  rw [Try.params3] at hA hval
  obtain ⟨v0, vs0, d0, ds0, p0, q0, hargs, rfl, rfl, h0, r0⟩ := trodAll_cons hA
  obtain ⟨v1, vs1, d1, ds1, p1, q1, rfl, rfl, rfl, h1, r1⟩ := trodAll_cons r0
  obtain ⟨rfl, rfl, rfl⟩ := trodAll_nil r1
  obtain rfl : args = #[v0, v1] := by cases args; simp_all
  obtain ⟨a0, rfl, _, _, w0⟩ := open_int Try.underlying3 (hval 0 3 v0 rfl rfl) h0
  have b0 := bounds_i64 w0
  obtain ⟨A1, n1, c1, f1, rfl, hc1, hm1, hr1⟩ := given_acts3 (hval 1 22 v1 rfl rfl) h1
  exact diskPlays_walk a0 A1 n1 c1 f1 W b0.1 b0.2 hc1 hm1 hr1

theorem over : Rows.diskPlaysRow.holds Try.pinned (OpenSpec.ofChange Rows.diskPlaysSpec) :=
  OpenClaim.holds_of_wide 3 Try.f3 rfl rfl rfl rfl rfl rfl rfl ⟨rfl, rfl, rfl, rfl, rfl⟩ rfl rfl rfl rfl rfl (by kernel_rfl) Try.func3 (by kernel_rfl)
    (of_decide_eq_true (by kernel_rfl)) (by unfold Func.isWrapper; first | (rw [if_pos (by decide +kernel)]; kernel_rfl) | (rw [if_neg (by decide +kernel)]; exact ⟨rfl, rfl⟩))
    (fun os started H enc _ => lifted os started H enc)
end diskPlays

theorem DiskPlays_proved : Rows.DiskPlaysSaid := diskPlays.over
#print axioms DiskPlays_proved
end Go.Proofs.Ytmjffikdaejffaa
