/- Of the proofs of layer 4, merged: PWal, PWal2, PWal3. -/
import Derived.Test.YtfepjgafamaegaaGreatMPDisk5
import Derived.Test.YtfepjgafamaegaaGreatM1RWal
import Derived.BigQuiet

/- The program's log: the heads of a disk. -/
namespace Go.Proofs.YtfepjgafamaegaaGreat
open Go.RowKit

theorem psec_meth (g : Nat) (d : Dk) (F : Nat → Prop) (i : Nat) (w : World) (hd : d.down = false) (hi : i < d.safe.length) (h : PD w F g d) :
    Calls Tryz.prog 143 #[.pointer (some ⟨g, 0, none⟩), .int .i64 i] w (Sec32 (d.sec i) w) := by
  have hl := Dk.sec_len h.ok hi
  refine (read_meth g d F i w h).mono ?_
  have e : d.read i = (d.sec i, 0) := by
    unfold Dk.read
    rw [if_neg (by simp [hd]), if_neg (by omega)]
    rfl
  rw [e]
  rintro x w' ⟨A, c, rfl, ho, hb⟩
  rw [hl] at ho
  obtain ⟨A', c', he, h1, h2⟩ := own_shape ho
  injection he with e1 _ e3
  subst e1 e3
  exact ⟨A, c, by rw [hl], Rd.of_own ho, h1, h2, hb⟩

/-- The epoch of a sector's head. -/
def HeadP (s : List UInt8) (i : Nat) (w : World) (e : Ending) (w' : World) : Prop := e = .returned (.int .u64 (headE s i)) ∧ Below w.heap.size w w'
set_option maxRecDepth 100000 in
set_option maxHeartbeats 1000000 in
theorem headEpoch_any (A : Option Addr) (c i : Nat) (s : List UInt8) (w : World) (hi : i < 2) (hc1 : 32 ≤ c) (hc2 : c ≤ 9223372036854775807) (h : Rd w w.heap.size A 32 s) :
    Calls Tryz.prog 160 #[.slice A 32 c, .int .i64 i] w (HeadP s i w) := by
  have HG := Lib.hid (frameGet_any A 32 c 0 s w hc1 (by omega) hc2 h)
  have hlen := h.1
  clear h
  cases hg : getF s with
  | error e =>
    rw [getA0_err hg] at HG
    have he := getF_err hg
    have hne : ((e : Int) != 0) = true := by simp; omega
    have HE := Lib.hid (headE_err (i := i) hg)
    clear hg
    go_enter Tryz.func160, Tryz.ntmps160
    go_wp2_with fail
    refine HG.out.mono ?_
    rintro x w2 ⟨v, rfl, ho, hb⟩
    have Hb2 := Lib.hid hb
    obtain ⟨Av, cv, rfl, _⟩ := own_shape ho
    clear ho hb HG
    go_wp2
    go_ret
    refine (⟨?_, Hb2.out.alloc Hb2.out.size _⟩ : HeadP s i w _ _)
    rw [HE.out]; rfl
  | ok fk =>
    obtain ⟨⟨kd, body⟩, k⟩ := fk
    rw [getA0_ok hg] at HG
    have hle := getF_le hg
    simp only at HG hle
    by_cases hk1 : kd = 1
    · subst hk1
      cases hu : uu 0 body with
      | error e =>
        have HE := Lib.hid (headE_uerr (i := i) hg hu)
        have he := uu_err _ _ hu
        have hU := uintAt_in body 0 (Nat.zero_le _)
        rw [List.drop_zero, hu] at hU
        have HU := Lib.hid hU
        have hne : ((e : Int) != 0) = true := by simp; omega
        clear hu hU hg
        generalize hbn : body.length = bn at *
        have Hbn := Lib.hid hbn
        clear hbn
        go_enter Tryz.func160, Tryz.ntmps160
        go_wp2_with fail
        refine HG.out.mono ?_
        rintro x w2 ⟨v, rfl, ho, hb⟩
        obtain ⟨Av, cv, rfl, hc3, hc4⟩ := own_shape ho
        unfold maxLen at hc4
        have HC : Hid (Calls Tryz.prog 87 #[.slice Av bn cv, .int .i64 0] (w2.alloc (.cells #[.int .u8 1, .slice Av bn cv] 167)) fun e' w' => e' = .returned (.tuple #[.int .u64 0, .int .i64 0, .int .i64 e]) ∧ w2.alloc (.cells #[.int .u8 1, .slice Av bn cv] 167) = w') := by
          have := binUint_any Av bn cv w2.heap.size 0 body (w2.alloc (.cells #[.int .u8 1, .slice Av bn cv] 167)) hc3 hc4 ((Rd.of_own ho).alloc (Nat.le_refl _) _)
          rw [show (0 : Int) = ((0 : Nat) : Int) from rfl, HU.out] at this
          exact this
        have Hb2 := Lib.hid hb
        clear ho hb HG HU
        go_wp2_with fail
        refine HC.out.mono ?_
        rintro x w3 ⟨rfl, rfl⟩
        clear HC
        go_wp2
        go_ret
        refine (⟨?_, Hb2.out.alloc Hb2.out.size _⟩ : HeadP s i w _ _)
        rw [HE.out]; rfl
      | ok vk =>
        obtain ⟨v, k⟩ := vk
        have hv := uu0_lt hu
        have hkb := uu_pos hu
        have hU := uintAt_in body 0 (Nat.zero_le _)
        have hEE := headE_ok (i := i) hg hu
        rw [List.drop_zero, hu] at hU
        have HU := Lib.hid hU
        have hbig : body.length ≤ 1024 := by omega
        clear hu hU hg
        generalize hbn : body.length = bn at *
        have Hbn := Lib.hid hbn
        clear hbn
        have H1 : Hid (k ≠ bn → headE s i = 0) := fun h => by rw [hEE, if_neg (fun h' => h h'.1)]
        have H2 : Hid (4611686018427387904 ≤ v → headE s i = 0) := fun h => by rw [hEE, if_neg (fun h' => absurd h'.2.1 (Nat.not_lt.2 h))]
        have H3 : Hid (v % 2 ≠ i → headE s i = 0) := fun h => by rw [hEE, if_neg (fun h' => h h'.2.2)]
        have H4 : Hid (k = bn → v < 4611686018427387904 → v % 2 = i → headE s i = v) := fun h1 h2 h3 => by rw [hEE, if_pos ⟨h1, h2, h3⟩]
        clear hEE
        by_cases q1 : k = bn
        · rcases Nat.lt_or_ge v 4611686018427387904 with q2 | q2
          · by_cases q3 : v % 2 = i
            · have Q := Lib.hid (H4.out q1 q2 q3)
              have q2' : decide ((4611686018427387904 : Int) ≤ (v : Int)) = false := decide_eq_false (Int.not_le.2 (Int.ofNat_lt.2 q2))
              have q3' : ((v : Int) % 2 != (i : Int)) = false := by simp; omega
              clear q2 q3 H1 H2 H3 H4
              go_enter Tryz.func160, Tryz.ntmps160
              go_wp2_with fail
              refine HG.out.mono ?_
              rintro x w2 ⟨vv, rfl, ho, hb⟩
              obtain ⟨Av, cv, rfl, hc3, hc4⟩ := own_shape ho
              unfold maxLen at hc4
              have HC : Hid (Calls Tryz.prog 87 #[.slice Av bn cv, .int .i64 0] (w2.alloc (.cells #[.int .u8 1, .slice Av bn cv] 167)) fun e' w' => e' = .returned (.tuple #[.int .u64 v, .int .i64 k, .int .i64 0]) ∧ w2.alloc (.cells #[.int .u8 1, .slice Av bn cv] 167) = w') := by
                have := binUint_any Av bn cv w2.heap.size 0 body (w2.alloc (.cells #[.int .u8 1, .slice Av bn cv] 167)) hc3 hc4 ((Rd.of_own ho).alloc (Nat.le_refl _) _)
                rw [show (0 : Int) = ((0 : Nat) : Int) from rfl, HU.out] at this
                simp only [ans, Int.natCast_zero, Int.zero_add] at this
                exact this
              have Hb2 := Lib.hid hb
              clear ho hb HG HU
              go_wp2_with fail
              refine HC.out.mono ?_
              rintro x w3 ⟨rfl, rfl⟩
              clear HC
              go_wp2
              go_ret
              refine (⟨?_, Hb2.out.alloc Hb2.out.size _⟩ : HeadP s i w _ _)
              rw [Q.out]; rfl
            · have Q := Lib.hid (H3.out q3)
              have q2' : decide ((4611686018427387904 : Int) ≤ (v : Int)) = false := decide_eq_false (Int.not_le.2 (Int.ofNat_lt.2 q2))
              have q3' : ((v : Int) % 2 != (i : Int)) = true := by simp; omega
              clear q2 q3 H1 H2 H3 H4
              go_enter Tryz.func160, Tryz.ntmps160
              go_wp2_with fail
              refine HG.out.mono ?_
              rintro x w2 ⟨vv, rfl, ho, hb⟩
              obtain ⟨Av, cv, rfl, hc3, hc4⟩ := own_shape ho
              unfold maxLen at hc4
              have HC : Hid (Calls Tryz.prog 87 #[.slice Av bn cv, .int .i64 0] (w2.alloc (.cells #[.int .u8 1, .slice Av bn cv] 167)) fun e' w' => e' = .returned (.tuple #[.int .u64 v, .int .i64 k, .int .i64 0]) ∧ w2.alloc (.cells #[.int .u8 1, .slice Av bn cv] 167) = w') := by
                have := binUint_any Av bn cv w2.heap.size 0 body (w2.alloc (.cells #[.int .u8 1, .slice Av bn cv] 167)) hc3 hc4 ((Rd.of_own ho).alloc (Nat.le_refl _) _)
                rw [show (0 : Int) = ((0 : Nat) : Int) from rfl, HU.out] at this
                simp only [ans, Int.natCast_zero, Int.zero_add] at this
                exact this
              have Hb2 := Lib.hid hb
              clear ho hb HG HU
              go_wp2_with fail
              refine HC.out.mono ?_
              rintro x w3 ⟨rfl, rfl⟩
              clear HC
              go_wp2
              go_ret
              refine (⟨?_, Hb2.out.alloc Hb2.out.size _⟩ : HeadP s i w _ _)
              rw [Q.out]; rfl
          · have Q := Lib.hid (H2.out q2)
            have q2' : decide ((4611686018427387904 : Int) ≤ (v : Int)) = true := decide_eq_true (Int.ofNat_le.2 q2)
            clear q2 H1 H2 H3 H4
            go_enter Tryz.func160, Tryz.ntmps160
            go_wp2_with fail
            refine HG.out.mono ?_
            rintro x w2 ⟨vv, rfl, ho, hb⟩
            obtain ⟨Av, cv, rfl, hc3, hc4⟩ := own_shape ho
            unfold maxLen at hc4
            have HC : Hid (Calls Tryz.prog 87 #[.slice Av bn cv, .int .i64 0] (w2.alloc (.cells #[.int .u8 1, .slice Av bn cv] 167)) fun e' w' => e' = .returned (.tuple #[.int .u64 v, .int .i64 k, .int .i64 0]) ∧ w2.alloc (.cells #[.int .u8 1, .slice Av bn cv] 167) = w') := by
              have := binUint_any Av bn cv w2.heap.size 0 body (w2.alloc (.cells #[.int .u8 1, .slice Av bn cv] 167)) hc3 hc4 ((Rd.of_own ho).alloc (Nat.le_refl _) _)
              rw [show (0 : Int) = ((0 : Nat) : Int) from rfl, HU.out] at this
              simp only [ans, Int.natCast_zero, Int.zero_add] at this
              exact this
            have Hb2 := Lib.hid hb
            clear ho hb HG HU
            go_wp2_with fail
            refine HC.out.mono ?_
            rintro x w3 ⟨rfl, rfl⟩
            clear HC
            go_wp2
            go_ret
            refine (⟨?_, Hb2.out.alloc Hb2.out.size _⟩ : HeadP s i w _ _)
            rw [Q.out]; rfl
        · have Q := Lib.hid (H1.out q1)
          have q1' : ((k : Int) != (bn : Int)) = true := by simp; omega
          clear H1 H2 H3 H4
          go_enter Tryz.func160, Tryz.ntmps160
          go_wp2_with fail
          refine HG.out.mono ?_
          rintro x w2 ⟨vv, rfl, ho, hb⟩
          obtain ⟨Av, cv, rfl, hc3, hc4⟩ := own_shape ho
          unfold maxLen at hc4
          have HC : Hid (Calls Tryz.prog 87 #[.slice Av bn cv, .int .i64 0] (w2.alloc (.cells #[.int .u8 1, .slice Av bn cv] 167)) fun e' w' => e' = .returned (.tuple #[.int .u64 v, .int .i64 k, .int .i64 0]) ∧ w2.alloc (.cells #[.int .u8 1, .slice Av bn cv] 167) = w') := by
            have := binUint_any Av bn cv w2.heap.size 0 body (w2.alloc (.cells #[.int .u8 1, .slice Av bn cv] 167)) hc3 hc4 ((Rd.of_own ho).alloc (Nat.le_refl _) _)
            rw [show (0 : Int) = ((0 : Nat) : Int) from rfl, HU.out] at this
            simp only [ans, Int.natCast_zero, Int.zero_add] at this
            exact this
          have Hb2 := Lib.hid hb
          clear ho hb HG HU
          go_wp2_with fail
          refine HC.out.mono ?_
          rintro x w3 ⟨rfl, rfl⟩
          clear HC
          go_wp2
          go_ret
          refine (⟨?_, Hb2.out.alloc Hb2.out.size _⟩ : HeadP s i w _ _)
          rw [Q.out]; rfl
    · have HE := Lib.hid (headE_kind (i := i) hg hk1)
      have hne : ((kd.toNat : Int) != 1) = true := by
        simp
        intro h
        apply hk1
        apply UInt8.toNat_inj.1
        show kd.toNat = 1
        omega
      clear hk1 hg
      generalize body.length = bn at *
      go_enter Tryz.func160, Tryz.ntmps160
      go_wp2_with fail
      refine HG.out.mono ?_
      rintro x w2 ⟨v, rfl, ho, hb⟩
      have Hb2 := Lib.hid hb
      obtain ⟨Av, cv, rfl, _⟩ := own_shape ho
      clear ho hb HG
      go_wp2
      go_ret
      refine (⟨?_, Hb2.out.alloc Hb2.out.size _⟩ : HeadP s i w _ _)
      rw [HE.out]; rfl

theorem headE_lt (s : List UInt8) (i : Nat) : headE s i < 4611686018427387904 := by
  unfold headE
  split
  · omega
  split
  · omega
  split
  · omega
  split
  · rename_i h; exact h.2.1
  · omega
set_option maxRecDepth 100000 in
set_option maxHeartbeats 1000000 in
theorem newest_meth (g : Nat) (d : Dk) (F : Nat → Prop) (w : World) (hd : d.down = false) (h6 : 6 ≤ d.safe.length) (h : PD w F g d) :
    Calls Tryz.prog 141 #[.pointer (some ⟨g, 0, none⟩)] w fun e w' => e = .returned (.int .u64 d.newest) ∧ Below w.heap.size w w' := by
  have HS : Hid (∀ W i, Below w.heap.size w W → i < 2 → Calls Tryz.prog 143 #[.pointer (some ⟨g, 0, none⟩), .int .i64 (i : Nat)] W (Sec32 (d.sec i) W)) := fun W i hW hi => psec_meth g d F i W hd (by omega) (h.below hW)
  unfold Dk.newest
  have k0 := headE_lt (d.sec 0) 0
  have k1 := headE_lt (d.sec 1) 1
  clear h
  have C0 : Hid (Calls Tryz.prog 143 #[.pointer (some ⟨g, 0, none⟩), .int .i64 0] w (Sec32 (d.sec 0) w)) := HS.out w 0 (Below.refl _ _) (by omega)
  have C1 : Hid (∀ W, Below w.heap.size w W → Calls Tryz.prog 143 #[.pointer (some ⟨g, 0, none⟩), .int .i64 1] W (Sec32 (d.sec 1) W)) := fun W hW => HS.out W 1 hW (by omega)
  generalize d.sec 0 = s0 at *
  generalize d.sec 1 = s1 at *
  go_enter Tryz.func141, Tryz.ntmps141
  go_wp2
  refine wp_loop_rounds 3 ?_
  rw [rounds_succ]
  go_wp2_with fail
  refine C0.out.mono ?_
  rintro x w1 ⟨A, c, rfl, hr, hc1, hc2, hb1⟩
  have HC := Lib.hid (headEpoch_any A c 0 s0 w1 (by omega) hc1 hc2 hr)
  have Hb1 := Lib.hid hb1
  clear hr hb1 C0
  go_wp2_with fail
  refine HC.out.mono ?_
  rintro x w2 ⟨rfl, hb2⟩
  have Hb2 := Lib.hid (below_then Hb1.out hb2)
  have C2 := Lib.hid (C1.out w2 Hb2.out)
  generalize hE0 : headE s0 0 = e0 at *
  have HE0 := Lib.hid hE0
  clear hE0
  clear hb2 HC C1 Hb1
  go_wp2
  rw [rounds_succ]
  go_wp2_with fail
  refine C2.out.mono ?_
  rintro x w3 ⟨A3, c3, rfl, hr, hc3, hc4, hb3⟩
  have HC := Lib.hid (headEpoch_any A3 c3 1 s1 w3 (by omega) hc3 hc4 hr)
  have Hb3 := Lib.hid (below_then Hb2.out hb3)
  clear hr hb3 C2 Hb2
  go_wp2_with fail
  refine HC.out.mono ?_
  rintro x w4 ⟨rfl, hb4⟩
  have Hb4 := Lib.hid (below_then Hb3.out hb4)
  generalize hE1 : headE s1 1 = e1 at *
  have HE1 := Lib.hid hE1
  clear hE1
  clear hb4 HC Hb3
  go_wp2
  rw [rounds_succ]
  go_wp2
  go_ret
  refine ⟨?_, Hb4.out⟩
  rw [HE0.out, HE1.out]
  show Ending.returned (.int .u64 (max (e0 : Int) (e1 : Int))) = _
  rw [show ((max e0 e1 : Nat) : Int) = max (e0 : Int) (e1 : Int) by omega]
end Go.Proofs.YtfepjgafamaegaaGreat

/- The program's log in memory, and its small methods. -/
namespace Go.Proofs.YtfepjgafamaegaaGreat
open Go.RowKit

def lgC (e : Nat) (A : Option Addr) (n c en cn : Nat) : List Value := [.int .u64 e, .slice A n c, .int .i64 en, .int .i64 cn]
/-- Block g has a log, behind the cells pre; block ga has its area. -/
structure LgAt (w : World) (g : Nat) (t : TypeId) (pre post : List Value) (e ga n c en cn : Nat) (area : List UInt8) : Prop where
  blk : Bk w g t (pre ++ (lgC e (some ⟨ga, 0, none⟩) n c en cn ++ post)).toArray
  row : w.ownsRow 0 5 1 (.slice (some ⟨ga, 0, none⟩) n c) n (u8s area)
  ne : g ≠ ga

section
variable {w w' : World} {F : Nat → Prop} {g : Nat} {t : TypeId} {pre post : List Value} {e ga n c en cn : Nat} {area : List UInt8}
theorem at_behind (pre r : List Value) (i : Nat) : (pre ++ r).toArray[pre.length + i]? = r[i]? := by
  rw [List.getElem?_toArray, List.getElem?_append_right (by omega), Nat.add_sub_cancel_left]
theorem set_behind (pre r : List Value) (i : Nat) (v : Value) : (pre ++ r).toArray.setIfInBounds (pre.length + i) v = (pre ++ r.set i v).toArray := by
  rw [List.setIfInBounds_toArray, List.set_append_right _ _ (by omega), Nat.add_sub_cancel_left]
theorem LgAt.kp (h : LgAt w g t pre post e ga n c en cn area) (hk : Kp F w w') (h1 : ¬ F g) (h2 : ¬ F ga) : LgAt w' g t pre post e ga n c en cn area :=
  ⟨h.blk.kp hk h1, own_kp h.row hk fun k e => by injection e with e; subst e; exact h2, h.ne⟩
theorem LgAt.below (h : LgAt w g t pre post e ga n c en cn area) (hb : Below w.heap.size w w') : LgAt w' g t pre post e ga n c en cn area := h.kp (F := fun _ => False) (Kp.of_below hb) id id
theorem LgAt.c0 (h : LgAt w g t pre post e ga n c en cn area) {o : Nat} (ho : pre.length = o) : w.cell? ⟨g, o, none⟩ = some (.int .u64 e) := by
  subst ho; exact (h.blk.cell _).trans (at_behind pre _ 0)
theorem LgAt.c1 (h : LgAt w g t pre post e ga n c en cn area) {o : Nat} (ho : pre.length = o) : w.cell? ⟨g, o + 1, none⟩ = some (.slice (some ⟨ga, 0, none⟩) n c) := by
  subst ho; exact (h.blk.cell _).trans (at_behind pre _ 1)
theorem LgAt.c2 (h : LgAt w g t pre post e ga n c en cn area) {o : Nat} (ho : pre.length = o) : w.cell? ⟨g, o + 2, none⟩ = some (.int .i64 en) := by
  subst ho; exact (h.blk.cell _).trans (at_behind pre _ 2)
theorem LgAt.c3 (h : LgAt w g t pre post e ga n c en cn area) {o : Nat} (ho : pre.length = o) : w.cell? ⟨g, o + 3, none⟩ = some (.int .i64 cn) := by
  subst ho; exact (h.blk.cell _).trans (at_behind pre _ 3)
theorem LgAt.set2 (h : LgAt w g t pre post e ga n c en cn area) {o : Nat} (ho : pre.length = o) (x : Nat) : LgAt (w.setCell ⟨g, o + 2, none⟩ (.int .i64 x)) g t pre post e ga n c x cn area := by
  subst ho
  have hk : Kp (· = g) w (w.setCell ⟨g, pre.length + 2, none⟩ (.int .i64 x)) := Kp.set_ (F := (· = g)) (p := ⟨g, pre.length + 2, none⟩) rfl _
  refine ⟨?_, own_kp h.row hk fun k e e2 => by injection e with e; exact h.ne (by rw [← e2, ← e]), h.ne⟩
  have := h.blk.set_ (pre.length + 2) (.int .i64 x)
  rw [set_behind] at this
  exact this
theorem LgAt.set3 (h : LgAt w g t pre post e ga n c en cn area) {o : Nat} (ho : pre.length = o) (x : Nat) : LgAt (w.setCell ⟨g, o + 3, none⟩ (.int .i64 x)) g t pre post e ga n c en x area := by
  subst ho
  have hk : Kp (· = g) w (w.setCell ⟨g, pre.length + 3, none⟩ (.int .i64 x)) := Kp.set_ (F := (· = g)) (p := ⟨g, pre.length + 3, none⟩) rfl _
  refine ⟨?_, own_kp h.row hk fun k e e2 => by injection e with e; exact h.ne (by rw [← e2, ← e]), h.ne⟩
  have := h.blk.set_ (pre.length + 3) (.int .i64 x)
  rw [set_behind] at this
  exact this
/-- Bytes laid into the area. -/
theorem u8s_over (l : List UInt8) (o : Nat) (b : List UInt8) : over (u8s l) o (u8s b) = u8s (l.take o ++ (b ++ l.drop (o + b.length))) := by
  unfold over
  rw [u8s_take, u8s_len, u8s_drop, u8s_append, u8s_append]
theorem LgAt.lay (h : LgAt w g t pre post e ga n c en cn area) (o : Nat) (b : List UInt8) (hb : o + b.length ≤ n) :
    LgAt (w.setCells ga o (u8s b)) g t pre post e ga n c en cn (area.take o ++ (b ++ area.drop (o + b.length))) := by
  have hk : Kp (· = ga) w (w.setCells ga o (u8s b)) := Kp.sets (F := (· = ga)) rfl _ _ _
  refine ⟨h.blk.kp hk h.ne, ?_, h.ne⟩
  have := own_sets h.row o (u8s b) (by rw [u8s_len]; omega)
  rwa [u8s_over] at this
theorem LgAt.len (h : LgAt w g t pre post e ga n c en cn area) : area.length = n ∧ n ≤ c ∧ c ≤ 9223372036854775807 := by
  have h1 := h.row.1
  rw [u8s_len] at h1
  obtain ⟨A', c', he, h2, h3⟩ := own_shape h.row
  injection he with _ _ e3
  subst e3
  exact ⟨by omega, h2, h3⟩
theorem LgAt.lt (h : LgAt w g t pre post e ga n c en cn area) : g < w.heap.size ∧ ga < w.heap.size := ⟨h.blk.lt, (h.row.lt ga rfl).2⟩
theorem LgAt.rd (h : LgAt w g t pre post e ga n c en cn area) : Rd w w.heap.size (some ⟨ga, 0, none⟩) n area := Rd.of_own h.row
end

set_option maxRecDepth 100000 in
set_option maxHeartbeats 400000 in
theorem side_meth (g o : Nat) (e : Nat) (w : World) (c0 : w.cell? ⟨g, o, none⟩ = some (.int .u64 e)) :
    Calls Tryz.prog 128 #[.pointer (some ⟨g, o, none⟩)] w fun x w' => x = .returned (.int .i64 ((e % 2 : Nat) : Int)) ∧ w = w' := by
  rcases Nat.mod_two_eq_zero_or_one e with h2 | h2
  all_goals
    rw [h2]
    first
      | (have h2i : (e : Int) % 2 = 0 := by omega)
      | (have h2i : (e : Int) % 2 = 1 := by omega)
    clear h2
    go_enter Tryz.func128, Tryz.ntmps128
    go_wp2
    go_ret
    exact ⟨rfl, rfl⟩
set_option maxRecDepth 100000 in
set_option maxHeartbeats 400000 in
theorem room_meth (g o : Nat) (A : Option Addr) (n c en : Nat) (w : World) (hn : n ≤ 9223372036854775807) (he : en ≤ n) (c1 : w.cell? ⟨g, o + 1, none⟩ = some (.slice A n c)) (c2 : w.cell? ⟨g, o + 2, none⟩ = some (.int .i64 en)) :
    Calls Tryz.prog 127 #[.pointer (some ⟨g, o, none⟩)] w fun x w' => x = .returned (.int .i64 ((n - en : Nat) : Int)) ∧ Below w.heap.size w w' := by
  go_enter Tryz.func127, Tryz.ntmps127
  go_wp2_with fail
  go_quiet (fail)
  go_wp2
  go_ret
  refine ⟨?_, bel_drewN (Below.refl _ _) _⟩
  show Ending.returned (.int .i64 ((n : Int) - (en : Int))) = _
  rw [show ((n - en : Nat) : Int) = (n : Int) - (en : Int) by omega]
set_option maxRecDepth 100000 in
set_option maxHeartbeats 400000 in
theorem tooLong_any (A : Option Addr) (n c : Nat) (w : World) : Calls Tryz.prog 139 #[.slice A n c] w fun x w' => x = .returned (.bool (decide (1024 < n))) ∧ w = w' := by
  by_cases h : 1024 < n
  all_goals
    go_enter Tryz.func139, Tryz.ntmps139
    go_wp2
    go_ret
    exact ⟨by simp; omega, rfl⟩
set_option maxRecDepth 100000 in
set_option maxHeartbeats 400000 in
theorem ready_nil (w : World) : Calls Tryz.prog 94 #[.pointer none] w fun x w' => x = .returned (.int .i64 1) ∧ w = w' := by
  go_enter Tryz.func94, Tryz.ntmps94
  go_wp2
  go_ret
  exact ⟨rfl, rfl⟩
set_option maxRecDepth 100000 in
set_option maxHeartbeats 400000 in
theorem ready_gone (g : Nat) (w : World) (c0 : w.cell? ⟨g, 0, none⟩ = some (.pointer none)) : Calls Tryz.prog 94 #[.pointer (some ⟨g, 0, none⟩)] w fun x w' => x = .returned (.int .i64 6) ∧ w = w' := by
  go_enter Tryz.func94, Tryz.ntmps94
  go_wp2
  go_ret
  exact ⟨rfl, rfl⟩
set_option maxRecDepth 100000 in
set_option maxHeartbeats 400000 in
theorem ready_meth (g gd : Nat) (w : World) (c0 : w.cell? ⟨g, 0, none⟩ = some (.pointer (some ⟨gd, 0, none⟩))) : Calls Tryz.prog 94 #[.pointer (some ⟨g, 0, none⟩)] w fun x w' => x = .returned (.int .i64 0) ∧ w = w' := by
  go_enter Tryz.func94, Tryz.ntmps94
  go_wp2
  go_ret
  exact ⟨rfl, rfl⟩
set_option maxRecDepth 100000 in
set_option maxHeartbeats 400000 in
theorem note_ok (p : Value) (w : World) : Calls Tryz.prog 96 #[p, .int .i64 0] w fun x w' => x = .returned (.int .i64 0) ∧ w = w' := by
  go_enter Tryz.func96, Tryz.ntmps96
  go_wp2
  go_ret
  exact ⟨rfl, rfl⟩
/-- A log that is forgotten. -/
def goneC : Array Value := #[.pointer none, .int .u64 0, .slice none 0 0, .int .i64 0, .int .i64 0, .int .i64 0]
set_option maxRecDepth 100000 in
set_option maxHeartbeats 400000 in
theorem note_err (g : Nat) (a0 a1 a2 a3 a4 a5 : Value) (r : Int) (w : World) (hr : r ≠ 0) (h : Bk w g 165 #[a0, a1, a2, a3, a4, a5]) : Calls Tryz.prog 96 #[.pointer (some ⟨g, 0, none⟩), .int .i64 r] w fun x w' => x = .returned (.int .i64 r) ∧ Bk w' g 165 goneC ∧ Kp (· = g) w w' := by
  have hne : (r != 0) = true := by simpa using hr
  have c0 := h.cell 0
  have c1 := h.cell 1
  have c2 := h.cell 2
  have c3 := h.cell 3
  have c4 := h.cell 4
  have c5 := h.cell 5
  have f0 := h.frozen 0
  have f1 := h.frozen 1
  have f2 := h.frozen 2
  have f3 := h.frozen 3
  have f4 := h.frozen 4
  have f5 := h.frozen 5
  simp only [List.getElem?_toArray, List.getElem?_cons_zero, List.getElem?_cons_succ] at c0 c1 c2 c3 c4 c5
  have H := Lib.hid h
  clear h
  go_enter Tryz.func96, Tryz.ntmps96
  go_wp2
  go_ret
  have hk : ∀ (W : World) (i : Nat) (v : Value), Kp (· = g) W (W.setCell ⟨g, i, none⟩ v) := fun W i v => Kp.set_ (F := (· = g)) (p := ⟨g, i, none⟩) rfl v
  refine ⟨rfl, ?_, ((((((hk w 0 _).trans (hk _ 1 _)).trans (hk _ 2 _)).trans (hk _ 3 _)).trans (hk _ 4 _)).trans (hk _ 5 _))⟩
  exact (((((H.out.set_ 0 (.pointer none)).set_ 1 (.int .u64 0)).set_ 2 (.slice none 0 0)).set_ 3 (.int .i64 0)).set_ 4 (.int .i64 0)).set_ 5 (.int .i64 0)
end Go.Proofs.YtfepjgafamaegaaGreat

/- The program's log: sectors of the area are written. -/
namespace Go.Proofs.YtfepjgafamaegaaGreat
open Go.RowKit

theorem layS_next {b : List UInt8} {base i k : Nat} {d : Dk} (h : (d.write ((base + i : Nat) : Int) (chunk b i)).1 = 0) : layS b base i (k + 1) d = layS b base (i + 1) k (d.write ((base + i : Nat) : Int) (chunk b i)).2 := if_pos h
theorem layS_stop {b : List UInt8} {base i k : Nat} {d : Dk} (h : (d.write ((base + i : Nat) : Int) (chunk b i)).1 ≠ 0) : layS b base i (k + 1) d = d.write ((base + i : Nat) : Int) (chunk b i) := if_neg h
theorem chunk_len {b : List UInt8} {i n : Nat} (h : b.length = n) (hi : i * 32 + 32 ≤ n) : (chunk b i).length = 32 := by unfold chunk; rw [List.length_take, List.length_drop]; omega
theorem rd_part {w : World} {B n : Nat} {ga : Nat} {l : List UInt8} (h : Rd w B (some ⟨ga, 0, none⟩) n l) (o k : Nat) (hk : o + k ≤ n) : Rd w B (some ⟨ga, o, none⟩) k ((l.drop o).take k) := by
  have hl := h.1
  refine ⟨by rw [List.length_take, List.length_drop]; omega, fun h0 => ?_⟩
  obtain ⟨b, o', e, hb, hc⟩ := h.2 (by omega)
  injection e with e
  injection e with e1 e2
  subst e1 e2
  refine ⟨ga, o, rfl, hb, fun j hj => ?_⟩
  have hj' : j < k := by rw [List.length_take] at hj; omega
  have := hc (o + j) (by omega)
  rw [Nat.zero_add] at this
  rw [this]
  simp
theorem dwrite_waits (d : Dk) (a : Int) (b : List UInt8) : (d.write a b).2.waits.length ≤ d.waits.length + 1 := by
  unfold Dk.write
  split
  · simp
  split
  · simp
  split
  · simp
  · simp [d.act_same.2]
def Laid (w : World) (F : Nat → Prop) (gd : Nat) (r : Int × Dk) (e : Ending) (w' : World) : Prop := e = .returned (.int .i64 r.1) ∧ ∃ F', PD w' F' gd r.2 ∧ Mv F F' w w'

set_option maxRecDepth 100000 in
set_option maxHeartbeats 2000000 in
theorem sectors_write (g o : Nat) (t : TypeId) (pre post : List Value) (e ga n c en cn fr to H : Nat) (area : List UInt8) (gd : Nat) (d : Dk) (F : Nat → Prop) (w : World) (ho : pre.length = o)
    (hH : n = H * 32) (hft : fr ≤ to) (hto : to ≤ n) (hH2 : H ≤ 1024) (hwl : d.waits.length ≤ 900000000)
    (hl : LgAt w g t pre post e ga n c en cn area) (h : PD w F gd d) (hg : ¬ F g) (hga : ¬ F ga) :
    Calls Tryz.prog 97 #[.pointer (some ⟨g, o, none⟩), .int .i64 fr, .int .i64 to, .func (.func 98) #[.pointer (some ⟨gd, 0, none⟩)] #[]] w
      (Laid w F gd (layS area (2 + (e % 2) * H) (fr / 32) ((to + 31) / 32 - fr / 32) d)) := by
  subst hH
  have hlen := hl.len
  obtain ⟨B, hB, hB3⟩ : ∃ B, 2 + (e % 2) * H = B ∧ (B = 2 ∧ e % 2 = 0 ∨ B = 2 + H ∧ e % 2 = 1) := ⟨_, rfl, by
    rcases Nat.mod_two_eq_zero_or_one e with h2 | h2 <;> rw [h2] <;> omega⟩
  rw [hB]
  have HL : Hid (∀ F' w', Mv F F' w w' → LgAt w' g t pre post e ga (H * 32) c en cn area ∧ ¬ F' g ∧ ¬ F' ga) := fun F' w' hm => by
    have hlt := hl.lt
    refine ⟨hl.kp hm.kp hg hga, fun hf => ?_, fun hf => ?_⟩
    · rcases hm.new g hf with h | h
      · exact hg h
      · omega
    · rcases hm.new ga hf with h | h
      · exact hga h
      · omega
  have HP : Hid (PD w F gd d) := h
  have HC : Hid (∀ q, Calls Tryz.prog 128 #[.pointer (some ⟨g, o, none⟩)] (w.drewN q) fun x w' => x = .returned (.int .i64 ((e % 2 : Nat) : Int)) ∧ w' = w.drewN q) := fun q => (side_meth g o e (w.drewN q) (hl.c0 ho)).mono fun _ _ ⟨h1, h2⟩ => ⟨h1, h2.symm⟩
  have HW : Hid (∀ F' w' d' m (x : Int), Mv F F' w w' → PD w' F' gd d' → d'.waits.length ≤ 1000000000 → (m + 1) * 32 ≤ H * 32 → x = ((B + m : Nat) : Int) →
      Calls Tryz.prog 98 #[.pointer (some ⟨gd, 0, none⟩), .int .i64 x, .slice (some ⟨ga, m * 32, none⟩) ((m + 1) * 32 - m * 32) (c - m * 32)] w' fun e w'' => e = .returned (.int .i64 (d'.write ((B + m : Nat) : Int) (chunk area m)).1) ∧ ∃ F'', PD w'' F'' gd (d'.write ((B + m : Nat) : Int) (chunk area m)).2 ∧ Mv F' F'' w' w'') := fun F' w' d' m x hm hp hwl hmn hx => by
    subst hx
    obtain ⟨hl', _, hga'⟩ := HL.out F' w' hm
    rw [show (m + 1) * 32 - m * 32 = 32 by omega]
    exact write_any gd d' F' _ _ 32 _ (chunk area m) w' (by omega) hwl (rd_part hl'.rd (m * 32) 32 (by omega)) (fun ad e hf => by injection e with e; subst e; exact hga' hf) hp
  have c1 := hl.c1 ho
  have hcap : H * 32 ≤ c ∧ c ≤ 9223372036854775807 := ⟨hlen.2.1, hlen.2.2⟩
  obtain ⟨iend, hie⟩ : ∃ iend, (to + 31) / 32 = iend := ⟨_, rfl⟩
  obtain ⟨i0, hi0⟩ : ∃ i0, fr / 32 = i0 := ⟨_, rfl⟩
  have hi0i : (fr : Int) / 32 = (i0 : Int) := by omega
  have hi0b : (i0 : Int) ≤ 40000 := by omega
  have hieb : (iend : Int) ≤ 40000 := by omega
  rw [hie, hi0]
  have Hie := Lib.hid hie
  have Hi0 := Lib.hid hi0
  have Hft := Lib.hid hft
  clear hl h hlen hB hie hi0 hft
  rcases hB3 with ⟨hB3, h2⟩ | ⟨hB3, h2⟩
  all_goals
    rw [h2] at HC
    have HB3 := Lib.hid hB3
    clear h2 hB3
    go_enter Tryz.func97, Tryz.ntmps97
    go_wp2_with fail
    go_quiet ((go_at_call 128; exact Calls.quiet_of_same (HC.out _)))
    go_wp2
    clear HC
    go_loopg [10] (iend - i0) (fun gk i wr => ∃ m : Nat, i = .int .i64 m ∧ i0 ≤ m ∧ m + gk = max iend i0 ∧ Hid (∃ F' d', Mv F F' w wr ∧ PD wr F' gd d' ∧ d'.waits.length ≤ 900000000 + (m - i0) ∧ layS area B i0 (iend - i0) d = layS area B m gk d'))
    case atStart => exact ⟨i0, rfl, by omega, by omega, ⟨F, d, Mv.of (Kp.drewN F w _), HP.out.kp (G := fun _ => False) (Kp.drewN _ w _) (fun _ _ h => h), by omega, rfl⟩⟩
    case round =>
      obtain ⟨m, rfl, him, hk, HR⟩ := hrel
      obtain ⟨F1, d1, hm1, hp1, hw1, hls⟩ := HR.out
      by_cases hkn : m < iend
      · have hi := Hie.out
        have hi2 := Hi0.out
        have hft := Hft.out
        have hmto : (m : Int) * 32 < (to : Int) := by omega
        have hmb : m + 1 ≤ H := by omega
        obtain ⟨hl1, _, _⟩ := HL.out F1 wr hm1
        have c1 := hl1.c1 ho
        have HW1 := Lib.hid (fun x hx => HW.out F1 wr d1 m x hm1 hp1 (by omega) (by omega) hx)
        have Hm1 := Lib.hid hm1
        have Hw1 := Lib.hid hw1
        have Hls := Lib.hid hls
        clear hm1 hp1 hls HR hl1
        go_wp2_with fail
        refine (HW1.out _ (by have := HB3.out; omega)).mono ?_
        rintro x w2 ⟨rfl, F2, hp2, hm2⟩
        have Hp2 := Lib.hid hp2
        have Hm2 := Lib.hid (Hm1.out.trans hm2)
        have Hww := Lib.hid (dwrite_waits d1 ((B + m : Nat) : Int) (chunk area m))
        clear hp2 hm2 HW1
        obtain ⟨k', rfl⟩ : ∃ k', gk = k' + 1 := ⟨gk - 1, by omega⟩
        by_cases hr : (d1.write ((B + m : Nat) : Int) (chunk area m)).1 = 0
        · rw [hr]
          have Hn := Lib.hid (layS_next (k := k') hr)
          clear hr
          go_wp2
          go_roundg k'
          case measure => omega
          case rel => exact ⟨m + 1, by go_num, by omega, by omega, ⟨F2, _, Hm2.out, Hp2.out, by have := Hw1.out; have := Hww.out; omega, by rw [Hls.out, Hn.out]⟩⟩
        · have Hn := Lib.hid (layS_stop (k := k') hr)
          have hne : ((d1.write ((B + m : Nat) : Int) (chunk area m)).1 != 0) = true := by simpa using hr
          have HFin : Hid (∃ F', PD w2 F' gd (layS area B i0 (iend - i0) d).2 ∧ Mv F F' w w2) := ⟨F2, by rw [Hls.out, Hn.out]; exact Hp2.out, Hm2.out⟩
          have Hr : Hid ((layS area B i0 (iend - i0) d).1 = (d1.write ((B + m : Nat) : Int) (chunk area m)).1) := by rw [Hls.out, Hn.out]; rfl
          clear hr
          generalize (d1.write ((B + m : Nat) : Int) (chunk area m)).1 = r at *
          go_wp2
          go_ret
          refine (⟨?_, HFin.out⟩ : Laid w F gd _ _ _)
          rw [Hr.out]
          rfl
      · have hgk : gk = 0 := by omega
        subst hgk
        have hi := Hie.out
        have hi2 := Hi0.out
        have hmto : (to : Int) ≤ (m : Int) * 32 := by omega
        have hmb : (m : Int) ≤ 40000 := by omega
        have hls' : layS area B i0 (iend - i0) d = (0, d1) := hls
        have HFin : Hid (∃ F', PD wr F' gd (layS area B i0 (iend - i0) d).2 ∧ Mv F F' w wr) := ⟨F1, by rw [hls']; exact hp1, hm1⟩
        have Hr : Hid ((layS area B i0 (iend - i0) d).1 = 0) := by rw [hls']; rfl
        clear hm1 hp1 hls hls' HR
        go_wp2
        go_ret
        refine (⟨?_, HFin.out⟩ : Laid w F gd _ _ _)
        rw [Hr.out]
        rfl
end Go.Proofs.YtfepjgafamaegaaGreat
