/- Of the proofs of layer 4, merged: RWal. -/
import Derived.Test.YtfepjgafamaegaaGreatMRDisk4
import Derived.Test.YtfepjgafamaegaaGreatMRefFrameGet
import Derived.Test.YtfepjgafamaegaaGreatMFrameP
import Derived.Test.YtfepjgafamaegaaGreatMFrameGet

/- The document's log: where its areas lie. -/
namespace Go.Proofs.YtfepjgafamaegaaGreat
open Go.RowKit

set_option maxRecDepth 100000 in
set_option maxHeartbeats 400000 in
theorem rhalf_meth (M : Nat) (d : Dk) (F : Nat → Prop) (w : World) (h6 : 6 ≤ d.safe.length) (h : RD w F M d) :
    Calls Tryz.prog 122 #[.pointer (some ⟨M, 0, none⟩)] w fun e w' => e = .returned (.int .i64 d.half) ∧ w = w' := by
  have hlen := h.len
  obtain ⟨ms, cs, c0⟩ := h.safeCell
  clear h
  unfold Dk.half halfN
  generalize d.safe.length = n at *
  go_enter Tryz.func122, Tryz.ntmps122
  go_wp2
  go_ret
  refine ⟨?_, rfl⟩
  show Ending.returned (.int .i64 (((n : Int) - 2) / 2)) = _
  rw [show ((n : Int) - 2) / 2 = (((n - 2) / 2 : Nat) : Int) by omega]

set_option maxRecDepth 100000 in
set_option maxHeartbeats 400000 in
theorem rfirst_any (M : Nat) (d : Dk) (F : Nat → Prop) (e : Nat) (w : World) (he : e < 18446744073709551616) (h6 : 6 ≤ d.safe.length) (h : RD w F M d) :
    Calls Tryz.prog 132 #[.pointer (some ⟨M, 0, none⟩), .int .u64 e] w fun x w' => x = .returned (.int .i64 (d.base e)) ∧ w = w' := by
  have hlen := h.len
  have HC := Lib.hid (rhalf_meth M d F w h6 h)
  clear h
  unfold Dk.base baseOf
  have hh : d.half = halfN d.safe.length := rfl
  rw [hh] at HC
  have hb : halfN d.safe.length ≤ 1024 := by unfold halfN; omega
  generalize halfN d.safe.length = k at *
  rcases Nat.mod_two_eq_zero_or_one e with h2 | h2
  all_goals
    rw [h2]
    simp only [Nat.zero_mul, Nat.one_mul, Nat.add_zero]
    first
      | (have h2i : (e : Int) % 2 = 0 := by omega)
      | (have h2i : (e : Int) % 2 = 1 := by omega)
    clear h2
    go_enter Tryz.func132, Tryz.ntmps132
    go_wp2_with fail
    refine HC.out.mono ?_
    rintro x w' ⟨rfl, rfl⟩
    go_wp2
    go_ret
    exact ⟨rfl, rfl⟩

theorem getA0_err {l : List UInt8} {e : Nat} (h : getF l = .error e) : getA l 0 = (0, [], 0, (e : Int)) := getA_err (k := 0) (Nat.zero_le _) h
theorem getA0_ok {l : List UInt8} {m : Nat} {f : Fr} (h : getF l = .ok (f, m)) : getA l 0 = (f.1, f.2, (m : Int), 0) := by
  have := getA_ok (l := l) (k := 0) (Nat.zero_le _) h
  rwa [Nat.zero_add] at this
theorem headE_err {s : List UInt8} {i e : Nat} (h : getF s = .error e) : headE s i = 0 := by unfold headE; rw [h]
theorem headE_kind {s : List UInt8} {i k : Nat} {kd : UInt8} {body : List UInt8} (h : getF s = .ok ((kd, body), k)) (h1 : kd ≠ 1) : headE s i = 0 := by unfold headE; rw [h]; exact if_pos h1
theorem headE_uerr {s : List UInt8} {i k e : Nat} {body : List UInt8} (h : getF s = .ok ((1, body), k)) (hu : uu 0 body = .error e) : headE s i = 0 := by unfold headE; rw [h]; simp only; rw [if_neg (by simp), hu]
theorem headE_ok {s : List UInt8} {i k m v : Nat} {body : List UInt8} (h : getF s = .ok ((1, body), k)) (hu : uu 0 body = .ok (v, m)) : headE s i = if m = body.length ∧ v < 4611686018427387904 ∧ v % 2 = i then v else 0 := by unfold headE; rw [h]; simp only; rw [if_neg (by simp), hu]
theorem uu_err (s : List UInt8) (i : Nat) {e : Nat} (h : uu i s = .error e) : e = 10 ∨ e = 11 := by
  induction s generalizing i with
  | nil => injection h with h; exact .inl h.symm
  | cons c r ih =>
    unfold uu at h
    split at h
    · injection h with h; exact .inr h.symm
    split at h
    · cases h
    split at h
    · cases h
    · rename_i h2
      injection h with h
      subst h
      exact ih _ h2
theorem Dk.sec_len {d : Dk} (h : d.Ok) {i : Nat} (hi : i < d.safe.length) : (d.sec i).length = 32 := by
  unfold Dk.sec
  rw [seen_sync d.waits d.safe (fun x hx => (h.waits x hx).1) i hi]
  exact rows_getD (syncS_rows _ _ h.rows fun w hw => (h.waits w hw).2) (by rw [syncS_len]; exact hi)
theorem RD.ok {w : World} {F : Nat → Prop} {M : Nat} {d : Dk} (h : RD w F M d) : d.Ok := by
  obtain ⟨sv, wv, hr, hl⟩ := h
  exact ⟨hr.srow, hr.wrow, by omega⟩
/-- A sector of a disk that is up. -/
def Sec32 (l : List UInt8) (w : World) (e : Ending) (w' : World) : Prop := ∃ A c, e = .returned (.tuple #[.slice A 32 c, .int .i64 0]) ∧ Rd w' w'.heap.size A 32 l ∧ 32 ≤ c ∧ c ≤ 9223372036854775807 ∧ Below w.heap.size w w'
theorem rsec_meth (M : Nat) (d : Dk) (F : Nat → Prop) (i : Nat) (w : World) (hwl : d.waits.length ≤ 1000000000) (hd : d.down = false) (hi : i < d.safe.length) (h : RD w F M d) :
    Calls Tryz.prog 157 #[.pointer (some ⟨M, 0, none⟩), .int .i64 i] w (Sec32 (d.sec i) w) := by
  have hl := Dk.sec_len h.ok hi
  refine (rread_any M d F i w hwl h).mono ?_
  have e : d.read i = (d.sec i, 0) := by
    unfold Dk.read
    rw [if_neg (by simp [hd]), if_neg (by omega)]
    rfl
  rw [e]
  rintro x w' ⟨A, c, rfl, hr, ⟨h1, h2⟩, hb⟩
  rw [hl] at hr h1 h2
  exact ⟨A, c, by rw [hl], hr, h1, h2 (by omega), hb⟩

/-- The head of a sector. -/
def HeadR (s : List UInt8) (i : Nat) (w : World) (e : Ending) (w' : World) : Prop := ∃ (v : Nat) (b : Bool), e = .returned (.tuple #[.int .u64 v, .bool b]) ∧ (headE s i = if b then v else 0) ∧ v < 18446744073709551616 ∧ Below w.heap.size w w'
set_option maxRecDepth 100000 in
set_option maxHeartbeats 1000000 in
theorem rhead_meth (M : Nat) (d : Dk) (F : Nat → Prop) (i : Nat) (w : World) (hwl : d.waits.length ≤ 1000000000) (hd : d.down = false) (hi : i < 2) (h6 : 6 ≤ d.safe.length) (h : RD w F M d) :
    Calls Tryz.prog 134 #[.pointer (some ⟨M, 0, none⟩), .int .i64 i] w (HeadR (d.sec i) i w) := by
  have HS := Lib.hid (rsec_meth M d F i w hwl hd (by omega) h)
  have hlen : (d.sec i).length = 32 := Dk.sec_len h.ok (by omega)
  generalize d.sec i = s at *
  clear h
  go_enter Tryz.func134, Tryz.ntmps134
  go_wp2_with fail
  refine HS.out.mono ?_
  rintro e w1 ⟨A, c, rfl, hr, hc1, hc2, hb1⟩
  have HG := Lib.hid (refGetF_any A 32 c 0 s w1 hc1 (by omega) hc2 hr)
  have Hb1 := Lib.hid hb1
  clear hr hb1 HS
  cases hg : getF s with
  | error e =>
    rw [getA0_err hg] at HG
    have he := getF_err hg
    have hne : ((e : Int) != 0) = true := by simp; omega
    have HE := Lib.hid (headE_err (i := i) hg)
    clear hg
    go_wp2_with fail
    refine HG.out.mono ?_
    rintro x w2 ⟨v, rfl, ho, hb⟩
    have Hb2 := Lib.hid (below_then Hb1.out hb)
    obtain ⟨Av, cv, rfl, _⟩ := own_shape ho
    clear ho hb HG Hb1
    go_wp2
    go_ret2
    exact (⟨0, false, rfl, HE.out, by omega, Hb2.out.alloc Hb2.out.size _⟩ : HeadR s i w _ _)
  | ok fk =>
    obtain ⟨⟨kd, body⟩, k⟩ := fk
    rw [getA0_ok hg] at HG
    have hle := getF_le hg
    simp only at HG hle
    by_cases hk1 : kd = 1
    · subst hk1
      cases hu : uu 0 body with
      | error e =>
        have HE := Lib.hid (headE_uerr (i := i) hg hu)
        have he := uu_err _ _ hu
        have hU := uintAt_in body 0 (Nat.zero_le _)
        rw [List.drop_zero, hu] at hU
        have HU := Lib.hid hU
        have hne : ((e : Int) == 0) = false := by simp; omega
        clear hu hU hg
        generalize hbn : body.length = bn at *
        have Hbn := Lib.hid hbn
        clear hbn
        go_wp2_with fail
        refine HG.out.mono ?_
        rintro x w2 ⟨v, rfl, ho, hb⟩
        obtain ⟨Av, cv, rfl, hc3, hc4⟩ := own_shape ho
        unfold maxLen at hc4
        have HC : Hid (Calls Tryz.prog 56 #[.slice Av bn cv, .int .i64 0] (w2.alloc (.cells #[.int .u8 1, .slice Av bn cv] 167)) fun e' w' => e' = .returned (.tuple #[.int .u64 0, .int .i64 0, .int .i64 e]) ∧ w2.alloc (.cells #[.int .u8 1, .slice Av bn cv] 167) = w') := by
          have := refUint_any Av bn cv w2.heap.size 0 body (w2.alloc (.cells #[.int .u8 1, .slice Av bn cv] 167)) hc3 hc4 ((Rd.of_own ho).alloc (Nat.le_refl _) _)
          rw [show (0 : Int) = ((0 : Nat) : Int) from rfl, HU.out] at this
          exact this
        have Hb2 := Lib.hid (below_then Hb1.out hb)
        clear ho hb HG Hb1 HU
        go_wp2_with fail
        refine HC.out.mono ?_
        rintro x w3 ⟨rfl, rfl⟩
        clear HC
        go_wp2
        go_ret2
        exact (⟨0, false, rfl, HE.out, by omega, Hb2.out.alloc Hb2.out.size _⟩ : HeadR s i w _ _)
      | ok vk =>
        obtain ⟨v, k⟩ := vk
        have hv := uu0_lt hu
        have hkb := uu_pos hu
        have hU := uintAt_in body 0 (Nat.zero_le _)
        have hEE := headE_ok (i := i) hg hu
        rw [List.drop_zero, hu] at hU
        have HU := Lib.hid hU
        have hbig : body.length ≤ 1024 := by omega
        clear hu hU hg
        generalize hbn : body.length = bn at *
        have Hbn := Lib.hid hbn
        clear hbn
        have H1 : Hid (k ≠ bn → headE s i = if false = true then v else 0) := fun h => by rw [hEE, if_neg (fun h' => h h'.1)]; rfl
        have H2 : Hid (4611686018427387904 ≤ v → headE s i = if false = true then v else 0) := fun h => by rw [hEE, if_neg (fun h' => absurd h'.2.1 (Nat.not_lt.2 h))]; rfl
        have H3 : Hid (k = bn → v < 4611686018427387904 → headE s i = if ((v : Int) % 2 == (i : Int)) = true then v else 0) := fun h1 h2 => by
          rw [hEE]
          by_cases h : v % 2 = i
          · rw [if_pos ⟨h1, h2, h⟩, if_pos (by simp; omega)]
          · rw [if_neg (fun h' => h h'.2.2), if_neg (by simp; omega)]
        clear hEE
        by_cases q1 : k = bn
        · rcases Nat.lt_or_ge v 4611686018427387904 with q2 | q2
          · have Q : Hid _ := Lib.hid (H3.out q1 q2)
            have q2' : decide ((v : Int) < 4611686018427387904) = true := decide_eq_true (Int.ofNat_lt.2 q2)
            clear q2 H1 H2 H3
            obtain ⟨b, hb⟩ : ∃ b, ((v : Int) % 2 == (i : Int)) = b := ⟨_, rfl⟩
            rw [hb] at Q
            go_wp2_with fail
            refine HG.out.mono ?_
            rintro x w2 ⟨vv, rfl, ho, hb⟩
            obtain ⟨Av, cv, rfl, hc3, hc4⟩ := own_shape ho
            unfold maxLen at hc4
            have HC : Hid (Calls Tryz.prog 56 #[.slice Av bn cv, .int .i64 0] (w2.alloc (.cells #[.int .u8 1, .slice Av bn cv] 167)) fun e' w' => e' = .returned (.tuple #[.int .u64 v, .int .i64 k, .int .i64 0]) ∧ w2.alloc (.cells #[.int .u8 1, .slice Av bn cv] 167) = w') := by
              have := refUint_any Av bn cv w2.heap.size 0 body (w2.alloc (.cells #[.int .u8 1, .slice Av bn cv] 167)) hc3 hc4 ((Rd.of_own ho).alloc (Nat.le_refl _) _)
              rw [show (0 : Int) = ((0 : Nat) : Int) from rfl, HU.out] at this
              simp only [ans, Int.natCast_zero, Int.zero_add] at this
              exact this
            have Hb2 := Lib.hid (below_then Hb1.out hb)
            clear ho hb HG Hb1 HU
            go_wp2_with fail
            refine HC.out.mono ?_
            rintro x w3 ⟨rfl, rfl⟩
            clear HC
            go_wp2
            go_ret2
            exact (⟨v, b, rfl, Q.out, hv, Hb2.out.alloc Hb2.out.size _⟩ : HeadR s i w _ _)
          · have Q : Hid _ := Lib.hid (H2.out q2)
            have q2' : decide ((v : Int) < 4611686018427387904) = false := decide_eq_false (Int.not_lt.2 (Int.ofNat_le.2 q2))
            clear q2 H1 H2 H3
            go_wp2_with fail
            refine HG.out.mono ?_
            rintro x w2 ⟨vv, rfl, ho, hb⟩
            obtain ⟨Av, cv, rfl, hc3, hc4⟩ := own_shape ho
            unfold maxLen at hc4
            have HC : Hid (Calls Tryz.prog 56 #[.slice Av bn cv, .int .i64 0] (w2.alloc (.cells #[.int .u8 1, .slice Av bn cv] 167)) fun e' w' => e' = .returned (.tuple #[.int .u64 v, .int .i64 k, .int .i64 0]) ∧ w2.alloc (.cells #[.int .u8 1, .slice Av bn cv] 167) = w') := by
              have := refUint_any Av bn cv w2.heap.size 0 body (w2.alloc (.cells #[.int .u8 1, .slice Av bn cv] 167)) hc3 hc4 ((Rd.of_own ho).alloc (Nat.le_refl _) _)
              rw [show (0 : Int) = ((0 : Nat) : Int) from rfl, HU.out] at this
              simp only [ans, Int.natCast_zero, Int.zero_add] at this
              exact this
            have Hb2 := Lib.hid (below_then Hb1.out hb)
            clear ho hb HG Hb1 HU
            go_wp2_with fail
            refine HC.out.mono ?_
            rintro x w3 ⟨rfl, rfl⟩
            clear HC
            go_wp2
            go_ret2
            exact (⟨v, false, rfl, Q.out, hv, Hb2.out.alloc Hb2.out.size _⟩ : HeadR s i w _ _)
        · have Q : Hid _ := Lib.hid (H1.out q1)
          clear H1 H2 H3
          go_wp2_with fail
          refine HG.out.mono ?_
          rintro x w2 ⟨vv, rfl, ho, hb⟩
          obtain ⟨Av, cv, rfl, hc3, hc4⟩ := own_shape ho
          unfold maxLen at hc4
          have HC : Hid (Calls Tryz.prog 56 #[.slice Av bn cv, .int .i64 0] (w2.alloc (.cells #[.int .u8 1, .slice Av bn cv] 167)) fun e' w' => e' = .returned (.tuple #[.int .u64 v, .int .i64 k, .int .i64 0]) ∧ w2.alloc (.cells #[.int .u8 1, .slice Av bn cv] 167) = w') := by
            have := refUint_any Av bn cv w2.heap.size 0 body (w2.alloc (.cells #[.int .u8 1, .slice Av bn cv] 167)) hc3 hc4 ((Rd.of_own ho).alloc (Nat.le_refl _) _)
            rw [show (0 : Int) = ((0 : Nat) : Int) from rfl, HU.out] at this
            simp only [ans, Int.natCast_zero, Int.zero_add] at this
            exact this
          have Hb2 := Lib.hid (below_then Hb1.out hb)
          clear ho hb HG Hb1 HU
          go_wp2_with fail
          refine HC.out.mono ?_
          rintro x w3 ⟨rfl, rfl⟩
          clear HC
          go_wp2
          go_ret2
          exact (⟨v, false, rfl, Q.out, hv, Hb2.out.alloc Hb2.out.size _⟩ : HeadR s i w _ _)
    · have HE := Lib.hid (headE_kind (i := i) hg hk1)
      have hne : ((kd.toNat : Int) != 1) = true := by
        simp
        intro h
        apply hk1
        apply UInt8.toNat_inj.1
        show kd.toNat = 1
        omega
      clear hk1 hg
      generalize body.length = bn at *
      go_wp2_with fail
      refine HG.out.mono ?_
      rintro x w2 ⟨v, rfl, ho, hb⟩
      have Hb2 := Lib.hid (below_then Hb1.out hb)
      obtain ⟨Av, cv, rfl, _⟩ := own_shape ho
      clear ho hb HG Hb1
      go_wp2
      go_ret2
      exact (⟨0, false, rfl, HE.out, by omega, Hb2.out.alloc Hb2.out.size _⟩ : HeadR s i w _ _)
end Go.Proofs.YtfepjgafamaegaaGreat
