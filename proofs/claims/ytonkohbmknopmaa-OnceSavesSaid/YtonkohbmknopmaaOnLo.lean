/- Layer 13, the program's Load. -/
import Derived.Test.YtonkohbmknopmaaOnLd
namespace Go.Proofs.Ytonkohbmknopmaa
open Go.RowKit Go.Maps

theorem decCl_id (rem : List UInt8) (err : Nat) : (decCl rem err).1.id < 18446744073709551616 := by
  have h1 := nextU_lt' rem err
  unfold decCl
  dsimp only
  split
  · exact h1
  · split
    · exact h1
    · exact (by decide : (0 : Nat) < 18446744073709551616)
/-- What is made of what was read. -/
def finT (M : Nat) : Option (List Cl × List UInt8 × Nat) → Option Tb
  | none => none
  | some (row, r, e) => if e ≠ 0 ∨ 0 < r.length then none else some ⟨M, row, 0, 0⟩
theorem loadT_eq (b : List UInt8) {M N e1 e2 : Nat} {r1 r2 : List UInt8} (h1 : nextU b 0 = (M, r1, e1)) (h2 : nextU r1 e1 = (N, r2, e2)) : loadT b = if 64 < M ∨ M < N then none else if M < 1 then none else finT M (loadN r2 e2 [] N) := by
  unfold loadT
  rw [h1]
  dsimp only
  rw [h2]
  dsimp only
  split
  · rfl
  · split
    · rfl
    · cases loadN r2 e2 [] N <;> rfl
theorem loadN_no {rem : List UInt8} {err k : Nat} {row : List Cl} (h : (decCl rem err).2.1 = false ∨ (findC (decCl rem err).1.id row).isSome = true) : loadN rem err row (k + 1) = none := by
  unfold loadN
  rw [if_pos h]
theorem loadN_yes {rem : List UInt8} {err k : Nat} {row : List Cl} (h1 : (decCl rem err).2.1 = true) (h2 : findC (decCl rem err).1.id row = none) : loadN rem err row (k + 1) = loadN (decCl rem err).2.2.1 (decCl rem err).2.2.2 (row ++ [(decCl rem err).1]) k := by
  unfold loadN
  rw [if_neg (by rw [h1, h2]; simp)]
  cases k <;> rfl
/-- What Load answers. -/
def LoadE (w : World) (r : Option Tb) (e : Ending) (w' : World) : Prop :=
  (r = none ∧ e = .returned (.tuple #[.pointer none, .int .i64 11]) ∧ Hid (Below w.heap.size w w')) ∨
  ∃ t g F, r = some t ∧ e = .returned (.tuple #[.pointer (some ⟨g, 0, none⟩), .int .i64 0]) ∧ Hid (PT w' F g t ∧ (∀ k, F k → w.heap.size ≤ k) ∧ Below w.heap.size w w')
/-- Ahead of a round. -/
structure LoI (w : World) (R g M k : Nat) (rem : List UInt8) (err : Nat) (row : List Cl) (F : Nat → Prop) (wr : World) : Prop where
  p : PT wr F g ⟨M, row, 0, 0⟩
  ok : Tb.Ok ⟨M, row, 0, 0⟩
  len : row.length = k
  new : ∀ j, F j → R < j ∧ w.heap.size ≤ j
  rd : BRx wr R rem err
  rem : rem.length ≤ 1000000
  bel : Below w.heap.size w wr
set_option maxRecDepth 100000 in
set_option maxHeartbeats 8000000 in
theorem cload_any (A : Option Addr) (n c : Nat) (l : List UInt8) (w : World) (hn : n ≤ 1000000) (h : Rd w w.heap.size A n l) : Calls Try.prog 23 #[.slice A n c] w (LoadE w (loadT l)) := by
  have hl := h.1
  have HNr := Lib.hid (newR13 A n c l w (by omega) h)
  rcases hu : nextU l 0 with ⟨M, r1, e1⟩
  rcases hv : nextU r1 e1 with ⟨N, r2, e2⟩
  have q1 := nextU_rest l 0
  have q2 := nextU_rest r1 e1
  have hM64 := nextU_lt' l 0
  have hN64 := nextU_lt' r1 e1
  rw [hu] at q1 hM64
  rw [hv] at q2 hN64
  dsimp only at q1 q2 hM64 hN64
  have hT := loadT_eq l hu hv
  have HU1 : Hid (∀ W R, BRx W R l 0 → Calls Try.prog 44 #[.pointer (some ⟨R, 0, none⟩)] W fun e w' => e = .returned (.int .u64 (M : Int)) ∧ Hid (BRx w' R r1 e1 ∧ Kp (fun k => k = R) W w')) := Lib.hid fun W R hb => by have := hb.uint; rwa [hu] at this
  have HU2 : Hid (∀ W R, BRx W R r1 e1 → Calls Try.prog 44 #[.pointer (some ⟨R, 0, none⟩)] W fun e w' => e = .returned (.int .u64 (N : Int)) ∧ Hid (BRx w' R r2 e2 ∧ Kp (fun k => k = R) W w')) := Lib.hid fun W R hb => by have := hb.uint; rwa [hv] at this
  obtain ⟨r, hr⟩ : ∃ r, r = loadT l := ⟨_, rfl⟩
  rw [← hr] at hT ⊢
  have HT := Lib.hid hT
  have hr2 : r2.length ≤ 1000000 := by omega
  clear h hu hv hT hr q1 q2 hl
  go_enter Try.func23, Try.ntmps23
  go_wp2_with fail
  refine HNr.out.mono ?_
  clear HNr
  rintro e w1 ⟨R, rfl, HX1⟩
  have HC1 := Lib.hid (HU1.out w1 R (by obtain ⟨_, _, ⟨A', n', c', hb⟩, _⟩ := HX1.out; exact ⟨A', n', c', hb⟩))
  have HK1 : Hid (w.heap.size ≤ R ∧ w1.heap.size = R + 1 ∧ Below w.heap.size w w1) := Lib.hid ⟨HX1.out.1, HX1.out.2.1, HX1.out.2.2.2⟩
  clear HX1 HU1
  go_wp2_with fail
  refine HC1.out.mono ?_
  clear HC1
  rintro e w2 ⟨rfl, HX2⟩
  have HC2 := Lib.hid (HU2.out w2 R HX2.out.1)
  have HK2 : Hid (w.heap.size ≤ R ∧ R + 1 ≤ w2.heap.size ∧ Below w.heap.size w w2) := Lib.hid ⟨HK1.out.1, by have := HX2.out.2.size; have := HK1.out.2.1; omega, HK1.out.2.2.trans (HX2.out.2.below (fun k e => e ▸ HK1.out.1) HK1.out.2.2.size)⟩
  clear HX2 HU2 HK1
  go_wp2_with fail
  refine HC2.out.mono ?_
  clear HC2
  rintro e w3 ⟨rfl, HX3⟩
  have HK3 : Hid (w.heap.size ≤ R ∧ R + 1 ≤ w3.heap.size ∧ Below w.heap.size w w3) := Lib.hid ⟨HK2.out.1, by have := HX3.out.2.size; have := HK2.out.2.1; omega, HK2.out.2.2.trans (HX3.out.2.below (fun k e => e ▸ HK2.out.1) HK2.out.2.2.size)⟩
  have HB3 := Lib.hid HX3.out.1
  clear HX3 HK2
  by_cases hM : 64 < M
  · have m1 : (M : Int) > 64 := by omega
    have hrn : r = none := by rw [HT.out, if_pos (.inl hM)]
    clear HT HB3
    go_wp2
    refine bodyPost_ret (by simp [results, Try.results23, go_sem]; try rfl) rfl ?_
    exact .inl ⟨hrn, rfl, Lib.hid HK3.out.2.2⟩
  have m1 : ¬ (M : Int) > 64 := by omega
  by_cases hN : M < N
  · have m2 : (N : Int) > (M : Int) := by omega
    have hrn : r = none := by rw [HT.out, if_pos (.inr hN)]
    clear HT HB3
    go_wp2
    refine bodyPost_ret (by simp [results, Try.results23, go_sem]; try rfl) rfl ?_
    exact .inl ⟨hrn, rfl, Lib.hid HK3.out.2.2⟩
  have m2 : ¬ (N : Int) > (M : Int) := by omega
  have e0 : IntKind.i64.wrap (M : Int) = (M : Int) := by rw [IntKind.wrap_i64]; omega
  by_cases hM1 : M < 1
  · have hrn : r = none := by rw [HT.out, if_neg (by omega), if_pos hM1]
    have HNw := Lib.hid (cnew_bad (M : Int) w3 (by omega))
    clear HT HB3
    go_wp2_with fail
    refine HNw.out.mono ?_
    rintro e w4 ⟨rfl, rfl⟩
    go_wp2
    refine bodyPost_ret (by simp [results, Try.results23, go_sem]; try rfl) rfl ?_
    exact .inl ⟨hrn, rfl, Lib.hid HK3.out.2.2⟩
  have HNw := Lib.hid (cnew_any M w3 (by omega))
  have HR : Hid (r = finT M (loadN r2 e2 [] N)) := Lib.hid (by rw [HT.out, if_neg (by omega), if_neg hM1])
  clear HT
  go_wp2_with fail
  refine HNw.out.mono ?_
  clear HNw
  rintro e w4 ⟨g, F, rfl, HX4⟩
  have HI0 : Hid (LoI w R g M 0 r2 e2 [] F w4) := Lib.hid ⟨HX4.out.1, Tb.Ok.new ⟨by omega, by omega⟩, rfl, fun j hj => by have := HX4.out.2.1 j hj; have := HK3.out; omega, HB3.out.below HX4.out.2.2, hr2, HK3.out.2.2.trans (HX4.out.2.2.mono (by have := HK3.out; omega))⟩
  have HRl := Lib.hid HK3.out.1
  clear HX4 HB3 HK3 e0
  go_wp2_with fail
  go_loopg [35] N (fun gk a wr => ∃ (k : Nat) (rem : List UInt8) (err : Nat) (row : List Cl) (F : Nat → Prop), a = .int .u64 (k : Int) ∧ k + gk = N ∧ Hid (r = finT M (loadN rem err row gk)) ∧ Hid (LoI w R g M k rem err row F wr))
  case atStart => exact ⟨0, r2, e2, [], F, rfl, by omega, HR, HI0⟩
  case round =>
    obtain ⟨k, rem, err, row, F, rfl, hkg, HRk, HI⟩ := hrel
    clear HR HI0 hr2
    by_cases hkN : k < N
    · obtain ⟨j, rfl⟩ : ∃ j, gk = j + 1 := ⟨gk - 1, by omega⟩
      have m3 : (k : Int) < (N : Int) := by omega
      have e5 : IntKind.u64.wrap ((k : Int) + 1) = ((k + 1 : Nat) : Int) := by rw [IntKind.wrap_u64]; omega
      have HLd := Lib.hid (loadC_any HI.out.rd HI.out.rem)
      have hid' := decCl_id rem err
      have hok' := decCl_ok rem err
      have hrest := decCl_rest rem err
      have hno := fun h => loadN_no (k := j) (row := row) (rem := rem) (err := err) h
      have hyes := fun h1 h2 => loadN_yes (k := j) (row := row) (rem := rem) (err := err) h1 h2
      rcases hd : decCl rem err with ⟨⟨id, num, busy, rep⟩, ok, rem', err'⟩
      rw [hd] at HLd hid' hok' hrest hno hyes
      dsimp only at hid' hok' hrest hno hyes
      have Hno := Lib.hid hno
      have Hyes := Lib.hid hyes
      have Hok := Lib.hid hok'
      have hrem' : rem'.length ≤ 1000000 := by have := HI.out.rem; omega
      clear hd hno hyes hok' hrest
      go_wp2_with fail
      refine HLd.out.mono ?_
      clear HLd
      rintro e w5 ⟨⟨sA, sN, sC⟩, rfl, HX5⟩
      unfold clV s3W
      dsimp only
      have hX5 := HX5.out
      dsimp only at hX5
      have hlt5 : R < w5.heap.size := by have := hX5.2.1.lt; exact this
      obtain ⟨w6, hw6⟩ : ∃ w6, w6 = w5.alloc (.cells #[.int .u64 (id : Int), .int .u64 (num : Int), .bool busy, .slice sA sN sC] 64) := ⟨_, rfl⟩
      obtain ⟨cb, hcb⟩ : ∃ cb, cb = w5.heap.size := ⟨_, rfl⟩
      have hb6 : Below w5.heap.size w5 w6 := by rw [hw6]; exact bel1N _ _
      have hk6 : Bk w6 cb 64 #[.int .u64 (id : Int), .int .u64 (num : Int), .bool busy, .slice sA sN sC] := by rw [hw6, hcb]; exact Bk.new w5 _ _
      have hp6 : PT w6 F g ⟨M, row, 0, 0⟩ := (HI.out.p.kp hX5.2.2 (fun k h e => by have := (HI.out.new k h).1; omega)).below hb6
      have ho6 : w6.ownsRow wr.heap.size 5 1 (.slice sA sN sC) rep.length (u8s rep) := own_below hX5.1 hb6 (fun k e => (hX5.1.lt k e).2)
      have hr6 := hX5.2.1.below hb6
      have hbel6 : Below w.heap.size w w6 := (HI.out.bel.trans (hX5.2.2.below (fun k e => e ▸ HRl.out) HI.out.bel.size)).trans (hb6.mono (by have := HI.out.bel.size; have := hX5.2.2.size; omega))
      have hlt6 := hp6.lt
      have hgc : cb ≠ g := by have h1 := HI.out.p.lt _ HI.out.p.fg; have h2 := hX5.2.2.size; omega
      obtain ⟨A0, n0, c0, es, dn, mp, hp6⟩ := hp6
      have HFd := find_any hp6 HI.out.ok.sure id hid'
      have HBk6 := Lib.hid hp6.bk
      have c0' : w6.cell? ⟨cb, 0, none⟩ = some (.int .u64 (id : Int)) := hk6.cell 0
      have HO6 := Lib.hid (And.intro ho6 (And.intro hr6 (And.intro hbel6 hk6)))
      have HW6 := Lib.hid hw6
      have HCB := Lib.hid hcb
      have hwrz : w.heap.size ≤ wr.heap.size := HI.out.bel.size
      have hRwr : R < wr.heap.size := HI.out.rd.lt
      have Hgc := Lib.hid (And.intro hgc (And.intro hwrz hRwr))
      clear HX5 hX5 hlt5 hw6 hcb hb6 hk6 hp6 ho6 hr6 hbel6 hlt6 hgc hwrz hRwr
      have hnot : ∀ (x : Bool) (w : World), (Op.unary .not (.bool x)).run Try.prog w = .ok (.bool (!x)) w := fun _ _ => rfl
      cases hf : findC id row with
      | some kk =>
        have hrn : r = none := by rw [HRk.out, Hno.out (.inr (by rw [hf]; rfl))]; rfl
        have HFd2 : Hid (Calls Try.prog 30 #[.pointer (some ⟨g, 0, none⟩), .int .u64 (id : Int)] w6 fun e w7 => e = .returned (.tuple #[.int .i64 (kk : Int), .bool true]) ∧ Hid (DoneE w6 F g ⟨M, row, 0, 0⟩ A0 n0 c0 es w7)) := Lib.hid (by
          have h := HFd
          dsimp only at h
          rw [hf] at h
          exact h)
        clear HFd hf HRk Hno Hyes Hok
        go_upto_region 12 with (fail)
        rw [← HW6.out]
        try rw [← HCB.out]
        go_wp2_with fail
        refine HFd2.out.mono ?_
        clear HFd2
        rintro e w7 ⟨rfl, HX7⟩
        have HB7 : Hid (Below w.heap.size w w7) := Lib.hid (by
          obtain ⟨F', b, _, hm, hk⟩ := HX7.out
          exact HO6.out.2.2.1.trans (hk.below (fun k e => by rw [e]; exact (HI.out.new g HI.out.p.fg).2) HO6.out.2.2.1.size))
        clear HX7
        cases ok <;>
        · go_wp2
          refine bodyPost_ret (by simp [results, Try.results23, go_sem]; try rfl) rfl ?_
          exact .inl ⟨hrn, rfl, HB7⟩
      | none =>
        have HFd2 : Hid (Calls Try.prog 30 #[.pointer (some ⟨g, 0, none⟩), .int .u64 (id : Int)] w6 fun e w7 => e = .returned (.tuple #[.int .i64 0, .bool false]) ∧ Hid (DoneE w6 F g ⟨M, row, 0, 0⟩ A0 n0 c0 es w7)) := Lib.hid (by
          have h := HFd
          dsimp only at h
          rw [hf] at h
          exact h)
        have Hf := Lib.hid hf
        clear HFd hf
        go_upto_region 12 with (fail)
        rw [← HW6.out]
        try rw [← HCB.out]
        go_wp2_with fail
        refine HFd2.out.mono ?_
        clear HFd2
        rintro e w7 ⟨rfl, HX7⟩
        obtain ⟨F1, b1, hp7, hm7, hk7⟩ := HX7.out
        cases ok with
        | false =>
          have hrn : r = none := by rw [HRk.out, Hno.out (.inl rfl)]; rfl
          have HB7 : Hid (Below w.heap.size w w7) := Lib.hid (HO6.out.2.2.1.trans (hk7.below (fun k e => by rw [e]; exact (HI.out.new g HI.out.p.fg).2) HO6.out.2.2.1.size))
          clear HX7 hp7 hm7 hk7 HRk Hno Hyes Hok
          go_wp2
          refine bodyPost_ret (by simp [results, Try.results23, go_sem]; try rfl) rfl ?_
          exact .inl ⟨hrn, rfl, HB7⟩
        | true =>
          have hcOk : Cl.Ok ⟨id, num, busy, rep⟩ := Hok.out rfl
          have hRn : r = finT M (loadN rem' err' (row ++ [⟨id, num, busy, rep⟩]) j) := by rw [HRk.out, Hyes.out rfl Hf.out]
          have ho7 : w7.ownsRow wr.heap.size 5 1 (.slice sA sN sC) rep.length (u8s rep) := own_kp HO6.out.1 hk7 (fun k e => own_not_bkC HBk6.out HO6.out.1 (by decide) k e)
          have hp7' : PTm w7 (fun k => F1 k ∨ (Value.slice sA sN sC).ownBlock = some k) g ⟨M, row, 0, 0⟩ A0 n0 c0 es true (some b1) := hp7.mono (fun k e => .inl e) (by
            rintro k (e | e)
            · exact hp7.lt k e
            · exact (ho7.lt k e).2)
          have hn0 : n0 ≤ 200 := by have h1 := hp7.len; have h2 := HI.out.ok.len; have h3 := HI.out.ok.most; dsimp only at h1 h2 h3; omega
          have HAd := add_any hp7' hn0 ⟨id, num, busy, rep⟩ (sA, sN, sC) (own_mono ho7 (Nat.zero_le _)) (fun k e => .inr e)
          unfold clV s3W at HAd
          dsimp only at HAd
          have HAd := Lib.hid HAd
          have hk67 := HO6.out.2.2.2.kp hk7 Hgc.out.1
          have b0 : w7.cell? ⟨cb, 0, none⟩ = some (.int .u64 (id : Int)) := hk67.cell 0
          have b1' : w7.cell? ⟨cb, 1, none⟩ = some (.int .u64 (num : Int)) := hk67.cell 1
          have b2 : w7.cell? ⟨cb, 2, none⟩ = some (.bool busy) := hk67.cell 2
          have b3 : w7.cell? ⟨cb, 3, none⟩ = some (.slice sA sN sC) := hk67.cell 3
          have hF1 : ∀ k, (F1 k ∨ (Value.slice sA sN sC).ownBlock = some k) → R < k ∧ w.heap.size ≤ k := by
            have hz6 := HO6.out.2.2.1.size
            rintro k (e | e)
            · rcases hm7.new k e with h' | h'
              · exact HI.out.new k h'
              · have h1 := HO6.out.2.1.lt
                exact ⟨by omega, by omega⟩
            · have := (ho7.lt k e).1; have := Hgc.out; exact ⟨by omega, by omega⟩
          have HN : Hid (∀ w8 F', PT w8 F' g ⟨M, row ++ [⟨id, num, busy, rep⟩], 0, 0⟩ → Mv (fun k => F1 k ∨ (Value.slice sA sN sC).ownBlock = some k) F' w7 w8 → LoI w R g M (k + 1) rem' err' (row ++ [⟨id, num, busy, rep⟩]) F' w8) := Lib.hid fun w8 F' hp8 hm8 => by
            have hr7 := HO6.out.2.1.kp hk7 (fun j e => by rw [e]; exact (HI.out.new g HI.out.p.fg).1)
            have hbel7 : Below w.heap.size w w7 := HO6.out.2.2.1.trans (hk7.below (fun j e => by rw [e]; exact (HI.out.new g HI.out.p.fg).2) HO6.out.2.2.1.size)
            have hlen := HI.out.len
            have hmo := HI.out.ok.most
            refine ⟨hp8, ⟨hmo, ?_, push_nodup HI.out.ok.ids (findC_none Hf.out), fun c hc => ?_, HI.out.ok.nb, HI.out.ok.na⟩, by rw [List.length_append, hlen]; rfl, fun j hj => ?_, hr7.kp hm8.kp (fun j e => (hF1 j e).1), hrem', hbel7.trans (hm8.kp.below (fun j e => (hF1 j e).2) hbel7.size)⟩
            · show (row ++ [_]).length ≤ M
              rw [List.length_append, hlen]
              show k + 1 ≤ M
              omega
            · rcases List.mem_append.1 hc with hc | hc
              · exact HI.out.ok.each c hc
              · rw [List.mem_singleton.1 hc]; exact hcOk
            · rcases hm8.new j hj with h' | h'
              · exact hF1 j h'
              · have h1 := hr7.lt; have h2 := hbel7.size; exact ⟨by omega, by omega⟩
          have HRn := Lib.hid hRn
          clear HX7 hp7 hm7 hk7 HRk Hno Hyes Hok Hf hp7' ho7 hk67 hF1 hRn hcOk
          go_wp2_with fail
          refine HAd.out.mono ?_
          clear HAd
          rintro e w8 ⟨rfl, HY⟩
          have HM : Hid (∃ F', LoI w R g M (k + 1) rem' err' (row ++ [⟨id, num, busy, rep⟩]) F' w8) := Lib.hid (by
            obtain ⟨F', hp8, hm8⟩ := HY.out
            exact ⟨F', HN.out w8 F' hp8 hm8⟩)
          clear HY HN
          obtain ⟨F8, hM8⟩ := HM.out
          have HM8 := Lib.hid hM8
          clear hM8 HM
          go_wp2
          go_roundg j
          case measure => omega
          case rel => exact ⟨k + 1, rem', err', _, F8, by go_num, by omega, HRn, HM8⟩
    · obtain rfl : k = N := by omega
      obtain rfl : gk = 0 := by omega
      have m3 : ¬ (k : Int) < (k : Int) := by omega
      obtain ⟨A5, n5, c5, hbr⟩ := HI.out.rd
      have hnl : rem.length = n5 := hbr.rd.1
      have hRk : r = if err ≠ 0 ∨ 0 < rem.length then none else some ⟨M, row, 0, 0⟩ := HRk.out
      have HEr := Lib.hid (err_any R _ err wr hbr.blk)
      have HLf := Lib.hid (left_any R A5 n5 c5 _ wr hbr.blk)
      have HZ : Hid (PT wr F g ⟨M, row, 0, 0⟩ ∧ (∀ k, F k → w.heap.size ≤ k) ∧ Below w.heap.size w wr) := Lib.hid ⟨HI.out.p, fun j hj => (HI.out.new j hj).2, HI.out.bel⟩
      clear HI HRk hbr
      by_cases herr : err = 0
      · subst herr
        by_cases hrem : 0 < rem.length
        · have hrn : r = none := by rw [hRk, if_pos (.inr hrem)]
          have m4 : (n5 : Int) > 0 := by omega
          clear hRk hrem
          go_wp2_with (first
            | (go_at_call 46; refine HEr.out.mono ?_; rintro e w' ⟨rfl, rfl⟩)
            | (go_at_call 47; refine HLf.out.mono ?_; rintro e w' ⟨rfl, rfl⟩))
          refine bodyPost_ret (by simp [results, Try.results23, go_sem]; try rfl) rfl ?_
          exact .inl ⟨hrn, rfl, Lib.hid HZ.out.2.2⟩
        · have hrn : r = some ⟨M, row, 0, 0⟩ := by rw [hRk, if_neg (by omega)]
          have m4 : ¬ (n5 : Int) > 0 := by omega
          clear hRk hrem
          go_wp2_with (first
            | (go_at_call 46; refine HEr.out.mono ?_; rintro e w' ⟨rfl, rfl⟩)
            | (go_at_call 47; refine HLf.out.mono ?_; rintro e w' ⟨rfl, rfl⟩))
          refine bodyPost_ret (by simp [results, Try.results23, go_sem]; try rfl) rfl ?_
          exact .inr ⟨_, g, F, hrn, rfl, HZ⟩
      · have hrn : r = none := by rw [hRk, if_pos (.inl herr)]
        have m4 : ((err : Int) != 0) = true := by simp; omega
        have m5 : ¬ (err : Int) = 0 := by omega
        clear hRk herr
        go_wp2_with (first
          | (go_at_call 46; refine HEr.out.mono ?_; rintro e w' ⟨rfl, rfl⟩)
          | (go_at_call 47; refine HLf.out.mono ?_; rintro e w' ⟨rfl, rfl⟩))
        refine bodyPost_ret (by simp [results, Try.results23, go_sem]; try rfl) rfl ?_
        exact .inl ⟨hrn, rfl, Lib.hid HZ.out.2.2⟩
end Go.Proofs.Ytonkohbmknopmaa
