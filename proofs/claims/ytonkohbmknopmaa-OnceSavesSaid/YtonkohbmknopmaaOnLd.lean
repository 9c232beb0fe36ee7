/- Layer 13, the program's loadClient. -/
import Derived.Test.YtonkohbmknopmaaOnL
namespace Go.Proofs.Ytonkohbmknopmaa
open Go.RowKit Go.Maps

set_option maxRecDepth 100000 in
theorem newR13 (A : Option Addr) (n c : Nat) (l : List UInt8) (w : World) (hn : n ≤ 140737488355328) (h : Rd w w.heap.size A n l) :
    Calls Try.prog 43 #[.slice A n c] w fun e w' => ∃ R, e = .returned (.pointer (some ⟨R, 0, none⟩)) ∧ Hid (w.heap.size ≤ R ∧ w'.heap.size = R + 1 ∧ (∃ A' n' c', BR w' R l 0 A' n' c') ∧ Below w.heap.size w w') := by
  have Hc := Lib.hid (cloneB_any A n c w.heap.size l w hn (Nat.le_refl _) h)
  have hl := h.1
  clear h
  go_enter Try.func43, Try.ntmps43
  go_wp2_with fail
  refine Hc.out.mono ?_
  rintro e w1 ⟨v, rfl, ho, hb⟩
  obtain ⟨As, cs, rfl, hcs, hcm⟩ := own_shape ho
  have Ho := Lib.hid ho
  have Hb := Lib.hid hb
  clear ho hb
  go_wp2
  go_ret
  have z := Hb.out.size
  have hb2 := below_then Hb.out (bel1N w1 (.cells #[.slice As n cs, .int .i64 0] 115))
  exact ⟨w1.heap.size, rfl, Lib.hid ⟨z, by simp, ⟨As, n, cs, Bk.new w1 _ _, ⟨hcs, by unfold maxLen at hcm; omega⟩, (Rd.of_own Ho.out).below (bel1N w1 _)⟩, hb2⟩⟩
theorem Kp.cutNew {F G : Nat → Prop} {w w' : World} (h : Kp F w w') (hF : ∀ k, F k → G k ∨ w.heap.size ≤ k) : Kp G w w' :=
  ⟨h.os, h.tape, h.output, h.size, fun k hk hg => h.block k hk fun hf => by
    rcases hF k hf with a | a
    · exact hg a
    · omega⟩
/-- The Reader is there. -/
def BRx (w : World) (R : Nat) (rem : List UInt8) (err : Nat) : Prop := ∃ A n c, BR w R rem err A n c
section
variable {w w' : World} {R err : Nat} {rem : List UInt8} {F : Nat → Prop}
theorem BRx.kp (h : BRx w R rem err) (hk : Kp F w w') (hF : ∀ k, F k → R < k) : BRx w' R rem err := by
  obtain ⟨A, n, c, h⟩ := h
  have hz := h.blk.lt
  exact ⟨A, n, c, h.blk.kp hk (fun hf => by have := hF R hf; omega), h.cap, h.rd.kp hk (by omega) fun k hk2 hf => by have := hF k hf; omega⟩
theorem BRx.below (h : BRx w R rem err) (hb : Below w.heap.size w w') : BRx w' R rem err := h.kp (F := fun _ => False) (Kp.of_below hb) fun _ h => h.elim
theorem BRx.lt (h : BRx w R rem err) : R < w.heap.size := by obtain ⟨A, n, c, h⟩ := h; exact h.blk.lt
theorem BRx.uint (h : BRx w R rem err) : Calls Try.prog 44 #[.pointer (some ⟨R, 0, none⟩)] w fun e w' => e = .returned (.int .u64 ((nextU rem err).1 : Int)) ∧ Hid (BRx w' R (nextU rem err).2.1 (nextU rem err).2.2 ∧ Kp (fun k => k = R) w w') := by
  obtain ⟨A, n, c, h⟩ := h
  refine (uint_meth R A n c err rem w h).mono ?_
  rintro e w' ⟨rfl, hb, hg⟩
  exact ⟨rfl, Lib.hid ⟨hb, Kp.of_grown hg rfl⟩⟩
theorem BRx.bytes (h : BRx w R rem err) (hn : rem.length ≤ 1000000) : Calls Try.prog 63 #[.pointer (some ⟨R, 0, none⟩), .int .i64 200] w fun e w' => ∃ A c, e = .returned (.slice A (nextB rem err 200).1.length c) ∧ Hid (w'.ownsRow w.heap.size 5 1 (.slice A (nextB rem err 200).1.length c) (nextB rem err 200).1.length (u8s (nextB rem err 200).1) ∧ BRx w' R (nextB rem err 200).2.1 (nextB rem err 200).2.2 ∧ Kp (fun k => k = R) w w') := by
  obtain ⟨A, n, c, h⟩ := h
  have hl := h.rd.1
  refine (bytes_meth R A n c err 200 rem w (by omega) (by decide) (by decide) h).mono ?_
  rintro e w' ⟨s, rfl, ho, hb, hg⟩
  obtain ⟨A', c', rfl, _⟩ := own_shape ho
  exact ⟨A', c', rfl, Lib.hid ⟨ho, hb, Kp.of_grown hg rfl⟩⟩
theorem st4C (w : World) (g : Nat) (a b c d : Value) : Kp (fun k => k = g) w ((((w.setCell ⟨g, 0, none⟩ a).setCell ⟨g, 1, none⟩ b).setCell ⟨g, 2, none⟩ c).setCell ⟨g, 3, none⟩ d) := Kp.sets (F := fun k => k = g) rfl [a, b, c, d] 0 w
def DecE (w : World) (R : Nat) (d : Cl × Bool × List UInt8 × Nat) (e : Ending) (w' : World) : Prop :=
  ∃ s, e = .returned (.tuple #[clV d.1 s, .bool d.2.1]) ∧ Hid (w'.ownsRow w.heap.size 5 1 (s3W s) d.1.rep.length (u8s d.1.rep) ∧ BRx w' R d.2.2.1 d.2.2.2 ∧ Kp (fun k => k = R) w w')
set_option maxRecDepth 100000 in
set_option maxHeartbeats 4000000 in
theorem loadC_any (h : BRx w R rem err) (hn : rem.length ≤ 1000000) : Calls Try.prog 45 #[.pointer (some ⟨R, 0, none⟩)] w (DecE w R (decCl rem err)) := by
  have hlR := h.lt
  obtain ⟨W1, hW1⟩ : ∃ W1, W1 = w.alloc (.cells #[.int .u64 0, .int .u64 0, .bool false, .slice none 0 0] 64) := ⟨_, rfl⟩
  have hb1 : Below w.heap.size w W1 := by rw [hW1]; exact bel1N _ _
  have hk1 : Bk W1 w.heap.size 64 #[.int .u64 0, .int .u64 0, .bool false, .slice none 0 0] := by rw [hW1]; exact Bk.new w _ _
  have hr1 := h.below hb1
  rcases hu : nextU rem err with ⟨id, r1, e1⟩
  rcases hv : nextU r1 e1 with ⟨num, r2, e2⟩
  rcases hx : nextU r2 e2 with ⟨x, r3, e3⟩
  have q1 := nextU_rest rem err
  have q2 := nextU_rest r1 e1
  have q3 := nextU_rest r2 e2
  rw [hu] at q1
  rw [hv] at q2
  rw [hx] at q3
  dsimp only at q1 q2 q3
  have HU1 := Lib.hid hr1.uint
  have HU2 : Hid (∀ W, BRx W R r1 e1 → Calls Try.prog 44 #[.pointer (some ⟨R, 0, none⟩)] W fun e w' => e = .returned (.int .u64 (num : Int)) ∧ Hid (BRx w' R r2 e2 ∧ Kp (fun k => k = R) W w')) := Lib.hid fun W hb => by have := hb.uint; rwa [hv] at this
  have HU3 : Hid (∀ W, BRx W R r2 e2 → Calls Try.prog 44 #[.pointer (some ⟨R, 0, none⟩)] W fun e w' => e = .returned (.int .u64 (x : Int)) ∧ Hid (BRx w' R r3 e3 ∧ Kp (fun k => k = R) W w')) := Lib.hid fun W hb => by have := hb.uint; rwa [hx] at this
  rw [hu] at HU1
  have HD : Hid (decCl rem err = if x = 0 then (⟨id, num, false, (nextB r3 e3 200).1⟩, decide (0 < num), (nextB r3 e3 200).2.1, (nextB r3 e3 200).2.2) else if x = 1 then (⟨id, num, true, []⟩, decide (0 < num), r3, e3) else (Cl.none, false, r3, e3)) := by
    show _ = _
    unfold decCl
    rw [hu]
    dsimp only
    rw [hv]
    dsimp only
    rw [hx]
  have HW1 := Lib.hid hW1
  have HK1 := Lib.hid (And.intro hk1 hb1)
  have HlR := Lib.hid hlR
  clear h hW1 hk1 hb1 hr1 hu hv hx hlR
  obtain ⟨d, hd⟩ : ∃ d, d = decCl rem err := ⟨_, rfl⟩
  rw [← hd] at HD ⊢
  clear hd
  go_enter Try.func45, Try.ntmps45
  go_upto_region 1 with (fail)
  rw [← HW1.out]
  go_wp2_with fail
  refine HU1.out.mono ?_
  clear HU1
  rintro e w2 ⟨rfl, HX2⟩
  have HC2 := Lib.hid (HU2.out w2 HX2.out.1)
  have HK2 := Lib.hid (And.intro (HK1.out.1.kp HX2.out.2 (by have := HlR.out; omega)) ((Kp.of_below HK1.out.2).trans HX2.out.2))
  clear HX2 HU2 HK1
  go_wp2_with fail
  refine HC2.out.mono ?_
  clear HC2
  rintro e w3 ⟨rfl, HX3⟩
  have HK3 := Lib.hid (And.intro (HK2.out.1.kp HX3.out.2 (by have := HlR.out; omega)) (HK2.out.2.trans HX3.out.2))
  obtain ⟨w4, hw4⟩ : ∃ w4, w4 = w3.alloc (.cells #[.int .u64 (id : Int), .int .u64 (num : Int), .bool false, .slice none 0 0] 64) := ⟨_, rfl⟩
  obtain ⟨cb, hcb⟩ : ∃ cb, cb = w3.heap.size := ⟨_, rfl⟩
  have hb4 : Below w3.heap.size w3 w4 := by rw [hw4]; exact bel1N _ _
  have hk4 : Bk w4 cb 64 #[.int .u64 (id : Int), .int .u64 (num : Int), .bool false, .slice none 0 0] := by rw [hw4, hcb]; exact Bk.new w3 _ _
  have hlt3 := HK3.out.1.lt
  have HC4 := Lib.hid (HU3.out w4 (HX3.out.1.below hb4))
  have HK4 := Lib.hid (And.intro (HK3.out.1.below hb4 hlt3) (And.intro (HK3.out.2.trans (Kp.of_below hb4)) hk4))
  have Hcb : Hid (w.heap.size < cb ∧ R < cb) := Lib.hid (by have := HlR.out; omega)
  have HW4 := Lib.hid hw4
  have HCB := Lib.hid hcb
  clear HX3 HU3 HK2 HK3 hb4 hk4 hw4 hcb hlt3
  go_upto_region 2 with (fail)
  rw [← HW4.out]
  try rw [← HCB.out]
  go_wp2_with fail
  refine HC4.out.mono ?_
  clear HC4
  rintro e w5 ⟨rfl, HX5⟩
  have HK5 := Lib.hid (And.intro (HK4.out.1.kp HX5.out.2 (by have := HlR.out; omega)) (And.intro (HK4.out.2.1.trans HX5.out.2) (HK4.out.2.2.kp HX5.out.2 (by have := Hcb.out; omega))))
  have HB5 := Lib.hid HX5.out.1
  clear HX5 HK4 HW4 HCB HW1
  by_cases hx0 : x = 0
  · subst hx0
    have HBy := Lib.hid (HB5.out.bytes (by omega))
    rcases hy : nextB r3 e3 200 with ⟨rep, r4, e4⟩
    rw [hy] at HBy
    dsimp only at HBy
    have hD := HD.out
    rw [if_pos rfl, hy] at hD
    dsimp only at hD
    clear HB5 HD hy
    subst hD
    go_wp2_with fail
    refine HBy.out.mono ?_
    clear HBy
    rintro e w6 ⟨A6, c6, rfl, HX6⟩
    have HK6 := Lib.hid (And.intro (HK5.out.1.kp HX6.out.2.2 (by have := HlR.out; omega)) (And.intro (HK5.out.2.1.trans HX6.out.2.2) (HK5.out.2.2.kp HX6.out.2.2 (by have := Hcb.out; omega))))
    have y3 : w6.cell? ⟨cb, 3, none⟩ = some (.slice none 0 0) := HK6.out.2.2.cell 3
    have yf := HK6.out.2.2.frozen 3
    obtain ⟨wc, hwc⟩ : ∃ wc, wc = w6.setCell ⟨cb, 3, none⟩ (.slice A6 rep.length c6) := ⟨_, rfl⟩
    have hkc : Kp (fun k => k = cb) w6 wc := by rw [hwc]; exact Kp.set_ (F := fun k => k = cb) (p := ⟨cb, 3, none⟩) rfl _
    have HKc : Hid (Bk wc w.heap.size 64 #[.int .u64 0, .int .u64 0, .bool false, .slice none 0 0] ∧ Kp (fun k => k = R ∨ k = cb) w wc ∧ Bk wc cb 64 #[.int .u64 (id : Int), .int .u64 (num : Int), .bool false, .slice A6 rep.length c6]) := Lib.hid
      ⟨HK6.out.1.kp hkc (by have := Hcb.out; omega), (HK6.out.2.1.mono fun k e => .inl e).trans (hkc.mono fun k e => .inr e), by rw [hwc]; exact HK6.out.2.2.set_ 3 _⟩
    have HO : Hid (wc.ownsRow w.heap.size 5 1 (.slice A6 rep.length c6) rep.length (u8s rep) ∧ BRx wc R r4 e4) := Lib.hid
      ⟨own_mono (own_kp HX6.out.1 hkc (fun k e e2 => own_not_bkC HK6.out.2.2 HX6.out.1 (by decide) k e e2)) (by have := HK5.out.2.1.size; exact this), HX6.out.2.1.kp hkc fun k e => by have := Hcb.out; omega⟩
    have HWc := Lib.hid hwc
    clear HX6 HK5 HK6 hkc hwc
    go_upto_region 8 with (fail)
    rw [← HWc.out]
    clear y3 yf HWc
    have hbc := HKc.out.2.2
    have c0 : wc.cell? ⟨cb, 0, none⟩ = some (.int .u64 (id : Int)) := hbc.cell 0
    have c1 : wc.cell? ⟨cb, 1, none⟩ = some (.int .u64 (num : Int)) := hbc.cell 1
    have c2 : wc.cell? ⟨cb, 2, none⟩ = some (.bool false) := hbc.cell 2
    have c3 : wc.cell? ⟨cb, 3, none⟩ = some (.slice A6 rep.length c6) := hbc.cell 3
    have hbr := HKc.out.1
    have b0 : wc.cell? ⟨w.heap.size, 0, none⟩ = some (.int .u64 0) := hbr.cell 0
    have b1 : wc.cell? ⟨w.heap.size, 1, none⟩ = some (.int .u64 0) := hbr.cell 1
    have b2 : wc.cell? ⟨w.heap.size, 2, none⟩ = some (.bool false) := hbr.cell 2
    have b3 : wc.cell? ⟨w.heap.size, 3, none⟩ = some (.slice none 0 0) := hbr.cell 3
    have f0 := hbr.frozen 0
    have f1 := hbr.frozen 1
    have f2 := hbr.frozen 2
    have f3 := hbr.frozen 3
    have hset : ((((wc.setCell ⟨w.heap.size, 0, none⟩ (.int .u64 (id : Int))).setCell ⟨w.heap.size, 1, none⟩ (.int .u64 (num : Int))).setCell ⟨w.heap.size, 2, none⟩ (.bool false)).setCell ⟨w.heap.size, 3, none⟩ (.slice A6 rep.length c6)).cell? ⟨cb, 1, none⟩ = some (.int .u64 (num : Int)) :=
      cell_kp (p := ⟨cb, 1, none⟩) c1 (st4C wc w.heap.size _ _ _ _) (by have := Hcb.out; show cb ≠ w.heap.size; omega)
    have HF : Hid (∀ W2, W2 = ((((wc.setCell ⟨w.heap.size, 0, none⟩ (.int .u64 (id : Int))).setCell ⟨w.heap.size, 1, none⟩ (.int .u64 (num : Int))).setCell ⟨w.heap.size, 2, none⟩ (.bool false)).setCell ⟨w.heap.size, 3, none⟩ (.slice A6 rep.length c6)).drew →
        W2.cell? ⟨w.heap.size, 0, none⟩ = some (.int .u64 (id : Int)) ∧ W2.cell? ⟨w.heap.size, 1, none⟩ = some (.int .u64 (num : Int)) ∧ W2.cell? ⟨w.heap.size, 2, none⟩ = some (.bool false) ∧ W2.cell? ⟨w.heap.size, 3, none⟩ = some (.slice A6 rep.length c6) ∧ Kp (fun k => k = w.heap.size) wc W2) := Lib.hid fun W2 e => by
      subst e
      have h4 := ((((hbr.set_ 0 (.int .u64 (id : Int))).set_ 1 (.int .u64 (num : Int))).set_ 2 (.bool false)).set_ 3 (.slice A6 rep.length c6)).kp (F := fun _ => False) (Kp.drew _ _) (fun h => h)
      exact ⟨h4.cell 0, h4.cell 1, h4.cell 2, h4.cell 3, (st4C wc w.heap.size _ _ _ _).trans (Kp.drew _ _)⟩
    go_wp2_with fail
    go_region
    all_goals
      obtain ⟨w8, hw8⟩ : ∃ w8, w8 = ((((wc.setCell ⟨w.heap.size, 0, none⟩ (.int .u64 (id : Int))).setCell ⟨w.heap.size, 1, none⟩ (.int .u64 (num : Int))).setCell ⟨w.heap.size, 2, none⟩ (.bool false)).setCell ⟨w.heap.size, 3, none⟩ (.slice A6 rep.length c6)).drew := ⟨_, rfl⟩
      obtain ⟨j0, j1, j2, j3, hk8⟩ := HF.out w8 hw8
      rw [← hw8]
      go_wp2_with fail
      clear hw8 c0 c1 c2 c3 b0 b1 b2 b3 f0 f1 f2 f3 hset hbc hbr HF
      refine bodyPost_ret (by simp [results, Try.results45, go_sem, j0, j1, j2, j3]; try rfl) rfl ?_
      refine ⟨(A6, rep.length, c6), rfl, Lib.hid ⟨own_kp HO.out.1 hk8 (fun k e e2 => ?_), HO.out.2.kp hk8 (fun k e => by have := HlR.out; omega), ?_⟩⟩
      · exact own_not_bkC HKc.out.1 HO.out.1 (by decide) k e e2
      · refine ((HKc.out.2.1.trans' hk8 fun k e => .inr (by omega)).cutNew fun k e => ?_)
        rcases e with e | e
        · exact .inl e
        · have := Hcb.out; exact .inr (by omega)
  · by_cases hx1 : x = 1
    · subst hx1
      have hD := HD.out
      rw [if_neg (by decide), if_pos rfl] at hD
      clear HD hx0
      subst hD
      have y2 : w5.cell? ⟨cb, 2, none⟩ = some (.bool false) := HK5.out.2.2.cell 2
      have yf := HK5.out.2.2.frozen 2
      obtain ⟨wc, hwc⟩ : ∃ wc, wc = w5.setCell ⟨cb, 2, none⟩ (.bool true) := ⟨_, rfl⟩
      have hkc : Kp (fun k => k = cb) w5 wc := by rw [hwc]; exact Kp.set_ (F := fun k => k = cb) (p := ⟨cb, 2, none⟩) rfl _
      have HKc : Hid (Bk wc w.heap.size 64 #[.int .u64 0, .int .u64 0, .bool false, .slice none 0 0] ∧ Kp (fun k => k = R ∨ k = cb) w wc ∧ Bk wc cb 64 #[.int .u64 (id : Int), .int .u64 (num : Int), .bool true, .slice none 0 0]) := Lib.hid
        ⟨HK5.out.1.kp hkc (by have := Hcb.out; omega), (HK5.out.2.1.mono fun k e => .inl e).trans (hkc.mono fun k e => .inr e), by rw [hwc]; exact HK5.out.2.2.set_ 2 _⟩
      have HO : Hid (wc.ownsRow w.heap.size 5 1 (.slice none 0 0) ([] : List UInt8).length (u8s []) ∧ BRx wc R r3 e3) := Lib.hid ⟨World.ownsRow_nil _ _ _ _, HB5.out.kp hkc fun k e => by have := Hcb.out; omega⟩
      have HWc := Lib.hid hwc
      clear HB5 HK5 hkc hwc
      go_upto_region 8 with (fail)
      rw [← HWc.out]
      clear y2 yf HWc
      have hbc := HKc.out.2.2
      have c0 : wc.cell? ⟨cb, 0, none⟩ = some (.int .u64 (id : Int)) := hbc.cell 0
      have c1 : wc.cell? ⟨cb, 1, none⟩ = some (.int .u64 (num : Int)) := hbc.cell 1
      have c2 : wc.cell? ⟨cb, 2, none⟩ = some (.bool true) := hbc.cell 2
      have c3 : wc.cell? ⟨cb, 3, none⟩ = some (.slice none 0 0) := hbc.cell 3
      have hbr := HKc.out.1
      have b0 : wc.cell? ⟨w.heap.size, 0, none⟩ = some (.int .u64 0) := hbr.cell 0
      have b1 : wc.cell? ⟨w.heap.size, 1, none⟩ = some (.int .u64 0) := hbr.cell 1
      have b2 : wc.cell? ⟨w.heap.size, 2, none⟩ = some (.bool false) := hbr.cell 2
      have b3 : wc.cell? ⟨w.heap.size, 3, none⟩ = some (.slice none 0 0) := hbr.cell 3
      have f0 := hbr.frozen 0
      have f1 := hbr.frozen 1
      have f2 := hbr.frozen 2
      have f3 := hbr.frozen 3
      have hset : ((((wc.setCell ⟨w.heap.size, 0, none⟩ (.int .u64 (id : Int))).setCell ⟨w.heap.size, 1, none⟩ (.int .u64 (num : Int))).setCell ⟨w.heap.size, 2, none⟩ (.bool true)).setCell ⟨w.heap.size, 3, none⟩ (.slice none 0 0)).cell? ⟨cb, 1, none⟩ = some (.int .u64 (num : Int)) :=
        cell_kp (p := ⟨cb, 1, none⟩) c1 (st4C wc w.heap.size _ _ _ _) (by have := Hcb.out; show cb ≠ w.heap.size; omega)
      have HF : Hid (∀ W2, W2 = ((((wc.setCell ⟨w.heap.size, 0, none⟩ (.int .u64 (id : Int))).setCell ⟨w.heap.size, 1, none⟩ (.int .u64 (num : Int))).setCell ⟨w.heap.size, 2, none⟩ (.bool true)).setCell ⟨w.heap.size, 3, none⟩ (.slice none 0 0)).drew →
          W2.cell? ⟨w.heap.size, 0, none⟩ = some (.int .u64 (id : Int)) ∧ W2.cell? ⟨w.heap.size, 1, none⟩ = some (.int .u64 (num : Int)) ∧ W2.cell? ⟨w.heap.size, 2, none⟩ = some (.bool true) ∧ W2.cell? ⟨w.heap.size, 3, none⟩ = some (.slice none 0 0) ∧ Kp (fun k => k = w.heap.size) wc W2) := Lib.hid fun W2 e => by
        subst e
        have h4 := ((((hbr.set_ 0 (.int .u64 (id : Int))).set_ 1 (.int .u64 (num : Int))).set_ 2 (.bool true)).set_ 3 (.slice none 0 0)).kp (F := fun _ => False) (Kp.drew _ _) (fun h => h)
        exact ⟨h4.cell 0, h4.cell 1, h4.cell 2, h4.cell 3, (st4C wc w.heap.size _ _ _ _).trans (Kp.drew _ _)⟩
      go_wp2_with fail
      go_region
      all_goals
        obtain ⟨w8, hw8⟩ : ∃ w8, w8 = ((((wc.setCell ⟨w.heap.size, 0, none⟩ (.int .u64 (id : Int))).setCell ⟨w.heap.size, 1, none⟩ (.int .u64 (num : Int))).setCell ⟨w.heap.size, 2, none⟩ (.bool true)).setCell ⟨w.heap.size, 3, none⟩ (.slice none 0 0)).drew := ⟨_, rfl⟩
        obtain ⟨j0, j1, j2, j3, hk8⟩ := HF.out w8 hw8
        rw [← hw8]
        go_wp2_with fail
        clear hw8 c0 c1 c2 c3 b0 b1 b2 b3 f0 f1 f2 f3 hset hbc hbr HF
        refine bodyPost_ret (by simp [results, Try.results45, go_sem, j0, j1, j2, j3]; try rfl) rfl ?_
        refine ⟨(none, 0, 0), rfl, Lib.hid ⟨own_kp HO.out.1 hk8 (fun k e e2 => ?_), HO.out.2.kp hk8 (fun k e => by have := HlR.out; omega), ?_⟩⟩
        · cases e
        · refine ((HKc.out.2.1.trans' hk8 fun k e => .inr (by omega)).cutNew fun k e => ?_)
          rcases e with e | e
          · exact .inl e
          · have := Hcb.out; exact .inr (by omega)
    · have hD := HD.out
      rw [if_neg hx0, if_neg hx1] at hD
      clear HD
      subst hD
      have n1 : ((x : Int) == 0) = false := by simp; omega
      have n2 : ((x : Int) == 1) = false := by simp; omega
      have n3 : ¬ (x : Int) = 0 := by omega
      have n4 : ¬ (x : Int) = 1 := by omega
      have hbr := HK5.out.1
      have b0 : w5.cell? ⟨w.heap.size, 0, none⟩ = some (.int .u64 0) := hbr.cell 0
      have b1 : w5.cell? ⟨w.heap.size, 1, none⟩ = some (.int .u64 0) := hbr.cell 1
      have b2 : w5.cell? ⟨w.heap.size, 2, none⟩ = some (.bool false) := hbr.cell 2
      have b3 : w5.cell? ⟨w.heap.size, 3, none⟩ = some (.slice none 0 0) := hbr.cell 3
      have f0 := hbr.frozen 0
      have f1 := hbr.frozen 1
      have f2 := hbr.frozen 2
      have f3 := hbr.frozen 3
      clear hx0 hx1
      go_wp2_with fail
      have h4 := (((hbr.set_ 0 (.int .u64 0)).set_ 1 (.int .u64 0)).set_ 2 (.bool false)).set_ 3 (.slice none 0 0)
      have hk4 := st4C w5 w.heap.size (.int .u64 0) (.int .u64 0) (.bool false) (.slice none 0 0)
      generalize ((((w5.setCell ⟨w.heap.size, 0, none⟩ (.int .u64 0)).setCell ⟨w.heap.size, 1, none⟩ (.int .u64 0)).setCell ⟨w.heap.size, 2, none⟩ (.bool false)).setCell ⟨w.heap.size, 3, none⟩ (.slice none 0 0)) = w8 at *
      have j0 : w8.cell? ⟨w.heap.size, 0, none⟩ = some (.int .u64 0) := h4.cell 0
      have j1 : w8.cell? ⟨w.heap.size, 1, none⟩ = some (.int .u64 0) := h4.cell 1
      have j2 : w8.cell? ⟨w.heap.size, 2, none⟩ = some (.bool false) := h4.cell 2
      have j3 : w8.cell? ⟨w.heap.size, 3, none⟩ = some (.slice none 0 0) := h4.cell 3
      refine bodyPost_ret (by simp [results, Try.results45, go_sem, j0, j1, j2, j3]; try rfl) rfl ?_
      exact ⟨(none, 0, 0), rfl, Lib.hid ⟨World.ownsRow_nil _ _ _ _, HB5.out.kp hk4 (fun k e => by have := HlR.out; omega), HK5.out.2.1.trans' hk4 fun k e => .inr (by omega)⟩⟩
end
end Go.Proofs.Ytonkohbmknopmaa
