/- Layer 14: a view in memory; Up. -/
import Derived.Test.YtmdjdnibblebcaaDoorBtP
import Derived.Test.YtmdjdnibblebcaaDoorFoot
import Derived.Test.YtmdjdnibblebcaaDoorOwnP
import Derived.Test.YtmdjdnibblebcaaDoorProg
import Derived.WalkKit
import Derived.Deep.LoopGhost
import Derived.Deep.RegionLaw
import Derived.Deep.RegionHeld3
import Derived.Deep.CutRange
import Derived.Deep.CutBlock
import Derived.Deep.DeepCutAuto
namespace Go.Proofs.YtmdjdnibblebcaaDoor
open Go.RowKit

/-- A row of nodes: at place 2i its site, at 2i + 1 since when. -/
structure NdC (cs : Array Value) (v : Vw) : Prop where
  size : v.n * 2 ≤ cs.size
  site : ∀ i, i < v.n → cs[i * 2]? = some (.int .i64 (v.site i : Int))
  since : ∀ i, i < v.n → cs[i * 2 + 1]? = some (.int .i64 (v.since i : Int))
/-- The cells of a view. -/
abbrev vwA (b c : Nat) (v : Vw) : Array Value := #[.slice (some ⟨b, 0, none⟩) v.n c, .int .i64 (v.me : Int), .int .i64 (v.pat : Int), .int .i64 (v.calm : Int)]
/-- Block g is the program's view v, its nodes in block b. -/
structure PV (w : World) (g b c : Nat) (v : Vw) : Prop where
  ok : v.Ok
  ne : g ≠ b
  cap : v.n ≤ c ∧ c ≤ maxLen
  hd : Bk w g 50 (vwA b c v)
  row : ∃ cs, Bk w b 52 cs ∧ NdC cs v
section
variable {w w' : World} {F : Nat → Prop} {g b c : Nat} {v : Vw}
theorem PV.kp (h : PV w g b c v) (hk : Kp F w w') (hg : ¬ F g) (hb : ¬ F b) : PV w' g b c v := by
  obtain ⟨cs, h1, h2⟩ := h.row
  exact ⟨h.ok, h.ne, h.cap, h.hd.kp hk hg, cs, h1.kp hk hb, h2⟩
theorem PV.below (h : PV w g b c v) (hb : Below w.heap.size w w') : PV w' g b c v := h.kp (F := fun _ => False) (Kp.of_below hb) (fun h => h) (fun h => h)
theorem PV.lt (h : PV w g b c v) : g < w.heap.size ∧ b < w.heap.size := by
  obtain ⟨cs, h1, h2⟩ := h.row
  exact ⟨h.hd.lt, h1.lt⟩
theorem PV.c0 (h : PV w g b c v) : w.cell? ⟨g, 0, none⟩ = some (.slice (some ⟨b, 0, none⟩) v.n c) := h.hd.cell 0
theorem PV.c1 (h : PV w g b c v) : w.cell? ⟨g, 1, none⟩ = some (.int .i64 (v.me : Int)) := h.hd.cell 1
theorem PV.c2 (h : PV w g b c v) : w.cell? ⟨g, 2, none⟩ = some (.int .i64 (v.pat : Int)) := h.hd.cell 2
theorem PV.c3 (h : PV w g b c v) : w.cell? ⟨g, 3, none⟩ = some (.int .i64 (v.calm : Int)) := h.hd.cell 3
theorem PV.site (h : PV w g b c v) (i : Nat) (hi : i < v.n) : w.cell? ⟨b, i * 2, none⟩ = some (.int .i64 (v.site i : Int)) := by
  obtain ⟨cs, h1, h2⟩ := h.row
  rw [h1.cell]; exact h2.site i hi
theorem PV.since (h : PV w g b c v) (i : Nat) (hi : i < v.n) : w.cell? ⟨b, i * 2 + 1, none⟩ = some (.int .i64 (v.since i : Int)) := by
  obtain ⟨cs, h1, h2⟩ := h.row
  rw [h1.cell]; exact h2.since i hi
theorem PV.fg (h : PV w g b c v) (i : Nat) : w.frozen? ⟨g, i, none⟩ = false := h.hd.frozen i
theorem PV.fb (h : PV w g b c v) (i : Nat) : w.frozen? ⟨b, i, none⟩ = false := by
  obtain ⟨cs, h1, h2⟩ := h.row
  exact h1.frozen i
/-- Since when a node was heard is written. -/
theorem PV.setS (h : PV w g b c v) (k x : Nat) (u : Vw) (hok : u.Ok) (hl : v.Like u) (hc : u.calm = v.calm) (hs : ∀ i, i < v.n → u.since i = if i = k then x else v.since i) :
    PV (w.setCell ⟨b, k * 2 + 1, none⟩ (.int .i64 (x : Int))) g b c u := by
  obtain ⟨cs, h1, h2⟩ := h.row
  refine ⟨hok, h.ne, by rw [hl.n]; exact h.cap, ?_, _, h1.set_ (k * 2 + 1) _, ?_⟩
  · have := h.hd.kp (F := fun k => k = b) (Kp.set_ (F := fun k => k = b) (p := ⟨b, k * 2 + 1, none⟩) rfl (.int .i64 (x : Int))) h.ne
    unfold vwA at this ⊢
    rw [hl.n, hl.me, hl.pat, hc]
    exact this
  · refine ⟨by rw [hl.n]; simpa using h2.size, fun i hi => ?_, fun i hi => ?_⟩
    · rw [hl.n] at hi
      rw [Array.getElem?_setIfInBounds_ne (by omega), hl.site]
      exact h2.site i hi
    · rw [hl.n] at hi
      rw [hs i hi]
      by_cases e : i = k
      · subst e
        rw [Array.getElem?_setIfInBounds_self_of_lt (by have := h2.size; omega), if_pos rfl]
      · rw [Array.getElem?_setIfInBounds_ne (by omega), if_neg e]
        exact h2.since i hi
theorem PV.setC (h : PV w g b c v) (x : Nat) (u : Vw) (hok : u.Ok) (hl : v.Like u) (hc : u.calm = x) (hs : u.since = v.since) :
    PV (w.setCell ⟨g, 3, none⟩ (.int .i64 (x : Int))) g b c u := by
  obtain ⟨cs, h1, h2⟩ := h.row
  refine ⟨hok, h.ne, by rw [hl.n]; exact h.cap, ?_, cs, h1.kp (F := fun k => k = g) (Kp.set_ (F := fun k => k = g) (p := ⟨g, 3, none⟩) rfl _) (fun e => h.ne e.symm), ?_⟩
  · have := h.hd.set_ 3 (.int .i64 (x : Int))
    unfold vwA at this ⊢
    rw [hl.n, hl.me, hl.pat, hc]
    exact this
  · refine ⟨by rw [hl.n]; exact h2.size, fun i hi => ?_, fun i hi => ?_⟩
    · rw [hl.site]; exact h2.site i (by rw [← hl.n]; exact hi)
    · rw [hs]; exact h2.since i (by rw [← hl.n]; exact hi)
theorem PV.like (h : PV w g b c v) (u : Vw) (hok : u.Ok) (hl : v.Like u) (hc : u.calm = v.calm) (hs : ∀ i, i < v.n → u.since i = v.since i) : PV w g b c u := by
  obtain ⟨cs, h1, h2⟩ := h.row
  refine ⟨hok, h.ne, by rw [hl.n]; exact h.cap, ?_, cs, h1, ?_⟩
  · have := h.hd
    unfold vwA at this ⊢
    rw [hl.n, hl.me, hl.pat, hc]
    exact this
  · refine ⟨by rw [hl.n]; exact h2.size, fun i hi => ?_, fun i hi => ?_⟩
    · rw [hl.site]; exact h2.site i (by rw [← hl.n]; exact hi)
    · rw [hs i (by rw [← hl.n]; exact hi)]; exact h2.since i (by rw [← hl.n]; exact hi)
end
theorem belA (w : World) (o : Obj) : Below w.heap.size w (w.alloc o) := (Below.refl _ _).alloc (Nat.le_refl _) o
theorem or_u32 (a b : Nat) (ha : a < 4294967296) (hb : b < 4294967296) : bits .or .u32 (a : Int) (b : Int) = ((a ||| b : Nat) : Int) := by
  have hx : a ||| b < 2 ^ 32 := Nat.or_lt_two_pow (by omega) (by omega)
  have h1 : (BitVec.ofInt 32 (a : Int)).toNat = a := by
    rw [BitVec.ofInt_natCast, BitVec.toNat_ofNat]; exact Nat.mod_eq_of_lt (by omega)
  have h2 : (BitVec.ofInt 32 (b : Int)).toNat = b := by
    rw [BitVec.ofInt_natCast, BitVec.toNat_ofNat]; exact Nat.mod_eq_of_lt (by omega)
  show IntKind.u32.wrap ((BitVec.ofInt 32 (a : Int) ||| BitVec.ofInt 32 (b : Int)).toNat : Int) = _
  rw [BitVec.toNat_or, h1, h2, IntKind.wrap_u32]
  omega
theorem and_u32 (a b : Nat) (ha : a < 4294967296) (hb : b < 4294967296) : bits .and .u32 (a : Int) (b : Int) = ((a &&& b : Nat) : Int) := by
  have hx : a &&& b < 2 ^ 32 := Nat.and_lt_two_pow _ (by omega)
  have h1 : (BitVec.ofInt 32 (a : Int)).toNat = a := by
    rw [BitVec.ofInt_natCast, BitVec.toNat_ofNat]; exact Nat.mod_eq_of_lt (by omega)
  have h2 : (BitVec.ofInt 32 (b : Int)).toNat = b := by
    rw [BitVec.ofInt_natCast, BitVec.toNat_ofNat]; exact Nat.mod_eq_of_lt (by omega)
  show IntKind.u32.wrap ((BitVec.ofInt 32 (a : Int) &&& BitVec.ofInt 32 (b : Int)).toNat : Int) = _
  rw [BitVec.toNat_and, h1, h2, IntKind.wrap_u32]
  omega
theorem pow_u32 : ∀ k : Fin 13, (2 : Int) ^ k.val % 4294967296 = ((2 ^ k.val : Nat) : Int) := by decide
theorem bel_drew {B : Nat} {w w' : World} (h : Below B w w') : Below B w w'.drew := ⟨h.os, h.tape, h.output, h.size, h.block⟩
set_option maxRecDepth 100000 in
theorem up_nil (w : World) : Calls Tryd.prog 19 #[.pointer none] w fun e w' => e = .returned (.int .u32 0) ∧ w' = w := by
  go_enter Tryd.func19, Tryd.ntmps19
  go_wp2
  go_ret
  exact ⟨rfl, rfl⟩
set_option maxRecDepth 100000 in
set_option maxHeartbeats 2000000 in
theorem up_any {w : World} {g b c : Nat} {v : Vw} (h : PV w g b c v) : Calls Tryd.prog 19 #[.pointer (some ⟨g, 0, none⟩)] w fun e w' => e = .returned (.int .u32 (v.up : Int)) ∧ Below w.heap.size w w' := by
  have c0 := h.c0
  have HH := Lib.hid h
  have hn12 := h.ok.n12
  have HF : Hid (∀ W, Below w.heap.size w W → PV W g b c v) := Lib.hid fun W hb => h.below hb
  have Hi : Hid (Below w.heap.size w w) := Lib.hid (Below.refl _ _)
  clear h
  go_enter Tryd.func19, Tryd.ntmps19
  go_wp2
  go_loopg [3, 13] v.n (fun gk x y wr => ∃ (i : Nat), x = .int .u32 (upS v.pat v.since i : Int) ∧ y = .int .i64 (i : Int) ∧ i + gk = v.n ∧ Hid (Below w.heap.size w wr))
  case atStart => exact ⟨0, rfl, rfl, by omega, Hi⟩
  case round =>
    obtain ⟨i, rfl, rfl, hig, HB⟩ := hrel
    by_cases hin : i < v.n
    · have m1 : (i : Int) < (v.n : Int) := by omega
      have m0 : ¬ (i : Int) < 0 := by omega
      have e1 : IntKind.i64.wrap ((i : Int) + 1) = ((i + 1 : Nat) : Int) := by rw [IntKind.wrap_i64]; omega
      have hp := HF.out wr HB.out
      have q0 := hp.site i hin
      have q1 := hp.since i hin
      obtain ⟨wa, hwa⟩ : ∃ wa, wa = wr.alloc (Obj.cells #[Value.int IntKind.i64 (v.site i : Int), Value.int IntKind.i64 (v.since i : Int)] 52) := ⟨_, rfl⟩
      have hba : Below wr.heap.size wr wa := by rw [hwa]; exact belA _ _
      have hka : Bk wa wr.heap.size 52 #[Value.int IntKind.i64 (v.site i : Int), Value.int IntKind.i64 (v.since i : Int)] := by rw [hwa]; exact Bk.new wr _ _
      have hpa := hp.below hba
      have HBA := Lib.hid (HB.out.trans (hba.mono (HB.out.size)))
      have HWA := Lib.hid hwa
      have r0 := hpa.c2
      obtain ⟨sb, hsb⟩ : ∃ sb, sb = wr.heap.size := ⟨_, rfl⟩
      rw [← hsb] at hka
      have HSB := Lib.hid hsb
      have r1 : wa.cell? ⟨sb, 1, none⟩ = some (.int .i64 (v.since i : Int)) := hka.cell 1
      have hul := upS_lt v.pat v.since i
      have hp12 : 2 ^ i ≤ 2 ^ 12 := Nat.pow_le_pow_right (by omega) (by omega)
      have hpw : (2 : Int) ^ i % 4294967296 = ((2 ^ i : Nat) : Int) := pow_u32 ⟨i, by omega⟩
      have hor : bits .or .u32 (upS v.pat v.since i : Int) ((2 : Int) ^ i % 4294967296) = ((upS v.pat v.since i ||| 2 ^ i : Nat) : Int) := by rw [hpw]; exact or_u32 _ _ (by omega) (by omega)
      have HU := Lib.hid hul
      clear hwa hba hka hpa hsb hul hp12 hpw hp
      go_upto_region 7 with (fail)
      rw [← HWA.out]
      try rw [← HSB.out]
      clear q0 q1
      by_cases hs : v.since i < v.pat
      · have hs1 : (v.since i : Int) < (v.pat : Int) := by omega
        have hup := upS_or v.pat v.since i hs
        rw [hup] at hor
        clear hup
        go_region
        go_wp2
        go_roundg (gk - 1)
        case measure => omega
        case rel => exact ⟨i + 1, rfl, by go_num, by omega, Lib.hid (bel_drew HBA.out)⟩
      · have hs1 : ¬ (v.since i : Int) < (v.pat : Int) := by omega
        have hup := upS_not v.pat v.since i hs
        go_region
        go_wp2
        go_roundg (gk - 1)
        case measure => omega
        case rel => exact ⟨i + 1, by rw [hup], by go_num, by omega, Lib.hid (bel_drew HBA.out)⟩
    · obtain rfl : i = v.n := by omega
      have m1 : ¬ (v.n : Int) < (v.n : Int) := by omega
      go_wp2
      go_ret
      exact ⟨rfl, HB.out⟩
end Go.Proofs.YtmdjdnibblebcaaDoor
