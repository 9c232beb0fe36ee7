/- Of the proofs of layer 4, merged: SynLm. -/
import Derived.Test.YtjapmolmgfaocaaM1SynLk
import Derived.Deep.LoopGhost

/- The program's Look, walked. -/
namespace Go.Proofs.Ytjapmolmgfaocaa
open Go.RowKit Go.Maps

def mlZ : Array Value := #[.int .i64 0, .int .i64 0, .int .i64 0, .int .u64 0, .int .i64 0, .slice none 0 0]
def mlA (m : Ml) (x : Value) : Array Value := #[.int .i64 (m.kind : Int), .int .i64 (m.frm : Int), .int .i64 (m.dst : Int), .int .u64 (m.bal.n : Int), .int .i64 m.bal.node, x]
section
variable {w : World} {col : Nat → Nat} {g N n : Nat} {r : Ro}
theorem RoC.at_ {A : Option Addr} {sn sc : Nat} {R : Option Addr} {rc : Nat} {np : Nat → Np} {es : List Mle} (h : RoC w col g N n A sn sc R rc np es r) (k : Nat) (hk : k < es.length) : r.at_ (k : Int) = es[k].1 := by
  unfold Ro.at_
  rw [Int.toNat_natCast, ← h.eq, List.getD_eq_getElem?_getD, List.getElem?_map, List.getElem?_eq_getElem hk]
  rfl
set_option maxRecDepth 100000 in
set_option maxHeartbeats 4000000 in
theorem look_bad (h : RoM w col g N n r) (a : Int) (hi : r.is a = false) : Calls Try.prog 25 #[.pointer (some ⟨g, 0, none⟩), .int .i64 a] w (LookR w (r.look a).1 (r.look a).2) := by
  obtain ⟨W0, hW0⟩ : ∃ W0, W0 = w.alloc (.cells #[.int .i64 0, .int .i64 0, .int .i64 0, .int .u64 0, .int .i64 0, .slice none 0 0] 63) := ⟨_, rfl⟩
  have hb0 : Below w.heap.size w W0 := by rw [hW0]; exact bel1P _
  have hk0 : Bk W0 w.heap.size 63 #[.int .i64 0, .int .i64 0, .int .i64 0, .int .u64 0, .int .i64 0, .slice none 0 0] := by rw [hW0]; exact Bk.new w _ _
  have HT := Lib.hid (thereM (h.below hb0) a)
  rw [hi] at HT
  have ht : r.look a = (Ml.zero, false) := by unfold Ro.look; rw [if_neg (by rw [hi]; decide)]
  rw [ht]
  have hk6 := hk0.s6S (.int .i64 0) (.int .i64 0) (.int .i64 0) (.int .u64 0) (.int .i64 0) (.slice none 0 0)
  have hkp := st6S W0 w.heap.size (.int .i64 0) (.int .i64 0) (.int .i64 0) (.int .u64 0) (.int .i64 0) (.slice none 0 0)
  have f0 := hk0.frozen 0
  have f1 := hk0.frozen 1
  have f2 := hk0.frozen 2
  have f3 := hk0.frozen 3
  have f4 := hk0.frozen 4
  have f5 := hk0.frozen 5
  have c0 : W0.cell? ⟨w.heap.size, 0, none⟩ = some (.int .i64 0) := hk0.cell 0
  have c1 : W0.cell? ⟨w.heap.size, 1, none⟩ = some (.int .i64 0) := hk0.cell 1
  have c2 : W0.cell? ⟨w.heap.size, 2, none⟩ = some (.int .i64 0) := hk0.cell 2
  have c3 : W0.cell? ⟨w.heap.size, 3, none⟩ = some (.int .u64 0) := hk0.cell 3
  have c4 : W0.cell? ⟨w.heap.size, 4, none⟩ = some (.int .i64 0) := hk0.cell 4
  have c5 : W0.cell? ⟨w.heap.size, 5, none⟩ = some (.slice none 0 0) := hk0.cell 5
  have HW0 := Lib.hid hW0
  have HB := Lib.hid hb0
  have HK := Lib.hid hk6
  have HKp := Lib.hid hkp
  clear hk6 hkp hk0 hb0 hW0 h hi ht
  go_enter Try.func25, Try.ntmps25
  go_upto_region 1 with (fail)
  rw [← HW0.out]
  go_wp2_with fail
  refine HT.out.mono ?_
  rintro e w2 ⟨rfl, rfl⟩
  go_wp2
  obtain ⟨w9, hw9⟩ : ∃ w9, w9 = (((((W0.setCell ⟨w.heap.size, 0, none⟩ (.int .i64 0)).setCell ⟨w.heap.size, 1, none⟩ (.int .i64 0)).setCell ⟨w.heap.size, 2, none⟩ (.int .i64 0)).setCell ⟨w.heap.size, 3, none⟩ (.int .u64 0)).setCell ⟨w.heap.size, 4, none⟩ (.int .i64 0)).setCell ⟨w.heap.size, 5, none⟩ (.slice none 0 0) := ⟨_, rfl⟩
  rw [← hw9]
  have p1 := HK.out
  have p2 := HKp.out
  rw [← hw9] at p1 p2
  have j0 : w9.cell? ⟨w.heap.size, 0, none⟩ = some (.int .i64 0) := p1.cell 0
  have j1 : w9.cell? ⟨w.heap.size, 1, none⟩ = some (.int .i64 0) := p1.cell 1
  have j2 : w9.cell? ⟨w.heap.size, 2, none⟩ = some (.int .i64 0) := p1.cell 2
  have j3 : w9.cell? ⟨w.heap.size, 3, none⟩ = some (.int .u64 0) := p1.cell 3
  have j4 : w9.cell? ⟨w.heap.size, 4, none⟩ = some (.int .i64 0) := p1.cell 4
  have j5 : w9.cell? ⟨w.heap.size, 5, none⟩ = some (.slice none 0 0) := p1.cell 5
  clear hw9
  refine bodyPost_ret (by simp [results, Try.results25, go_sem, j0, j1, j2, j3, j4, j5]; try rfl) rfl ?_
  exact ⟨none, 0, rfl, HB.out.trans (p2.below (fun k e => by omega) HB.out.size), fun v e => by cases e⟩
end
end Go.Proofs.Ytjapmolmgfaocaa
