/- Of the proofs of layer 4, merged: RDisk. -/
import Derived.Test.YtfepjgafamaegaaGreatMWords
import Derived.Test.YtfepjgafamaegaaGreatProg
import Derived.Test.YtfepjgafamaegaaGreatMFoot
import Derived.Test.YtfepjgafamaegaaGreatM1Append2
import Derived.Deep.RegionLaw
import Derived.WalkKit

/- The document's Disk: its block, its rows; act, Arm, Write. -/
namespace Go.Proofs.YtfepjgafamaegaaGreat
open Go.RowKit

theorem Tryz.infoPut : (Tryz.prog.info? 133).map (fun i => (i.zero, i.size, i.bytes)) = some (some (.agg #[.int .i64 0, .string ByteArray.empty]), 2, 24) := by kernel_rfl
theorem Tryz.infoU8R : (Tryz.prog.info? 5).map (fun i => (i.zero, i.size, i.bytes)) = some (some (.int .u8 0), 1, 1) := by kernel_rfl
theorem Tryz.infoStr : (Tryz.prog.info? 9).map (fun i => (i.zero, i.size, i.bytes)) = some (some (.string ByteArray.empty), 1, 16) := by kernel_rfl

def strV (s : List UInt8) : Value := .string ⟨s.toArray⟩
def put1 (w : Nat × List UInt8) : List Value := [.int .i64 (w.1 : Int), strV w.2]
def putC (ws : List (Nat × List UInt8)) : List Value := ws.flatMap put1

/-- Block M is the document's Disk, as it lies in memory. -/
structure DR (w : World) (F : Nat → Prop) (M : Nat) (sv wv : Value) (safe : List (List UInt8)) (ws : List (Nat × List UInt8)) (left : Int) (down : Bool) : Prop where
  blk : Bk w M 117 #[sv, wv, .int .i64 left, .bool down]
  rsafe : w.ownsRow 0 9 1 sv safe.length (safe.map strV)
  rwaits : w.ownsRow 0 133 2 wv ws.length (putC ws)
  srow : ∀ s ∈ safe, s.length = 32
  wrow : ∀ x ∈ ws, x.1 < safe.length ∧ x.2.length = 32
  sne : ∀ k, sv.ownBlock = some k → k ≠ M
  wne : ∀ k, wv.ownBlock = some k → k ≠ M ∧ sv.ownBlock ≠ some k
  foot : F M ∧ (∀ k, sv.ownBlock = some k → F k) ∧ ∀ k, wv.ownBlock = some k → F k
  lt : ∀ k, F k → k < w.heap.size

section
variable {w w' : World} {F G : Nat → Prop} {M : Nat} {sv wv : Value} {safe : List (List UInt8)} {ws : List (Nat × List UInt8)} {left : Int} {down : Bool}
theorem DR.kp (h : DR w F M sv wv safe ws left down) (hk : Kp G w w') (hd : ∀ k, F k → ¬ G k) : DR w' F M sv wv safe ws left down where
  blk := h.blk.kp hk (hd _ h.foot.1)
  rsafe := own_kp h.rsafe hk fun k e => hd _ (h.foot.2.1 k e)
  rwaits := own_kp h.rwaits hk fun k e => hd _ (h.foot.2.2 k e)
  srow := h.srow
  wrow := h.wrow
  sne := h.sne
  wne := h.wne
  foot := h.foot
  lt := fun k hf => Nat.lt_of_lt_of_le (h.lt k hf) hk.size
theorem DR.below (h : DR w F M sv wv safe ws left down) (hb : Below w.heap.size w w') : DR w' F M sv wv safe ws left down := h.kp (G := fun _ => False) (Kp.of_below hb) fun _ _ h => h
theorem DR.drewN (h : DR w F M sv wv safe ws left down) (q : Nat) : DR (w.drewN q) F M sv wv safe ws left down := h.kp (G := fun _ => False) (Kp.drewN _ w q) fun _ _ h => h
theorem DR.alloc (h : DR w F M sv wv safe ws left down) (o : Obj) : DR (w.alloc o) F M sv wv safe ws left down := h.kp (G := fun _ => False) (Kp.alloc _ w o) fun _ _ h => h
theorem DR.setLeft (h : DR w F M sv wv safe ws left down) (n : Int) : DR (w.setCell ⟨M, 2, none⟩ (.int .i64 n)) F M sv wv safe ws n down := by
  have hk : Kp (· = M) w (w.setCell ⟨M, 2, none⟩ (.int .i64 n)) := Kp.set_ (F := (· = M)) (p := ⟨M, 2, none⟩) rfl _
  exact { h with blk := by simpa using h.blk.set_ 2 (.int .i64 n), rsafe := own_kp h.rsafe hk fun k e => h.sne k e, rwaits := own_kp h.rwaits hk fun k e => (h.wne k e).1, lt := fun k hf => Nat.lt_of_lt_of_le (h.lt k hf) hk.size }
theorem DR.setDown (h : DR w F M sv wv safe ws left down) (b : Bool) : DR (w.setCell ⟨M, 3, none⟩ (.bool b)) F M sv wv safe ws left b := by
  have hk : Kp (· = M) w (w.setCell ⟨M, 3, none⟩ (.bool b)) := Kp.set_ (F := (· = M)) (p := ⟨M, 3, none⟩) rfl _
  exact { h with blk := by simpa using h.blk.set_ 3 (.bool b), rsafe := own_kp h.rsafe hk fun k e => h.sne k e, rwaits := own_kp h.rwaits hk fun k e => (h.wne k e).1, lt := fun k hf => Nat.lt_of_lt_of_le (h.lt k hf) hk.size }
/-- Another row of writes. -/
theorem DR.setWaits {w1 : World} {wv' : Value} {ws' : List (Nat × List UInt8)} (h : DR w F M sv wv safe ws left down) (hk : Kp (fun k => wv.ownBlock = some k) w w1) (ho : w1.ownsRow 0 133 2 wv' ws'.length (putC ws'))
    (hb : wv'.ownBlock = wv.ownBlock ∨ ∀ k, wv'.ownBlock = some k → w.heap.size ≤ k) (hr : ∀ x ∈ ws', x.1 < safe.length ∧ x.2.length = 32) :
    DR (w1.setCell ⟨M, 1, none⟩ wv') (fun k => F k ∨ wv'.ownBlock = some k) M sv wv' safe ws' left down ∧ Mv F (fun k => F k ∨ wv'.ownBlock = some k) w (w1.setCell ⟨M, 1, none⟩ wv') := by
  have hk2 : Kp (· = M) w1 (w1.setCell ⟨M, 1, none⟩ wv') := Kp.set_ (F := (· = M)) (p := ⟨M, 1, none⟩) rfl _
  have hlt := ho.lt
  have hne : ∀ k, wv'.ownBlock = some k → k ≠ M ∧ sv.ownBlock ≠ some k := fun k e => by
    rcases hb with hb | hb
    · rw [hb] at e; exact h.wne k e
    · have h0 := hb k e
      have h1 := h.lt M h.foot.1
      refine ⟨by omega, fun e2 => ?_⟩
      have := h.lt k (h.foot.2.1 k e2)
      omega
  have hkk : Kp F w (w1.setCell ⟨M, 1, none⟩ wv') := (hk.mono (fun k e => h.foot.2.2 k e)).trans (hk2.mono fun k e => by rw [e]; exact h.foot.1)
  refine ⟨{ blk := ?_, rsafe := own_kp (own_kp h.rsafe hk fun k e e2 => (h.wne k e2).2 e) hk2 fun k e => h.sne k e, rwaits := own_kp ho hk2 fun k e => (hne k e).1, srow := h.srow, wrow := hr, sne := h.sne, wne := hne, foot := ⟨.inl h.foot.1, fun k e => .inl (h.foot.2.1 k e), fun k e => .inr e⟩, lt := ?_ }, ⟨hkk, ?_⟩⟩
  · have := (h.blk.kp hk fun e => (h.wne M e).1 rfl).set_ 1 wv'
    simpa using this
  · rintro k (hf | e)
    · exact Nat.lt_of_lt_of_le (h.lt k hf) hkk.size
    · exact Nat.lt_of_lt_of_le (hlt k e).2 hk2.size
  · rintro k (hf | e)
    · exact .inl hf
    · rcases hb with hb | hb
      · rw [hb] at e; exact .inl (h.foot.2.2 k e)
      · exact .inr (hb k e)
/-- A sector is laid. -/
theorem DR.setSafe {ms cs : Nat} (h : DR w F M (.slice (some ⟨ms, 0, none⟩) safe.length cs) wv safe ws left down) (a : Nat) (b : List UInt8) (hb : b.length = 32) :
    DR (w.setCell ⟨ms, a, none⟩ (strV b)) F M (.slice (some ⟨ms, 0, none⟩) safe.length cs) wv (safe.set a b) ws left down := by
  have hk : Kp (· = ms) w (w.setCell ⟨ms, a, none⟩ (strV b)) := Kp.set_ (F := (· = ms)) (p := ⟨ms, a, none⟩) rfl _
  obtain ⟨ho, _⟩ := h.rsafe.stored a (strV b)
  refine { blk := h.blk.kp hk fun e => h.sne ms rfl e.symm, rsafe := ?_, rwaits := own_kp h.rwaits hk fun k e e2 => ?_, srow := rows_set h.srow _ hb, wrow := by rw [List.length_set]; exact h.wrow, sne := h.sne, wne := h.wne, foot := h.foot, lt := fun k hf => Nat.lt_of_lt_of_le (h.lt k hf) hk.size }
  · rw [List.length_set, List.map_set]
    exact ho
  · subst e2
    exact (h.wne k e).2 rfl
theorem put2 (l : List (Nat × List UInt8)) : ∀ x ∈ l, (put1 x).length = 2 := fun _ _ => rfl
/-- What waits, read. -/
theorem DR.waitAt {mw lw cw : Nat} (h : DR w F M sv (.slice (some ⟨mw, 0, none⟩) lw cw) safe ws left down) (i : Nat) (hi : i < ws.length) : w.cell? ⟨mw, i * 2, none⟩ = some (.int .i64 (ws[i].1 : Int)) ∧ w.cell? ⟨mw, i * 2 + 1, none⟩ = some (strV ws[i].2) := by
  have hl : lw = ws.length := by
    rcases h.rwaits.2 with ⟨h', _⟩ | ⟨g', c', cur, hv, _⟩
    · cases h'
    · injection hv
  subst hl
  constructor
  · rw [h.rwaits.cellAt (i * 2) (by omega)]
    have := flat_at ws (put2 ws) i 0 hi (by omega)
    exact this
  · rw [h.rwaits.cellAt (i * 2 + 1) (by omega)]
    exact flat_at ws (put2 ws) i 1 hi (by omega)
theorem DR.safeAt {ms ls cs : Nat} (h : DR w F M (.slice (some ⟨ms, 0, none⟩) ls cs) wv safe ws left down) (i : Nat) (hi : i < safe.length) : w.cell? ⟨ms, i, none⟩ = some (strV (safe.getD i [])) := by
  have hl : ls = safe.length := by
    rcases h.rsafe.2 with ⟨h', _⟩ | ⟨g', c', cur, hv, _⟩
    · cases h'
    · injection hv
  subst hl
  rw [h.rsafe.cellAt i (by omega), List.getElem?_map, List.getElem?_eq_getElem hi, take_getD safe [] i hi]
  rfl
end

/-- Block M is the document's disk d. -/
def RD (w : World) (F : Nat → Prop) (M : Nat) (d : Dk) : Prop := ∃ sv wv, DR w F M sv wv d.safe d.waits d.left d.down ∧ -1 ≤ d.left ∧ d.left ≤ 9223372036854775807 ∧ 1 ≤ d.safe.length ∧ d.safe.length ≤ 2048
section
variable {w : World} {F : Nat → Prop} {M : Nat} {d : Dk}
theorem RD.below {w' : World} (h : RD w F M d) (hb : Below w.heap.size w w') : RD w' F M d := by
  obtain ⟨sv, wv, hr, r⟩ := h
  exact ⟨sv, wv, hr.below hb, r⟩
theorem RD.kp {w' : World} {G : Nat → Prop} (h : RD w F M d) (hk : Kp G w w') (hd : ∀ k, F k → ¬ G k) : RD w' F M d := by
  obtain ⟨sv, wv, hr, r⟩ := h
  exact ⟨sv, wv, hr.kp hk hd, r⟩
theorem RD.lt (h : RD w F M d) : ∀ k, F k → k < w.heap.size := by
  obtain ⟨sv, wv, hr, r⟩ := h
  exact hr.lt
theorem RD.len (h : RD w F M d) : 1 ≤ d.safe.length ∧ d.safe.length ≤ 2048 := by
  obtain ⟨sv, wv, hr, _, _, h3⟩ := h
  exact h3
theorem RD.downCell (h : RD w F M d) : w.cell? ⟨M, 3, none⟩ = some (.bool d.down) := by
  obtain ⟨sv, wv, hr, _⟩ := h
  exact hr.blk.cell 3
theorem RD.safeCell (h : RD w F M d) : ∃ ms cs, w.cell? ⟨M, 0, none⟩ = some (.slice (some ⟨ms, 0, none⟩) d.safe.length cs) := by
  obtain ⟨sv, wv, hr, _, _, h3⟩ := h
  rcases hr.rsafe.2 with ⟨_, h0⟩ | ⟨ms, cs, cur, rfl, _⟩
  · omega
  · exact ⟨ms, cs, hr.blk.cell 0⟩
theorem RD.waitCell (h : RD w F M d) : ∃ A c, w.cell? ⟨M, 1, none⟩ = some (.slice A d.waits.length c) := by
  obtain ⟨sv, wv, hr, _⟩ := h
  obtain ⟨A, c, rfl, _⟩ := own_shape hr.rwaits
  exact ⟨A, c, hr.blk.cell 1⟩
end

set_option maxRecDepth 100000 in
set_option maxHeartbeats 1000000 in
theorem ract_meth (M : Nat) (d : Dk) (F : Nat → Prop) (w : World) (h : RD w F M d) :
    Calls Tryz.prog 133 #[.pointer (some ⟨M, 0, none⟩)] w fun e w' => e = .returned (.bool d.act.1) ∧ RD w' F M d.act.2 ∧ Kp F w w' := by
  obtain ⟨sv, wv, hr, hl1, hl2, hlen⟩ := h
  have c2 : w.cell? ⟨M, 2, none⟩ = some (.int .i64 d.left) := hr.blk.cell 2
  have c3 : w.cell? ⟨M, 3, none⟩ = some (.bool d.down) := hr.blk.cell 3
  have f2 := hr.blk.frozen 2
  have f3 := hr.blk.frozen 3
  have hf := hr.foot.1
  unfold Dk.act
  by_cases hd : d.down = true
  · rw [if_pos hd]
    rw [hd] at c3
    by_cases h0 : d.left = 0
    · have H : Hid (RD (w.setCell ⟨M, 3, none⟩ (.bool true)) F M d ∧ Kp F w (w.setCell ⟨M, 3, none⟩ (.bool true))) :=
        ⟨⟨sv, wv, by have := hr.setDown true; rwa [← hd] at this ⊢, hl1, hl2, hlen⟩, Kp.set_ (p := ⟨M, 3, none⟩) hf _⟩
      rw [h0] at c2
      clear hr hl1 hl2 hlen hf h0
      go_enter Tryz.func133, Tryz.ntmps133
      go_wp2
      go_ret
      exact ⟨rfl, H.out⟩
    · have H : Hid (RD w F M d ∧ Kp F w w) := ⟨⟨sv, wv, hr, hl1, hl2, hlen⟩, Kp.refl F w⟩
      clear hr hlen hf
      go_enter Tryz.func133, Tryz.ntmps133
      go_wp2
      go_ret
      exact ⟨rfl, H.out⟩
  · rw [if_neg hd]
    have hd' : d.down = false := by simpa using hd
    rw [hd'] at c3
    by_cases h0 : d.left = 0
    · rw [if_pos h0]
      have H : Hid (RD (w.setCell ⟨M, 3, none⟩ (.bool true)) F M { d with down := true } ∧ Kp F w (w.setCell ⟨M, 3, none⟩ (.bool true))) :=
        ⟨⟨sv, wv, hr.setDown true, hl1, hl2, hlen⟩, Kp.set_ (p := ⟨M, 3, none⟩) hf _⟩
      rw [h0] at c2
      clear hr hl1 hl2 hlen hf h0
      go_enter Tryz.func133, Tryz.ntmps133
      go_wp2
      go_ret
      exact ⟨rfl, H.out⟩
    · rw [if_neg h0]
      by_cases hp : 0 < d.left
      · rw [if_pos hp]
        have H : Hid (RD (w.setCell ⟨M, 2, none⟩ (.int .i64 (d.left - 1))) F M { d with left := d.left - 1 } ∧ Kp F w (w.setCell ⟨M, 2, none⟩ (.int .i64 (d.left - 1)))) :=
          ⟨⟨sv, wv, hr.setLeft (d.left - 1), by simp only; omega, by simp only; omega, hlen⟩, Kp.set_ (p := ⟨M, 2, none⟩) hf _⟩
        clear hr hlen hf
        go_enter Tryz.func133, Tryz.ntmps133
        go_wp2
        go_ret
        exact ⟨rfl, H.out⟩
      · rw [if_neg hp]
        have H : Hid (RD w F M d ∧ Kp F w w) := ⟨⟨sv, wv, hr, hl1, hl2, hlen⟩, Kp.refl F w⟩
        clear hr hlen hf
        go_enter Tryz.func133, Tryz.ntmps133
        go_wp2
        go_ret
        exact ⟨rfl, H.out⟩

set_option maxRecDepth 100000 in
set_option maxHeartbeats 1000000 in
theorem rarm_meth (M : Nat) (d : Dk) (F : Nat → Prop) (n : Int) (w : World) (h1 : n ≤ 9223372036854775807) (h : RD w F M d) :
    Calls Tryz.prog 60 #[.pointer (some ⟨M, 0, none⟩), .int .i64 n] w fun e w' => e = .returned (.tuple #[]) ∧ RD w' F M (d.arm n) ∧ Kp F w w' := by
  obtain ⟨sv, wv, hr, hl1, hl2, hlen⟩ := h
  have c2 : w.cell? ⟨M, 2, none⟩ = some (.int .i64 d.left) := hr.blk.cell 2
  have f2 := hr.blk.frozen 2
  have hf := hr.foot.1
  unfold Dk.arm
  by_cases hn : n < 0
  · rw [if_pos hn]
    have H : Hid (RD ((w.setCell ⟨M, 2, none⟩ (.int .i64 n)).setCell ⟨M, 2, none⟩ (.int .i64 (-1))) F M { d with left := -1 } ∧ Kp F w ((w.setCell ⟨M, 2, none⟩ (.int .i64 n)).setCell ⟨M, 2, none⟩ (.int .i64 (-1)))) :=
      ⟨⟨sv, wv, (hr.setLeft n).setLeft (-1), by simp, by simp, hlen⟩, (Kp.set_ (p := ⟨M, 2, none⟩) hf _).trans (Kp.set_ (p := ⟨M, 2, none⟩) hf _)⟩
    clear hr hlen hf hl1 hl2
    go_enter Tryz.func60, Tryz.ntmps60
    go_wp2
    go_end0
    exact ⟨rfl, H.out⟩
  · rw [if_neg hn]
    have H : Hid (RD (w.setCell ⟨M, 2, none⟩ (.int .i64 n)) F M { d with left := n } ∧ Kp F w (w.setCell ⟨M, 2, none⟩ (.int .i64 n))) :=
      ⟨⟨sv, wv, hr.setLeft n, by simp only; omega, by simp only; omega, hlen⟩, Kp.set_ (p := ⟨M, 2, none⟩) hf _⟩
    clear hr hlen hf hl1 hl2
    go_enter Tryz.func60, Tryz.ntmps60
    go_wp2
    go_end0
    exact ⟨rfl, H.out⟩
end Go.Proofs.YtfepjgafamaegaaGreat
