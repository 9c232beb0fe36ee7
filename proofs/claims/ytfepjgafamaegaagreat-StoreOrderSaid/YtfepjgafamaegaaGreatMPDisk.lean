/- Of the proofs of layer 4, merged: PDisk, PDisk2. -/
import Derived.Test.YtfepjgafamaegaaGreatMWords
import Derived.Test.YtfepjgafamaegaaGreatProg
import Derived.Test.YtfepjgafamaegaaGreatMFoot
import Derived.Test.YtfepjgafamaegaaGreatM1Mid
import Derived.WalkKit

/- The program's Disk: its block, its rows; and the methods that only look, or turn a number. -/
namespace Go.Proofs.YtfepjgafamaegaaGreat
open Go.RowKit

def secC (l : List (List UInt8)) : List Value := l.flatMap u8s
def wr1 (w : Nat × List UInt8) : List Value := .int .i64 (w.1 : Int) :: u8s w.2
def wrC (ws : List (Nat × List UInt8)) : List Value := ws.flatMap wr1

/-- Block g is a Disk of the program, as it lies in memory. -/
structure PR (w : World) (F : Nat → Prop) (g gn cn gs cs : Nat) (wv : Value) (now safe : List (List UInt8)) (ws : List (Nat × List UInt8)) (up : Bool) (pl : Int) : Prop where
  blk : Bk w g 126 #[.slice (some ⟨gn, 0, none⟩) safe.length cn, .slice (some ⟨gs, 0, none⟩) safe.length cs, wv, .bool up, .int .i64 pl]
  rnow : w.ownsRow 0 128 32 (.slice (some ⟨gn, 0, none⟩) safe.length cn) safe.length (secC now)
  rsafe : w.ownsRow 0 128 32 (.slice (some ⟨gs, 0, none⟩) safe.length cs) safe.length (secC safe)
  rwaits : w.ownsRow 0 130 33 wv ws.length (wrC ws)
  nlen : now.length = safe.length
  nrow : ∀ s ∈ now, s.length = 32
  srow : ∀ s ∈ safe, s.length = 32
  wrow : ∀ x ∈ ws, x.1 < safe.length ∧ x.2.length = 32
  ne1 : g ≠ gn
  ne2 : g ≠ gs
  ne3 : gn ≠ gs
  wne : ∀ k, wv.ownBlock = some k → k ≠ g ∧ k ≠ gn ∧ k ≠ gs
  foot : F g ∧ F gn ∧ F gs ∧ ∀ k, wv.ownBlock = some k → F k
  lt : ∀ k, F k → k < w.heap.size

section
variable {w w' : World} {F G : Nat → Prop} {g gn cn gs cs : Nat} {wv : Value} {now safe : List (List UInt8)} {ws : List (Nat × List UInt8)} {up : Bool} {pl : Int}
theorem PR.kp (h : PR w F g gn cn gs cs wv now safe ws up pl) (hk : Kp G w w') (hd : ∀ k, F k → ¬ G k) : PR w' F g gn cn gs cs wv now safe ws up pl where
  blk := h.blk.kp hk (hd _ h.foot.1)
  rnow := own_kp h.rnow hk fun k e => by injection e with e; subst e; exact hd _ h.foot.2.1
  rsafe := own_kp h.rsafe hk fun k e => by injection e with e; subst e; exact hd _ h.foot.2.2.1
  rwaits := own_kp h.rwaits hk fun k e => hd _ (h.foot.2.2.2 k e)
  nlen := h.nlen
  nrow := h.nrow
  srow := h.srow
  wrow := h.wrow
  ne1 := h.ne1
  ne2 := h.ne2
  ne3 := h.ne3
  wne := h.wne
  foot := h.foot
  lt := fun k hf => Nat.lt_of_lt_of_le (h.lt k hf) hk.size
theorem PR.below (h : PR w F g gn cn gs cs wv now safe ws up pl) (hb : Below w.heap.size w w') : PR w' F g gn cn gs cs wv now safe ws up pl := h.kp (G := fun _ => False) (Kp.of_below hb) fun _ _ h => h
theorem PR.drewN (h : PR w F g gn cn gs cs wv now safe ws up pl) (q : Nat) : PR (w.drewN q) F g gn cn gs cs wv now safe ws up pl := h.kp (G := fun _ => False) (Kp.drewN _ w q) fun _ _ h => h
theorem PR.alloc (h : PR w F g gn cn gs cs wv now safe ws up pl) (o : Obj) : PR (w.alloc o) F g gn cn gs cs wv now safe ws up pl := h.kp (G := fun _ => False) (Kp.alloc _ w o) fun _ _ h => h

theorem PR.setUp (h : PR w F g gn cn gs cs wv now safe ws up pl) (b : Bool) : PR (w.setCell ⟨g, 3, none⟩ (.bool b)) F g gn cn gs cs wv now safe ws b pl := by
  have hk : Kp (· = g) w (w.setCell ⟨g, 3, none⟩ (.bool b)) := Kp.set_ (F := (· = g)) (p := ⟨g, 3, none⟩) rfl _
  refine { h with blk := by simpa using h.blk.set_ 3 (.bool b), rnow := own_kp h.rnow hk ?_, rsafe := own_kp h.rsafe hk ?_, rwaits := own_kp h.rwaits hk fun k e => (h.wne k e).1, lt := fun k hf => Nat.lt_of_lt_of_le (h.lt k hf) hk.size }
  · intro k e e2; injection e with e; exact h.ne1 (by rw [← e2, ← e])
  · intro k e e2; injection e with e; exact h.ne2 (by rw [← e2, ← e])
theorem PR.setLeft (h : PR w F g gn cn gs cs wv now safe ws up pl) (n : Int) : PR (w.setCell ⟨g, 4, none⟩ (.int .i64 n)) F g gn cn gs cs wv now safe ws up n := by
  have hk : Kp (· = g) w (w.setCell ⟨g, 4, none⟩ (.int .i64 n)) := Kp.set_ (F := (· = g)) (p := ⟨g, 4, none⟩) rfl _
  refine { h with blk := by simpa using h.blk.set_ 4 (.int .i64 n), rnow := own_kp h.rnow hk ?_, rsafe := own_kp h.rsafe hk ?_, rwaits := own_kp h.rwaits hk fun k e => (h.wne k e).1, lt := fun k hf => Nat.lt_of_lt_of_le (h.lt k hf) hk.size }
  · intro k e e2; injection e with e; exact h.ne1 (by rw [← e2, ← e])
  · intro k e e2; injection e with e; exact h.ne2 (by rw [← e2, ← e])
/-- Another row of writes: in the old one's block, or in a new one. -/
theorem PR.setWaits {w1 : World} {wv' : Value} {ws' : List (Nat × List UInt8)} (h : PR w F g gn cn gs cs wv now safe ws up pl) (hk : Kp (fun k => wv.ownBlock = some k) w w1) (ho : w1.ownsRow 0 130 33 wv' ws'.length (wrC ws'))
    (hb : wv'.ownBlock = wv.ownBlock ∨ ∀ k, wv'.ownBlock = some k → w.heap.size ≤ k) (hr : ∀ x ∈ ws', x.1 < safe.length ∧ x.2.length = 32) :
    PR (w1.setCell ⟨g, 2, none⟩ wv') (fun k => F k ∨ wv'.ownBlock = some k) g gn cn gs cs wv' now safe ws' up pl ∧ Mv F (fun k => F k ∨ wv'.ownBlock = some k) w (w1.setCell ⟨g, 2, none⟩ wv') := by
  have hk2 : Kp (· = g) w1 (w1.setCell ⟨g, 2, none⟩ wv') := Kp.set_ (F := (· = g)) (p := ⟨g, 2, none⟩) rfl _
  have hlt := ho.lt
  have hne : ∀ k, wv'.ownBlock = some k → k ≠ g ∧ k ≠ gn ∧ k ≠ gs := fun k e => by
    rcases hb with hb | hb
    · rw [hb] at e; exact h.wne k e
    · have h0 := hb k e
      have h1 := h.lt g h.foot.1
      have h2 := h.lt gn h.foot.2.1
      have h3 := h.lt gs h.foot.2.2.1
      omega
  have hkk : Kp F w (w1.setCell ⟨g, 2, none⟩ wv') := (hk.mono (fun k e => h.foot.2.2.2 k e)).trans (hk2.mono fun k e => by rw [e]; exact h.foot.1)
  refine ⟨{ blk := ?_, rnow := own_kp (own_kp h.rnow hk ?_) hk2 ?_, rsafe := own_kp (own_kp h.rsafe hk ?_) hk2 ?_, rwaits := own_kp ho hk2 fun k e => (hne k e).1, nlen := h.nlen, nrow := h.nrow, srow := h.srow, wrow := hr, ne1 := h.ne1, ne2 := h.ne2, ne3 := h.ne3, wne := hne, foot := ⟨.inl h.foot.1, .inl h.foot.2.1, .inl h.foot.2.2.1, fun k e => .inr e⟩, lt := ?_ }, ⟨hkk, ?_⟩⟩
  · have := (h.blk.kp hk fun e => (h.wne g e).1 rfl).set_ 2 wv'
    simpa using this
  · intro k e e2; injection e with e; exact (h.wne k e2).2.1 e.symm
  · intro k e e2; injection e with e; exact h.ne1 (by rw [← e2, ← e])
  · intro k e e2; injection e with e; exact (h.wne k e2).2.2 e.symm
  · intro k e e2; injection e with e; exact h.ne2 (by rw [← e2, ← e])
  · rintro k (hf | e)
    · exact Nat.lt_of_lt_of_le (h.lt k hf) hkk.size
    · exact Nat.lt_of_lt_of_le (hlt k e).2 hk2.size
  · rintro k (hf | e)
    · exact .inl hf
    · rcases hb with hb | hb
      · rw [hb] at e; exact .inl (h.foot.2.2.2 k e)
      · exact .inr (hb k e)

theorem u8s32 {l : List (List UInt8)} (h : ∀ s ∈ l, s.length = 32) : ∀ x ∈ l, (u8s x).length = 32 := fun x hx => by rw [u8s_len]; exact h x hx
theorem wr33 {l : List (Nat × List UInt8)} {n : Nat} (h : ∀ x ∈ l, x.1 < n ∧ x.2.length = 32) : ∀ x ∈ l, (wr1 x).length = 33 := fun x hx => by unfold wr1; rw [List.length_cons, u8s_len, (h x hx).2]
theorem secC_lay (l : List (List UInt8)) (hl : ∀ s ∈ l, s.length = 32) (a n : Nat) (b : List UInt8) (hb : b.length = 32) (hn : n ≤ 32) (ha : a < l.length) :
    over (secC l) (a * 32) (u8s (b.take n)) = secC (l.set a (lay n b (l.getD a []))) := by
  have hr := hl _ (List.getElem_mem ha)
  have hlay : (lay n b (l.getD a [])).length = 32 := lay_len _ _ _ hb (rows_getD hl ha) hn
  unfold secC
  rw [← flat_set l (u8s32 hl) a _ ha (by rw [u8s_len]; exact hlay)]
  have hlen := flat_len l (u8s32 hl)
  have hbt : (u8s (b.take n)).length = n := by rw [u8s_len, List.length_take]; omega
  have hle : a * 32 + 32 ≤ l.length * 32 := by omega
  apply List.ext_getElem?
  intro j
  rw [over_get _ _ _ (by rw [hbt]; omega), over_get _ _ _ (by rw [u8s_len, hlay]; omega), hbt, u8s_len, hlay]
  by_cases h1 : a * 32 ≤ j ∧ j < a * 32 + 32
  · rw [if_pos h1]
    obtain ⟨k, rfl⟩ : ∃ k, j = a * 32 + k := ⟨j - a * 32, by omega⟩
    rw [Nat.add_sub_cancel_left, u8s_get, u8s_get (lay n b (l.getD a [])), lay_at _ _ _ hb hn]
    by_cases h2 : k < n
    · rw [if_pos (by omega), if_pos h2, List.getElem?_take_of_lt h2]
    · rw [if_neg (by omega), if_neg h2, flat_at l (u8s32 hl) a k ha (by omega), u8s_get, take_getD l [] a ha]
  · rw [if_neg h1, if_neg (by omega)]
theorem PR.laySafe (h : PR w F g gn cn gs cs wv now safe ws up pl) (a n : Nat) (b : List UInt8) (hb : b.length = 32) (hn : n ≤ 32) (ha : a < safe.length) :
    PR (w.setCells gs (a * 32) (u8s (b.take n))) F g gn cn gs cs wv now (safe.set a (lay n b (safe.getD a []))) ws up pl := by
  have hk : Kp (· = gs) w (w.setCells gs (a * 32) (u8s (b.take n))) := Kp.sets (F := fun k => k = _) rfl _ _ _
  have hl : (safe.set a (lay n b (safe.getD a []))).length = safe.length := List.length_set
  have ho := own_sets h.rsafe (a * 32) (u8s (b.take n)) (by rw [u8s_len, List.length_take]; omega)
  rw [secC_lay safe h.srow a n b hb hn ha] at ho
  have h1 := own_kp h.rnow hk (fun k e e2 => by injection e with e; exact h.ne3 (by rw [← e2, ← e]))
  refine { blk := by rw [hl]; exact h.blk.kp hk h.ne2, rnow := by rw [hl]; exact h1, rsafe := by rw [hl]; exact ho, rwaits := own_kp h.rwaits hk fun k e => (h.wne k e).2.2, nlen := by rw [hl]; exact h.nlen, nrow := h.nrow, srow := rows_set h.srow _ (lay_len _ _ _ hb (rows_getD h.srow ha) hn), wrow := by rw [hl]; exact h.wrow, ne1 := h.ne1, ne2 := h.ne2, ne3 := h.ne3, wne := h.wne, foot := h.foot, lt := fun k hf => Nat.lt_of_lt_of_le (h.lt k hf) hk.size }
theorem PR.layNow (h : PR w F g gn cn gs cs wv now safe ws up pl) (a : Nat) (b : List UInt8) (hb : b.length = 32) (ha : a < safe.length) :
    PR (w.setCells gn (a * 32) (u8s b)) F g gn cn gs cs wv (now.set a b) safe ws up pl := by
  have hk : Kp (· = gn) w (w.setCells gn (a * 32) (u8s b)) := Kp.sets (F := fun k => k = _) rfl _ _ _
  have ho := own_sets h.rnow (a * 32) (u8s b) (by rw [u8s_len]; omega)
  have hna : a < now.length := by rw [h.nlen]; exact ha
  have e : over (secC now) (a * 32) (u8s b) = secC (now.set a b) := flat_set now (u8s32 h.nrow) a b hna (by rw [u8s_len]; exact hb)
  rw [e] at ho
  refine { blk := h.blk.kp hk h.ne1, rnow := ho, rsafe := own_kp h.rsafe hk ?_, rwaits := own_kp h.rwaits hk fun k e => (h.wne k e).2.1, nlen := by rw [List.length_set]; exact h.nlen, nrow := rows_set h.nrow _ hb, srow := h.srow, wrow := h.wrow, ne1 := h.ne1, ne2 := h.ne2, ne3 := h.ne3, wne := h.wne, foot := h.foot, lt := fun k hf => Nat.lt_of_lt_of_le (h.lt k hf) hk.size }
  intro k e e2; injection e with e; exact h.ne3 (by rw [← e2, ← e])
/-- What a load of a sector, and of a write, reads. -/
theorem PR.nowAt (h : PR w F g gn cn gs cs wv now safe ws up pl) (a : Nat) (ha : a < safe.length) : w.rangeAt gn (a * 32) (u8s (now.getD a [])) := by
  have hna : a < now.length := by rw [h.nlen]; exact ha
  refine own_range h.rnow _ _ fun j u hu => ?_
  have hj : j < 32 := by
    have := (List.getElem?_eq_some_iff.1 hu).1
    rw [u8s_len, rows_getD h.nrow hna] at this
    exact this
  show (now.flatMap u8s)[a * 32 + j]? = _
  rw [flat_at now (u8s32 h.nrow) a j hna hj, ← hu, take_getD now [] a hna]
theorem PR.safeAt (h : PR w F g gn cn gs cs wv now safe ws up pl) (a : Nat) (ha : a < safe.length) : w.rangeAt gs (a * 32) (u8s (safe.getD a [])) := by
  refine own_range h.rsafe _ _ fun j u hu => ?_
  have hj : j < 32 := by
    have := (List.getElem?_eq_some_iff.1 hu).1
    rw [u8s_len, rows_getD h.srow ha] at this
    exact this
  show (safe.flatMap u8s)[a * 32 + j]? = _
  rw [flat_at safe (u8s32 h.srow) a j ha hj, ← hu, take_getD safe [] a ha]
theorem PR.waitAt {gw lw cw : Nat} (h : PR w F g gn cn gs cs (.slice (some ⟨gw, 0, none⟩) lw cw) now safe ws up pl) (i : Nat) (hi : i < ws.length) : w.rangeAt gw (i * 33) (wr1 ws[i]) := by
  have hl : lw = ws.length := by
    rcases h.rwaits.2 with ⟨h', _⟩ | ⟨g', c', cur, hv, _⟩
    · cases h'
    · injection hv
  subst hl
  refine own_range h.rwaits _ _ fun j u hu => ?_
  have hj : j < 33 := by
    have := (List.getElem?_eq_some_iff.1 hu).1
    rw [wr33 h.wrow _ (List.getElem_mem hi)] at this
    exact this
  show (ws.flatMap wr1)[i * 33 + j]? = _
  rw [flat_at ws (wr33 h.wrow) i j hi hj, hu]
end

/-- Block g is the disk d. -/
def PD (w : World) (F : Nat → Prop) (g : Nat) (d : Dk) : Prop :=
  ∃ gn cn gs cs wv pl, PR w F g gn cn gs cs wv (syncS d.safe d.waits) d.safe d.waits (!d.down) pl ∧ (pl = d.left ∨ (pl < 0 ∧ d.left = -1)) ∧ -1 ≤ d.left ∧ d.left ≤ 9223372036854775807 ∧ -9223372036854775808 ≤ pl ∧ 1 ≤ d.safe.length ∧ d.safe.length ≤ 2048
end Go.Proofs.YtfepjgafamaegaaGreat

/- The program's Disk: what only looks; act, Arm. -/
namespace Go.Proofs.YtfepjgafamaegaaGreat
open Go.RowKit

section
variable {w : World} {F : Nat → Prop} {g : Nat} {d : Dk}
theorem PD.below {w' : World} (h : PD w F g d) (hb : Below w.heap.size w w') : PD w' F g d := by
  obtain ⟨gn, cn, gs, cs, wv, pl, hr, r⟩ := h
  exact ⟨gn, cn, gs, cs, wv, pl, hr.below hb, r⟩
theorem PD.kp {w' : World} {G : Nat → Prop} (h : PD w F g d) (hk : Kp G w w') (hd : ∀ k, F k → ¬ G k) : PD w' F g d := by
  obtain ⟨gn, cn, gs, cs, wv, pl, hr, r⟩ := h
  exact ⟨gn, cn, gs, cs, wv, pl, hr.kp hk hd, r⟩
theorem PD.lt (h : PD w F g d) : ∀ k, F k → k < w.heap.size := by
  obtain ⟨gn, cn, gs, cs, wv, pl, hr, r⟩ := h
  exact hr.lt
theorem PD.foot (h : PD w F g d) : F g := by
  obtain ⟨gn, cn, gs, cs, wv, pl, hr, r⟩ := h
  exact hr.foot.1
theorem PD.ok (h : PD w F g d) : d.Ok := by
  obtain ⟨gn, cn, gs, cs, wv, pl, hr, _, h2, _⟩ := h
  exact ⟨hr.srow, hr.wrow, h2⟩
theorem PD.len (h : PD w F g d) : 1 ≤ d.safe.length ∧ d.safe.length ≤ 2048 := by
  obtain ⟨gn, cn, gs, cs, wv, pl, hr, _, h2, _, _, h3⟩ := h
  exact h3
end

set_option maxRecDepth 100000 in
set_option maxHeartbeats 400000 in
theorem up_meth (g : Nat) (d : Dk) (F : Nat → Prop) (w : World) (h : PD w F g d) :
    Calls Tryz.prog 110 #[.pointer (some ⟨g, 0, none⟩)] w fun e w' => e = .returned (.bool (!d.down)) ∧ w = w' := by
  obtain ⟨gn, cn, gs, cs, wv, pl, hr, _⟩ := h
  have c3 : w.cell? ⟨g, 3, none⟩ = some (.bool (!d.down)) := hr.blk.cell 3
  clear hr
  go_enter Tryz.func110, Tryz.ntmps110
  go_wp2
  go_ret
  exact ⟨rfl, rfl⟩
set_option maxRecDepth 100000 in
set_option maxHeartbeats 400000 in
theorem up_nil (w : World) : Calls Tryz.prog 110 #[.pointer none] w fun e w' => e = .returned (.bool false) ∧ w = w' := by
  go_enter Tryz.func110, Tryz.ntmps110
  go_wp2
  go_ret
  exact ⟨rfl, rfl⟩
set_option maxRecDepth 100000 in
set_option maxHeartbeats 400000 in
theorem sectors_meth (g : Nat) (d : Dk) (F : Nat → Prop) (w : World) (h : PD w F g d) :
    Calls Tryz.prog 109 #[.pointer (some ⟨g, 0, none⟩)] w fun e w' => e = .returned (.int .i64 d.safe.length) ∧ w = w' := by
  obtain ⟨gn, cn, gs, cs, wv, pl, hr, _⟩ := h
  have c2 : w.cell? ⟨g, 0, none⟩ = some (.slice (some ⟨gn, 0, none⟩) d.safe.length cn) := hr.blk.cell 0
  clear hr
  generalize d.safe.length = n at *
  go_enter Tryz.func109, Tryz.ntmps109
  go_wp2
  go_ret
  exact ⟨rfl, rfl⟩
set_option maxRecDepth 100000 in
set_option maxHeartbeats 400000 in
theorem sectors_nil (w : World) : Calls Tryz.prog 109 #[.pointer none] w fun e w' => e = .returned (.int .i64 0) ∧ w = w' := by
  go_enter Tryz.func109, Tryz.ntmps109
  go_wp2
  go_ret
  exact ⟨rfl, rfl⟩

def Dk.reach (d : Dk) (a : Int) : Int := if d.down then 6 else if a < 0 ∨ (d.safe.length : Int) ≤ a then 30 else 0
set_option maxRecDepth 100000 in
set_option maxHeartbeats 400000 in
theorem reach_nil (a : Int) (w : World) : Calls Tryz.prog 129 #[.pointer none, .int .i64 a] w fun e w' => e = .returned (.int .i64 1) ∧ w = w' := by
  go_enter Tryz.func129, Tryz.ntmps129
  go_wp2
  go_ret
  exact ⟨rfl, rfl⟩
set_option maxRecDepth 100000 in
set_option maxHeartbeats 400000 in
theorem reach_meth (g : Nat) (d : Dk) (F : Nat → Prop) (a : Int) (w : World) (h : PD w F g d) :
    Calls Tryz.prog 129 #[.pointer (some ⟨g, 0, none⟩), .int .i64 a] w fun e w' => e = .returned (.int .i64 (d.reach a)) ∧ w = w' := by
  obtain ⟨gn, cn, gs, cs, wv, pl, hr, _⟩ := h
  have c0 : w.cell? ⟨g, 0, none⟩ = some (.slice (some ⟨gn, 0, none⟩) d.safe.length cn) := hr.blk.cell 0
  have c3 : w.cell? ⟨g, 3, none⟩ = some (.bool (!d.down)) := hr.blk.cell 3
  clear hr
  unfold Dk.reach
  generalize d.safe.length = n at *
  by_cases hd : d.down = true
  · rw [if_pos hd]
    rw [hd] at c3
    go_enter Tryz.func129, Tryz.ntmps129
    go_wp2
    go_ret
    exact ⟨rfl, rfl⟩
  · rw [if_neg hd]
    have hd' : d.down = false := by simpa using hd
    rw [hd'] at c3
    by_cases h0 : a < 0
    · rw [if_pos (.inl h0)]
      go_enter Tryz.func129, Tryz.ntmps129
      go_wp2
      go_ret
      exact ⟨rfl, rfl⟩
    · by_cases h1 : (n : Int) ≤ a
      · rw [if_pos (.inr h1)]
        go_enter Tryz.func129, Tryz.ntmps129
        go_wp2
        go_ret
        exact ⟨rfl, rfl⟩
      · rw [if_neg (by omega)]
        go_enter Tryz.func129, Tryz.ntmps129
        go_wp2
        go_ret
        exact ⟨rfl, rfl⟩

set_option maxRecDepth 100000 in
set_option maxHeartbeats 1000000 in
theorem act_meth (g : Nat) (d : Dk) (F : Nat → Prop) (w : World) (hd : d.down = false) (h : PD w F g d) :
    Calls Tryz.prog 130 #[.pointer (some ⟨g, 0, none⟩)] w fun e w' => e = .returned (.bool d.act.1) ∧ PD w' F g d.act.2 ∧ Kp F w w' := by
  obtain ⟨gn, cn, gs, cs, wv, pl, hr, hpl, hl1, hl2, hl3, hlen⟩ := h
  have c3 : w.cell? ⟨g, 3, none⟩ = some (.bool (!d.down)) := hr.blk.cell 3
  have c4 : w.cell? ⟨g, 4, none⟩ = some (.int .i64 pl) := hr.blk.cell 4
  have f3 := hr.blk.frozen 3
  have f4 := hr.blk.frozen 4
  rw [hd] at c3
  have hf := hr.foot.1
  unfold Dk.act
  rw [if_neg (by simp [hd])]
  by_cases h0 : d.left = 0
  · rw [if_pos h0]
    obtain rfl : pl = 0 := by omega
    have H : Hid (PD (w.setCell ⟨g, 3, none⟩ (.bool false)) F g { d with down := true } ∧ Kp F w (w.setCell ⟨g, 3, none⟩ (.bool false))) :=
      ⟨⟨gn, cn, gs, cs, wv, 0, hr.setUp false, by simp only; omega, hl1, hl2, hl3, hlen⟩, Kp.set_ (p := ⟨g, 3, none⟩) hf _⟩
    clear hr hpl hl1 hl2 hl3 hlen hf h0 hd
    go_enter Tryz.func130, Tryz.ntmps130
    go_wp2
    go_ret
    exact ⟨rfl, H.out⟩
  · rw [if_neg h0]
    by_cases hp : 0 < d.left
    · rw [if_pos hp]
      have e : pl = d.left := by omega
      have H : Hid (PD (w.setCell ⟨g, 4, none⟩ (.int .i64 (pl - 1))) F g { d with left := d.left - 1 } ∧ Kp F w (w.setCell ⟨g, 4, none⟩ (.int .i64 (pl - 1)))) :=
        ⟨⟨gn, cn, gs, cs, wv, pl - 1, hr.setLeft (pl - 1), by simp only; omega, by simp only; omega, by simp only; omega, by omega, hlen⟩, Kp.set_ (p := ⟨g, 4, none⟩) hf _⟩
      have hp1 : 0 < pl := by omega
      have hp2 : pl ≤ 9223372036854775807 := by omega
      clear hr hpl hl1 hl2 hl3 hlen hf h0 hd e hp
      go_enter Tryz.func130, Tryz.ntmps130
      go_wp2
      go_ret
      exact ⟨rfl, H.out⟩
    · rw [if_neg hp]
      have hp1 : pl < 0 := by omega
      have H : Hid (PD w F g d ∧ Kp F w w) := ⟨⟨gn, cn, gs, cs, wv, pl, hr, hpl, hl1, hl2, hl3, hlen⟩, Kp.refl F w⟩
      clear hr hpl hl1 hl2 hl3 hlen hf h0 hd hp
      go_enter Tryz.func130, Tryz.ntmps130
      go_wp2
      go_ret
      exact ⟨rfl, H.out⟩

set_option maxRecDepth 100000 in
set_option maxHeartbeats 400000 in
theorem arm_meth (g : Nat) (d : Dk) (F : Nat → Prop) (n : Int) (w : World) (h1 : -9223372036854775808 ≤ n) (h2 : n ≤ 9223372036854775807) (h : PD w F g d) :
    Calls Tryz.prog 59 #[.pointer (some ⟨g, 0, none⟩), .int .i64 n] w fun e w' => e = .returned (.tuple #[]) ∧ PD w' F g (d.arm n) ∧ Kp F w w' := by
  obtain ⟨gn, cn, gs, cs, wv, pl, hr, hpl, hl1, hl2, hl3, hlen⟩ := h
  have c4 : w.cell? ⟨g, 4, none⟩ = some (.int .i64 pl) := hr.blk.cell 4
  have f4 := hr.blk.frozen 4
  have H : Hid (PD (w.setCell ⟨g, 4, none⟩ (.int .i64 n)) F g (d.arm n) ∧ Kp F w (w.setCell ⟨g, 4, none⟩ (.int .i64 n))) :=
    ⟨⟨gn, cn, gs, cs, wv, n, hr.setLeft n, by unfold Dk.arm; simp only; split <;> omega, by unfold Dk.arm; simp only; split <;> omega, by unfold Dk.arm; simp only; split <;> omega, h1, hlen⟩, Kp.set_ (p := ⟨g, 4, none⟩) hr.foot.1 _⟩
  clear hr hpl hl1 hl2 hl3 hlen h1 h2
  go_enter Tryz.func59, Tryz.ntmps59
  go_wp2
  go_end0
  exact ⟨rfl, H.out⟩
set_option maxRecDepth 100000 in
set_option maxHeartbeats 400000 in
theorem arm_nil (n : Int) (w : World) : Calls Tryz.prog 59 #[.pointer none, .int .i64 n] w fun e w' => e = .returned (.tuple #[]) ∧ w = w' := by
  go_enter Tryz.func59, Tryz.ntmps59
  go_wp2
  go_end0
  exact ⟨rfl, rfl⟩
end Go.Proofs.YtfepjgafamaegaaGreat
