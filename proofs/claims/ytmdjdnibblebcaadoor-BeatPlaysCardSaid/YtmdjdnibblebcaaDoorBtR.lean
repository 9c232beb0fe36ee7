/- Layer 14, the document's view (ref14): in memory; Since, Up. -/
import Derived.Test.YtmdjdnibblebcaaDoorBtW
namespace Go.Proofs.YtmdjdnibblebcaaDoor
open Go.RowKit

def updI2 (f : Nat → Int) (k : Nat) (x : Int) : Nat → Int := fun i => if i = k then x else f i
/-- What the document's view keeps of a view: the time, when each was heard, since when nothing has changed. -/
structure RfP (v : Vw) (now ch : Nat) (h : Nat → Int) : Prop where
  hs : ∀ i, i < v.n → i ≠ v.me → ((v.since i : Nat) : Int) = if (now : Int) - h i > v.pat then (v.pat : Int) else now - h i
  hb : ∀ i, i < v.n → -1000 ≤ h i ∧ h i ≤ now
  cal : v.calm = min (now - ch) 1000
  che : ch ≤ now
  big : now ≤ 1000000
abbrev rfA (s2 cs t2 ct : Nat) (v : Vw) (now ch : Nat) : Array Value := #[.slice (some ⟨s2, 0, none⟩) v.n cs, .int .i64 (v.me : Int), .int .i64 (v.pat : Int), .int .i64 (now : Int), .slice (some ⟨t2, 0, none⟩) v.n ct, .int .i64 (ch : Int)]
structure RM (w : World) (g s2 cs t2 ct : Nat) (v : Vw) (now ch : Nat) (h : Nat → Int) : Prop where
  ok : v.Ok
  p : RfP v now ch h
  hd : Bk w g 54 (rfA s2 cs t2 ct v now ch)
  gs : g ≠ s2
  gt : g ≠ t2
  st : s2 ≠ t2
  cap : v.n ≤ cs ∧ cs ≤ maxLen ∧ v.n ≤ ct ∧ ct ≤ maxLen
  sr : ∃ cur, Bk w s2 3 cur ∧ ∀ i, i < v.n → cur[i]? = some (.int .i64 ((v.site i : Nat) : Int))
  tr : ∃ cur, Bk w t2 3 cur ∧ v.n ≤ cur.size ∧ ∀ i, i < v.n → cur[i]? = some (.int .i64 (h i))
section
variable {w w' : World} {F : Nat → Prop} {g s2 cs t2 ct : Nat} {v : Vw} {now ch : Nat} {h : Nat → Int}
theorem RM.kp (r : RM w g s2 cs t2 ct v now ch h) (hk : Kp F w w') (hg : ¬ F g) (hs : ¬ F s2) (ht : ¬ F t2) : RM w' g s2 cs t2 ct v now ch h := by
  obtain ⟨c1, h1, h2⟩ := r.sr
  obtain ⟨c2, h3, h4⟩ := r.tr
  exact ⟨r.ok, r.p, r.hd.kp hk hg, r.gs, r.gt, r.st, r.cap, ⟨c1, h1.kp hk hs, h2⟩, ⟨c2, h3.kp hk ht, h4⟩⟩
theorem RM.below (r : RM w g s2 cs t2 ct v now ch h) (hb : Below w.heap.size w w') : RM w' g s2 cs t2 ct v now ch h := r.kp (F := fun _ => False) (Kp.of_below hb) (fun h => h) (fun h => h) (fun h => h)
theorem RM.drewN (r : RM w g s2 cs t2 ct v now ch h) (q : Nat) : RM (w.drewN q) g s2 cs t2 ct v now ch h := r.kp (F := fun _ => False) (Kp.drewN _ w q) (fun h => h) (fun h => h) (fun h => h)
theorem RM.lt (r : RM w g s2 cs t2 ct v now ch h) : g < w.heap.size ∧ s2 < w.heap.size ∧ t2 < w.heap.size := by
  obtain ⟨c1, h1, h2⟩ := r.sr
  obtain ⟨c2, h3, h4⟩ := r.tr
  exact ⟨r.hd.lt, h1.lt, h3.lt⟩
theorem RM.c0 (r : RM w g s2 cs t2 ct v now ch h) : w.cell? ⟨g, 0, none⟩ = some (.slice (some ⟨s2, 0, none⟩) v.n cs) := r.hd.cell 0
theorem RM.c1 (r : RM w g s2 cs t2 ct v now ch h) : w.cell? ⟨g, 1, none⟩ = some (.int .i64 (v.me : Int)) := r.hd.cell 1
theorem RM.c2 (r : RM w g s2 cs t2 ct v now ch h) : w.cell? ⟨g, 2, none⟩ = some (.int .i64 (v.pat : Int)) := r.hd.cell 2
theorem RM.c3 (r : RM w g s2 cs t2 ct v now ch h) : w.cell? ⟨g, 3, none⟩ = some (.int .i64 (now : Int)) := r.hd.cell 3
theorem RM.c4 (r : RM w g s2 cs t2 ct v now ch h) : w.cell? ⟨g, 4, none⟩ = some (.slice (some ⟨t2, 0, none⟩) v.n ct) := r.hd.cell 4
theorem RM.c5 (r : RM w g s2 cs t2 ct v now ch h) : w.cell? ⟨g, 5, none⟩ = some (.int .i64 (ch : Int)) := r.hd.cell 5
theorem RM.site (r : RM w g s2 cs t2 ct v now ch h) (i : Nat) (hi : i < v.n) : w.cell? ⟨s2, i, none⟩ = some (.int .i64 ((v.site i : Nat) : Int)) := by
  obtain ⟨c1, h1, h2⟩ := r.sr
  rw [h1.cell]; exact h2 i hi
theorem RM.heard (r : RM w g s2 cs t2 ct v now ch h) (i : Nat) (hi : i < v.n) : w.cell? ⟨t2, i, none⟩ = some (.int .i64 (h i)) := by
  obtain ⟨c1, h1, _, h2⟩ := r.tr
  rw [h1.cell]; exact h2 i hi
set_option maxRecDepth 100000 in
set_option maxHeartbeats 2000000 in
theorem rsince_any (r : RM w g s2 cs t2 ct v now ch h) (a : Int) : Calls Tryd.prog 24 #[.pointer (some ⟨g, 0, none⟩), .int .i64 a] w fun e w' => e = .returned (.int .i64 (v.sinceI a)) ∧ ∃ q, w' = w.drewN q := by
  have c0 := r.c0
  have c1 := r.c1
  have c2 := r.c2
  have c3 := r.c3
  have c4 := r.c4
  unfold Vw.sinceI
  by_cases h1 : 0 ≤ a ∧ a < (v.n : Int)
  · rw [if_pos h1]
    obtain ⟨i, rfl⟩ := Int.eq_ofNat_of_zero_le h1.1
    have hi : i < v.n := by omega
    rw [Int.toNat_natCast]
    have m1 : ¬ (v.n : Int) ≤ (i : Int) := by omega
    have m2 : (i : Int) < (v.n : Int) := by omega
    have m0 : ¬ (i : Int) < 0 := by omega
    by_cases hme : i = v.me
    · have e1 : ((i : Int) == (v.me : Int)) = true := by simp; omega
      have hz : v.since i = 0 := by rw [hme]; exact r.ok.own
      rw [hz]
      clear r h1 hz hme
      go_enter Tryd.func24, Tryd.ntmps24
      go_wp2
      go_ret
      exact ⟨rfl, 0, rfl⟩
    · have e1 : ((i : Int) == (v.me : Int)) = false := by simp; omega
      have q0 := r.heard i hi
      have hs := r.p.hs i hi hme
      have hb := r.p.hb i hi
      have hbig := r.p.big
      have s1 : IntKind.i64.wrap ((now : Int) - h i) = (now : Int) - h i := by rw [IntKind.wrap_i64]; omega
      obtain ⟨x, hx⟩ : ∃ x, x = h i := ⟨_, rfl⟩
      rw [← hx] at q0 hs s1
      clear r h1 hb hbig hme hx
      by_cases hgt : (now : Int) - x > v.pat
      · have g1 : (v.pat : Int) < (now : Int) - x := hgt
        rw [if_pos hgt] at hs
        rw [hs]
        clear hs hgt
        go_enter Tryd.func24, Tryd.ntmps24
        go_wp2_with fail
        go_quiet (fail)
        go_wp2
        go_ret
        exact ⟨rfl, _, rfl⟩
      · have g1 : ¬ (v.pat : Int) < (now : Int) - x := hgt
        rw [if_neg hgt] at hs
        rw [hs]
        clear hs hgt
        go_enter Tryd.func24, Tryd.ntmps24
        go_wp2_with fail
        go_quiet (fail)
        go_wp2_with fail
        go_quiet (fail)
        go_wp2
        go_ret
        exact ⟨rfl, _, World.drewN_drewN w _ _⟩
  · rw [if_neg h1]
    clear r
    by_cases h0 : a < 0
    · clear h1
      go_enter Tryd.func24, Tryd.ntmps24
      go_wp2
      go_ret
      exact ⟨rfl, 0, rfl⟩
    · have h2 : (v.n : Int) ≤ a := by omega
      clear h1
      go_enter Tryd.func24, Tryd.ntmps24
      go_wp2
      go_ret
      exact ⟨rfl, 0, rfl⟩
set_option maxRecDepth 100000 in
set_option maxHeartbeats 2000000 in
theorem rup_any (r : RM w g s2 cs t2 ct v now ch h) : Calls Tryd.prog 20 #[.pointer (some ⟨g, 0, none⟩)] w fun e w' => e = .returned (.int .u32 (v.up : Int)) ∧ ∃ q, w' = w.drewN q := by
  have hn12 := r.ok.n12
  have HR := Lib.hid r
  clear r
  go_enter Tryd.func20, Tryd.ntmps20
  go_wp2
  go_loopg [3, 4] v.n (fun gk x y wr => ∃ (i : Nat), x = .int .u32 (upS v.pat v.since i : Int) ∧ y = .int .i64 (i : Int) ∧ i + gk = v.n ∧ ∃ q, wr = w.drewN q)
  case atStart => exact ⟨0, rfl, rfl, by omega, 0, rfl⟩
  case round =>
    obtain ⟨i, rfl, rfl, hig, q, rfl⟩ := hrel
    have hr := HR.out.drewN q
    have c0 := HR.out.c0
    have c2 := HR.out.c2
    by_cases hin : i < v.n
    · have m1 : (i : Int) < (v.n : Int) := by omega
      have m0 : ¬ (i : Int) < 0 := by omega
      have e1 : IntKind.i64.wrap ((i : Int) + 1) = ((i + 1 : Nat) : Int) := by rw [IntKind.wrap_i64]; omega
      have j5 : IntKind.u64.wrap (i : Int) = (i : Int) := by rw [IntKind.wrap_u64]; omega
      have HC := rsince_any hr i
      have hsi : v.sinceI i = ((v.since i : Nat) : Int) := by unfold Vw.sinceI; rw [if_pos (by omega), Int.toNat_natCast]
      rw [hsi] at HC
      have HCH := Lib.hid HC
      have hul := upS_lt v.pat v.since i
      have hp12 : 2 ^ i ≤ 2 ^ 12 := Nat.pow_le_pow_right (by omega) (by omega)
      have hpw : (2 : Int) ^ i % 4294967296 = ((2 ^ i : Nat) : Int) := pow_u32 ⟨i, by omega⟩
      have hadd : IntKind.u32.wrap ((upS v.pat v.since i : Int) + (2 : Int) ^ i % 4294967296) = ((upS v.pat v.since i + 2 ^ i : Nat) : Int) := by rw [hpw, IntKind.wrap_u32]; omega
      clear HC hr hsi hul hp12 hpw
      by_cases hs : v.since i < v.pat
      · have hs1 : (v.since i : Int) < (v.pat : Int) := by omega
        have hsum : upS v.pat v.since i + 2 ^ i = upS v.pat v.since (i + 1) := by show _ = upS v.pat v.since i + _; rw [if_pos hs]
        rw [hsum] at hadd
        clear hsum
        go_wp2_with fail
        refine HCH.out.mono ?_
        rintro e w5 ⟨rfl, q5, rfl⟩
        go_wp2
        go_roundg (gk - 1)
        case measure => omega
        case rel => exact ⟨i + 1, rfl, by go_num, by omega, _, rfl⟩
      · have hs1 : ¬ (v.since i : Int) < (v.pat : Int) := by omega
        have HU := Lib.hid (upS_not v.pat v.since i hs)
        go_wp2_with fail
        refine HCH.out.mono ?_
        rintro e w5 ⟨rfl, q5, rfl⟩
        go_wp2
        go_roundg (gk - 1)
        case measure => omega
        case rel => exact ⟨i + 1, by rw [HU.out], by go_num, by omega, _, rfl⟩
    · obtain rfl : i = v.n := by omega
      have m1 : ¬ (v.n : Int) < (v.n : Int) := by omega
      go_wp2
      go_ret
      exact ⟨rfl, q, rfl⟩
end
end Go.Proofs.YtmdjdnibblebcaaDoor
