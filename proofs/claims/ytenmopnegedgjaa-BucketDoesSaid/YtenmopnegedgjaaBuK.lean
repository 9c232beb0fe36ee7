/- Layer 15: known: what the chapter's examples fix. -/
import Derived.Test.YtenmopnegedgjaaBuM
import Derived.Test.YtenmopnegedgjaaBuB
namespace Go.Proofs.Ytenmopnegedgjaa
open Go.RowKit

/-- A bucket of the call's own, made since W: its block g. -/
structure OBu (t : TypeId) (W w : World) (g : Nat) (u : Bu) : Prop where
  pu : PU t w g u
  ge : W.heap.size ≤ g
  bel : Below W.heap.size W w
section
variable {t : TypeId} {W w w' : World} {g : Nat} {u v : Bu}
theorem OBu.of_new (h : NewB t W u w) : OBu t W w W.heap.size u := ⟨h.1, Nat.le_refl _, h.2⟩
theorem OBu.of_new2 {w1 : World} (hb : Below W.heap.size W w1) (h : NewB t w1 u w) : OBu t W w w1.heap.size u := ⟨h.1, hb.size, below_then hb h.2⟩
theorem OBu.act (h : OBu t W w g u) (ha : ActB t w g v w') : OBu t W w' g v :=
  ⟨ha.1, h.ge, h.bel.trans (ha.2.below (fun k hk => by have := h.ge; omega) h.bel.size)⟩
theorem OBu.below (h : OBu t W w g u) (hb : Below w.heap.size w w') : OBu t W w' g u := ⟨h.pu.below hb, h.ge, below_then h.bel hb⟩
theorem OBu.drewN (h : OBu t W w g u) (q : Nat) : OBu t W (w.drewN q) g u := h.below (bel_drewN (Below.refl _ _) q)
/-- Another bucket's act. -/
theorem OBu.other {t2 : TypeId} {g2 : Nat} (h : OBu t W w g u) (ha : ActB t2 w g2 v w') (hne : g ≠ g2) (hg2 : W.heap.size ≤ g2) : OBu t W w' g u :=
  ⟨h.pu.kp ha.2 hne, h.ge, h.bel.trans (ha.2.below (fun k hk => by omega) h.bel.size)⟩
theorem OBu.tick (h : OBu 46 W w g u) (n : Int) (hn : n ≤ 9223372036854775807) : Calls Try.prog 12 #[.pointer (some ⟨g, 0, none⟩), .int .i64 n] w fun e w' => e = .returned (.tuple #[]) ∧ Hid (ActB 46 w g (u.tick n) w') := tick_any h.pu n hn
theorem OBu.take (h : OBu 46 W w g u) (n : Int) : Calls Try.prog 14 #[.pointer (some ⟨g, 0, none⟩), .int .i64 n] w fun e w' => e = .returned (.bool (u.has n)) ∧ Hid (ActB 46 w g (u.take n) w') := take_any h.pu n
theorem OBu.level (h : OBu 46 W w g u) : Calls Try.prog 16 #[.pointer (some ⟨g, 0, none⟩)] w fun e w' => e = .returned (.int .i64 (u.level : Int)) ∧ w' = w := level_any h.pu
theorem OBu.wait (h : OBu 46 W w g u) (n : Int) : Calls Try.prog 17 #[.pointer (some ⟨g, 0, none⟩), .int .i64 n] w fun e w' => e = .returned (.int .i64 (u.wait n)) ∧ ∃ q, w' = w.drewN q := wait_any h.pu n
end
theorem kn1 : rightB 3 10 := by decide
theorem kn2 : ¬ rightB 0 0 := by decide
theorem kn3 : backB 4 100 3 5 = 13 := by decide
set_option maxRecDepth 100000 in
set_option maxHeartbeats 2000000 in
theorem known15_any (w : World) : Calls Try.prog 11 #[] w fun e w' => e = .returned (.bool true) ∧ Below w.heap.size w w' := by
  have HN := Lib.hid (new_any 3 10 kn1 w)
  have HN2 := Lib.hid fun W => new_bad 0 0 kn2 W
  have HB : Hid (∀ W, Calls Try.prog 19 #[.int .i64 4, .int .i64 100, .int .i64 3, .int .u64 5] W fun e w' => e = .returned (.int .i64 13) ∧ w' = W) := Lib.hid fun W => by
    have := back_any 4 100 3 5 (by omega) (by omega) (by omega) (by omega) (by omega) W
    rw [kn3] at this
    exact this
  go_enter Try.func11, Try.ntmps11
  go_wp2_with fail
  refine HN.out.mono ?_
  rintro e w1 ⟨rfl, H1⟩
  obtain ⟨g, hg⟩ : ∃ g, g = w.heap.size := ⟨_, rfl⟩
  have HS : Hid (OBu 46 w w1 g ⟨3, 10, 10⟩) := Lib.hid (by rw [hg]; exact OBu.of_new H1.out)
  rw [← hg]
  clear HN H1 hg
  have HC := Lib.hid (HS.out.take 10)
  go_wp2_with fail
  refine HC.out.mono ?_
  rintro e w2 ⟨rfl, H2⟩
  have HS2 : Hid (OBu 46 w w2 g ⟨3, 10, 0⟩) := Lib.hid (HS.out.act H2.out)
  clear HC H2 HS
  have HC := Lib.hid (HS2.out.take 1)
  go_wp2_with fail
  refine HC.out.mono ?_
  rintro e w3 ⟨rfl, H2⟩
  have HS3 : Hid (OBu 46 w w3 g ⟨3, 10, 0⟩) := Lib.hid (HS2.out.act H2.out)
  clear HC H2 HS2
  have HC := Lib.hid (HS3.out.wait 7)
  go_wp2_with fail
  refine HC.out.mono ?_
  rintro e w4 ⟨rfl, q, rfl⟩
  have HS4 : Hid (OBu 46 w (w3.drewN q) g ⟨3, 10, 0⟩) := Lib.hid (HS3.out.drewN q)
  clear HC HS3
  generalize w3.drewN q = w4 at HS4 ⊢
  have HC := Lib.hid (HS4.out.tick 3 (by omega))
  go_wp2_with fail
  refine HC.out.mono ?_
  rintro e w5 ⟨rfl, H2⟩
  have HS5 : Hid (OBu 46 w w5 g ⟨3, 10, 9⟩) := Lib.hid (HS4.out.act H2.out)
  clear HC H2 HS4
  have HC := Lib.hid (HS5.out.level)
  go_wp2_with fail
  refine HC.out.mono ?_
  rintro e w6 ⟨rfl, rfl⟩
  clear HC
  have HC := Lib.hid (HS5.out.take 7)
  go_wp2_with fail
  refine HC.out.mono ?_
  rintro e w7 ⟨rfl, H2⟩
  have HS7 : Hid (OBu 46 w w7 g ⟨3, 10, 2⟩) := Lib.hid (HS5.out.act H2.out)
  clear HC H2 HS5
  have HC := Lib.hid (HS7.out.tick 5 (by omega))
  go_wp2_with fail
  refine HC.out.mono ?_
  rintro e w8 ⟨rfl, H2⟩
  have HS8 : Hid (OBu 46 w w8 g ⟨3, 10, 10⟩) := Lib.hid (HS7.out.act H2.out)
  clear HC H2 HS7
  go_wp2_with fail
  refine (HN2.out _).mono ?_
  rintro e w9 ⟨rfl, hw⟩
  rw [hw]
  clear hw
  have HC : Hid (Calls Try.prog 16 #[.pointer (some ⟨g, 0, none⟩)] w8 fun e w' => e = .returned (.int .i64 10) ∧ w' = w8) := Lib.hid (HS8.out.level)
  go_wp2_with (first | (go_at_call 16; refine HC.out.mono ?_; rintro e w' ⟨rfl, hw⟩; rw [hw]; clear hw) | (go_at_call 19; refine (HB.out _).mono ?_; rintro e w' ⟨rfl, hw⟩; rw [hw]; clear hw))
  trace_state
  go_ret
  exact ⟨rfl, HS8.out.bel⟩
end Go.Proofs.Ytenmopnegedgjaa
