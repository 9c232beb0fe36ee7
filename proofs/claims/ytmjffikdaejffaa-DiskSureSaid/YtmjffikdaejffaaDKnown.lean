/- Layer 3's law: known, what the chapter's examples fix. -/
import Derived.Test.YtmjffikdaejffaaPDisk8
import Derived.Test.YtmjffikdaejffaaDRow
namespace Go.Proofs.Ytmjffikdaejffaa
open Go.RowKit

def kd1 : Dk := ((Dk.new 2).write 0 (rowB 1 32)).2
def kd2 : Dk := kd1.crash [3]
def kd3 : Dk := kd2.arm 1
def kd4 : Dk := (kd3.write 1 (rowB 2 32)).2
def kd5 : Dk := kd4.sync.2
def kd6 : Dk := kd5.crash []
theorem kn1 : ((Dk.new 2).write 0 (rowB 1 32)).1 = 0 := by decide
theorem kn2 : kd2.read 0 = ([1, 2, 3, 0, 0, 0, 0, 0, 0, 0, 0, 0, 0, 0, 0, 0, 0, 0, 0, 0, 0, 0, 0, 0, 0, 0, 0, 0, 0, 0, 0, 0], 0) := by decide
theorem kn4 : (kd3.write 1 (rowB 2 32)).1 = 0 := by decide
theorem kn5 : kd4.sync.1 = 6 := by decide
theorem kn5d : kd5.down = true := by decide
theorem kn6 : kd6.down = false := rfl
theorem kn6l : kd6.safe.length = 2 := by decide
theorem kw0 : (Dk.new 2).waits.length = 0 := rfl
theorem kw1 : kd1.waits.length = 1 := by decide
theorem kw3 : kd3.waits.length = 0 := by decide
theorem kw4 : kd4.waits.length = 1 := by decide
theorem kw5 : kd5.waits.length = 1 := by decide

/-- A disk of the call's own. -/
def Mine (W w : World) (F : Nat → Prop) (g : Nat) (d : Dk) : Prop := PD w F g d ∧ (∀ k, F k → W.heap.size ≤ k) ∧ Below W.heap.size W w
theorem Mine.below {W w w' : World} {F : Nat → Prop} {g : Nat} {d : Dk} (h : Mine W w F g d) (hb : Below w.heap.size w w') : Mine W w' F g d := ⟨h.1.below hb, h.2.1, h.2.2.trans (hb.mono h.2.2.size)⟩
theorem Mine.step {W w w' : World} {F F' : Nat → Prop} {g : Nat} {d d' : Dk} (h : Mine W w F g d) (hp : PD w' F' g d') (hm : Mv F F' w w') : Mine W w' F' g d' :=
  ⟨hp, hm.ge h.2.2.size h.2.1, h.2.2.trans (hm.kp.below h.2.1 h.2.2.size)⟩
theorem Mine.kp {W w w' : World} {F K : Nat → Prop} {g : Nat} {d : Dk} (h : Mine W w F g d) (hk : Kp K w w') (hd : ∀ k, F k → ¬ K k) (hK : ∀ k, K k → W.heap.size ≤ k) : Mine W w' F g d := ⟨h.1.kp hk hd, h.2.1, h.2.2.trans (hk.below hK h.2.2.size)⟩
theorem own_apart {w w1 : World} {F : Nat → Prop} {e size n : Nat} {v : Value} {xs : List Value} (hlt : ∀ k, F k → k < w.heap.size) (ho : w1.ownsRow w.heap.size e size v n xs) : ∀ k, v.ownBlock = some k → ¬ F k := fun k e hf => by
  have h1 := (ho.lt k e).1
  have h2 := hlt k hf
  omega
theorem own_apartA {w w1 : World} {F : Nat → Prop} {e size n m c : Nat} {A : Option Addr} {xs : List Value} (hlt : ∀ k, F k → k < w.heap.size) (ho : w1.ownsRow w.heap.size e size (.slice A m c) n xs) : ∀ ad, A = some ad → ¬ F ad.block := fun ad e hf => by
  subst e
  exact own_apart hlt ho ad.block rfl hf

set_option maxRecDepth 100000 in
set_option maxHeartbeats 4000000 in
theorem known_any (W : World) : Calls Try.prog 9 #[] W fun e w' => e = .returned (.bool true) ∧ Below W.heap.size W w' := by
  go_enter Try.func9, Try.ntmps9
  go_wp2_with fail
  refine (new_any 2 W (by omega) (by omega)).mono ?_
  rintro e w0 ⟨g, F0, rfl, hp0, hge0, hb0⟩
  have M0 : Hid (Mine W w0 F0 g (Dk.new 2)) := ⟨hp0, hge0, hb0⟩
  clear hp0 hge0 hb0
  go_wp2_with fail
  refine (row_any 1 0 _ (by omega) (by omega)).mono ?_
  rintro e w1 ⟨A1, c1, rfl, ho1, hb1⟩
  rw [rowLen_zero] at *
  have M1 := Lib.hid (M0.out.below hb1)
  have C1 := write_any g (Dk.new 2) F0 0 A1 _ c1 _ w1 (by rw [rowB_len]; omega) (by rw [kw0]; omega) (Rd.of_own ho1) (own_apartA M0.out.1.lt ho1) M1.out.1
  rw [kn1] at C1
  have C1 := Lib.hid C1
  clear ho1 hb1 M0
  go_wp2_with fail
  refine C1.out.mono ?_
  rintro e w2 ⟨rfl, F2, hp2, hm2⟩
  have M2 : Hid (Mine W w2 F2 g kd1) := M1.out.step hp2 hm2
  clear hp2 hm2 C1 M1
  have M3 := Lib.hid (M2.out.below ((Below.refl _ _).alloc (Nat.le_refl _) (.cells #[.int .i64 3] 3)))
  have C2 := crash_any g kd1 F2 (some ⟨w2.heap.size, 0, none⟩) 1 1 [3] (w2.alloc (.cells #[.int .i64 3] 3)) (by omega) (by rw [kw1]; omega) ((RdI.one w2 3 (by omega) 3).more (by simp)) (fun _ ad e hf => by injection e with e; subst e; have := M2.out.1.lt _ hf; simp at this) M3.out.1
  have C2 := Lib.hid C2
  clear M2
  go_wp2_with fail
  refine C2.out.mono ?_
  rintro e w3 ⟨rfl, F3, hp3, hm3⟩
  have M4 : Hid (Mine W w3 F3 g kd2) := M3.out.step hp3 hm3
  clear hp3 hm3 C2 M3
  have C3 : Calls Try.prog 18 #[.pointer (some ⟨g, 0, none⟩), .int .i64 0] w3 fun e w' => ∃ A c, e = .returned (.tuple #[.slice A 32 c, .int .i64 0]) ∧ w'.ownsRow w3.heap.size 5 1 (.slice A 32 c) 32 (u8s [1, 2, 3, 0, 0, 0, 0, 0, 0, 0, 0, 0, 0, 0, 0, 0, 0, 0, 0, 0, 0, 0, 0, 0, 0, 0, 0, 0, 0, 0, 0, 0]) ∧ Below w3.heap.size w3 w' := by
    have h := read_meth g kd2 F3 0 w3 M4.out.1
    rw [kn2] at h
    exact h
  have C3 := Lib.hid C3
  go_wp2_with fail
  refine C3.out.mono ?_
  rintro e w4 ⟨As, cs, rfl, hos, hb4⟩
  obtain ⟨gs, cs', he, hgs1, hgs2⟩ := own_some hos (by omega)
  obtain ⟨rfl, rfl⟩ : As = some ⟨gs, 0, none⟩ ∧ cs = cs' := by injection he with e1 _ e3; exact ⟨e1, e3⟩
  have s2 : w4.cell? ⟨gs, 2, none⟩ = some (.int .u8 3) := (hos.cellAt 2 (by omega)).trans rfl
  have s3 : w4.cell? ⟨gs, 3, none⟩ = some (.int .u8 0) := (hos.cellAt 3 (by omega)).trans rfl
  have hn : ¬ F3 gs := fun hf => by have := M4.out.1.lt gs hf; omega
  have M5 := Lib.hid (M4.out.below hb4)
  have HN := Lib.hid hn
  have Hgs := Lib.hid hgs2
  clear hos hb4 he hn C3 M4 hgs1 hgs2
  have C5 := Lib.hid (arm_meth g kd2 F3 1 w4 (by omega) (by omega) M5.out.1)
  go_wp2_with fail
  refine C5.out.mono ?_
  rintro e w5 ⟨rfl, hp5, hk5⟩
  have M6 : Hid (Mine W w5 F3 g kd3) := M5.out.step hp5 (Mv.of hk5)
  have t2 := cell_kp s2 hk5 HN.out
  have t3 := cell_kp s3 hk5 HN.out
  have Hgs5 := Lib.hid (Nat.lt_of_lt_of_le Hgs.out hk5.size)
  clear hp5 hk5 C5 M5 s2 s3 Hgs
  go_wp2_with fail
  refine (row_any 2 0 _ (by omega) (by omega)).mono ?_
  rintro e w6 ⟨A6, c6, rfl, ho6, hb6⟩
  rw [rowLen_zero] at *
  have M7 := Lib.hid (M6.out.below hb6)
  have C7 := write_any g kd3 F3 1 A6 _ c6 _ w6 (by rw [rowB_len]; omega) (by rw [kw3]; omega) (Rd.of_own ho6) (own_apartA M6.out.1.lt ho6) M7.out.1
  rw [kn4] at C7
  have C7 := Lib.hid C7
  have s2 := (hb6.cell (p := ⟨gs, 2, none⟩) Hgs5.out).trans t2
  have s3 := (hb6.cell (p := ⟨gs, 3, none⟩) Hgs5.out).trans t3
  have Hgs6 := Lib.hid (Nat.lt_of_lt_of_le Hgs5.out hb6.size)
  clear ho6 hb6 M6 t2 t3 Hgs5
  go_wp2_with fail
  refine C7.out.mono ?_
  rintro e w7 ⟨rfl, F7, hp7, hm7⟩
  have M8 : Hid (Mine W w7 F7 g kd4) := M7.out.step hp7 hm7
  have t2 := cell_kp s2 hm7.kp HN.out
  have t3 := cell_kp s3 hm7.kp HN.out
  have HN7 : Hid (¬ F7 gs) := fun hf => by
    rcases hm7.new gs hf with h | h
    · exact HN.out h
    · have := Hgs6.out; omega
  have Hgs7 := Lib.hid (Nat.lt_of_lt_of_le Hgs6.out hm7.kp.size)
  clear hp7 hm7 C7 M7 s2 s3 HN Hgs6
  have C8 := sync_any g kd4 F7 w7 (by rw [kw4]; omega) M8.out.1
  rw [kn5] at C8
  have C8 := Lib.hid C8
  go_wp2_with fail
  refine C8.out.mono ?_
  rintro e w8 ⟨rfl, F8, hp8, hm8⟩
  have M9 : Hid (Mine W w8 F8 g kd5) := M8.out.step hp8 hm8
  have s2 := cell_kp t2 hm8.kp HN7.out
  have s3 := cell_kp t3 hm8.kp HN7.out
  have HN8 : Hid (¬ F8 gs) := fun hf => by
    rcases hm8.new gs hf with h | h
    · exact HN7.out h
    · have := Hgs7.out; omega
  clear hp8 hm8 C8 M8 t2 t3 HN7 Hgs7
  have C9 := up_meth g kd5 F8 w8 M9.out.1
  rw [kn5d] at C9
  have C9 := Lib.hid C9
  go_wp2_with fail
  refine C9.out.mono ?_
  rintro e w' ⟨rfl, rfl⟩
  have C10 := Lib.hid (crash_any g kd5 F8 none 0 0 [] w8 (by omega) (by rw [kw5]; omega) (RdI.nil _ _ _) (fun h => by omega) M9.out.1)
  clear C9
  go_wp2_with fail
  refine C10.out.mono ?_
  rintro e w9 ⟨rfl, F9, hp9, hm9⟩
  have M10 : Hid (Mine W w9 F9 g kd6) := M9.out.step hp9 hm9
  have t2 := cell_kp s2 hm9.kp HN8.out
  have t3 := cell_kp s3 hm9.kp HN8.out
  clear hp9 hm9 C10 M9 s2 s3 HN8
  go_wp2_with fail
  refine (new_bad 0 w9 (by omega)).mono ?_
  rintro e w' ⟨rfl, rfl⟩
  have C11 := up_meth g kd6 F9 w9 M10.out.1
  rw [kn6] at C11
  have C11 := Lib.hid C11
  have C12 := sectors_meth g kd6 F9 w9 M10.out.1
  rw [kn6l] at C12
  have C12 := Lib.hid C12
  have HB := Lib.hid M10.out.2.2
  clear M10
  go_wp2_with fail
  refine C11.out.mono ?_
  rintro e w' ⟨rfl, rfl⟩
  go_wp2_with fail
  refine C12.out.mono ?_
  rintro e w' ⟨rfl, rfl⟩
  go_wp2
  go_ret
  exact ⟨rfl, HB.out⟩
end Go.Proofs.Ytmjffikdaejffaa
