/- DiskTorn: of one write that waits just its first bytes are there, as many as are kept; the rest is as it was. Of all bytes and numbers: no condition. -/
import Derived.Test.YtmjffikdaejffaaDHeld
import Derived.Test.YtmjffikdaejffaaSame
import Derived.Test.YtmjffikdaejffaaLent
import Derived.Test.YtmjffikdaejffaaLaw
namespace Go.Proofs.Ytmjffikdaejffaa
open Go.ChangeShapes Go.WideShapes Go.ChangeAt Go.RowKit

theorem rd_part {w : World} {B n i k : Nat} {b o : Nat} {l : List UInt8} (h : Rd w B (some ⟨b, o, none⟩) n l) (hik : i + k ≤ n) : Rd w B (some ⟨b, o + i, none⟩) k ((l.drop i).take k) := by
  refine ⟨by rw [List.length_take, List.length_drop, h.1]; omega, fun hk => ?_⟩
  obtain ⟨b', o', he, hb, hc⟩ := h.2 (by omega)
  simp only [Option.some.injEq, Addr.mk.injEq, and_true] at he
  obtain ⟨rfl, rfl⟩ := he
  refine ⟨b, o + i, rfl, hb, fun j hj => ?_⟩
  have hj' : j < k := by rw [List.length_take] at hj; omega
  rw [Nat.add_assoc, hc (i + j) (by have := h.1; omega)]
  simp [List.getElem_take, List.getElem_drop]

/-- The states of the play. -/
def tn0 (A : List UInt8) : Dk := ⟨[List.replicate 32 0], [(0, A)], -1, false⟩
def tn1 (A : List UInt8) : Dk := ⟨[A], [], -1, false⟩
def tn2 (A B : List UInt8) : Dk := ⟨[A], [(0, B)], -1, false⟩
def tn3 (A B : List UInt8) (k : Int) : Dk := ⟨[lay (clip k) B A], [], -1, false⟩
theorem tw0 (A : List UInt8) (h : A.length = 32) : (Dk.new 1).write 0 A = (0, tn0 A) := by
  unfold Dk.write
  rw [if_neg (by simp [Dk.new]), if_neg (by simp [Dk.new, h])]
  rfl
theorem tw1 (A : List UInt8) : (tn0 A).sync = (0, tn1 A) := rfl
theorem tw2 (A B : List UInt8) (h : B.length = 32) : (tn1 A).write 0 B = (0, tn2 A B) := by
  unfold Dk.write
  rw [if_neg (by simp [tn1]), if_neg (by simp [tn1, h])]
  rfl
theorem tw3 (A B : List UInt8) (k : Int) : (tn2 A B).crash [k] = tn3 A B k := rfl
theorem tw4 (A B : List UInt8) (k : Int) : (tn3 A B k).read 0 = (lay (clip k) B A, 0) := rfl

set_option maxRecDepth 100000 in
set_option maxHeartbeats 4000000 in
theorem diskTorn_walk (old fill : UInt8) (keep : Int) (W : World) (hk1 : -9223372036854775808 ≤ keep) (hk2 : keep ≤ 9223372036854775807) :
    Calls Try.prog 5 #[.int .u8 (old.toNat : Int), .int .u8 (fill.toNat : Int), .int .i64 keep] W fun e w' => e = .returned (.bool true) ∧ Below W.heap.size W w' := by
  have hclip : ∃ m : Nat, m ≤ 32 ∧ clip keep = m ∧ ((keep < 0 ∧ m = 0) ∨ (32 < keep ∧ m = 32) ∨ (0 ≤ keep ∧ keep ≤ 32 ∧ keep = (m : Int))) := by
    refine ⟨clip keep, clip_le keep, rfl, ?_⟩
    unfold clip
    omega
  obtain ⟨m, hm32, hcl, hcase⟩ := hclip
  have Hcl := Lib.hid hcl
  have Hcase := Lib.hid hcase
  have hA := rowB_len old 32
  have hB := rowB_len fill 32
  have Hrow := Lib.hid (row_full old)
  have Hrow2 := Lib.hid (row_full fill)
  generalize rowB old 32 = A at *
  generalize rowB fill 32 = B at *
  have HA := Lib.hid hA
  have HB := Lib.hid hB
  clear hcl hcase hA hB
  go_enter Try.func5, Try.ntmps5
  go_wp2_with fail
  refine (new_any 1 W (by omega) (by omega)).mono ?_
  rintro e w0 ⟨g, F0, rfl, hp0, hge0, hb0⟩
  have M0 : Hid (Mine W w0 F0 g (Dk.new 1)) := ⟨hp0, hge0, hb0⟩
  clear hp0 hge0 hb0
  go_wp2_with fail
  refine (Hrow.out _).mono ?_
  rintro e w1 ⟨A1, c1, rfl, ho1, hb1⟩
  have M1 := Lib.hid (M0.out.below hb1)
  have X1 : Hid (Held w1 F0 A1 32 c1 A) := Held.make (e := M0.out.1.lt) ho1
  clear hb1 ho1 M0
  go_wp2_with fail
  refine (Hrow2.out _).mono ?_
  rintro e w2 ⟨B1, d1, rfl, ho2, hb2⟩
  have M2 := Lib.hid (M1.out.below hb2)
  have X2 := Lib.hid (X1.out.below hb2)
  have Y2 : Hid (Held w2 F0 B1 32 d1 B) := Held.make (e := M1.out.1.lt) ho2
  clear hb2 ho2 M1 X1
  have C1 := write_any g (Dk.new 1) F0 0 A1 32 c1 A w2 (by omega) (by show 0 ≤ 1000000000; omega) X2.out.rd X2.out.ap M2.out.1
  rw [tw0 A HA.out] at C1
  have C1 := Lib.hid C1
  go_wp2_with fail
  refine C1.out.mono ?_
  rintro e w3 ⟨rfl, F3, hp3, hm3⟩
  have M3 : Hid (Mine W w3 F3 g (tn0 A)) := M2.out.step hp3 hm3
  have X3 := Lib.hid (X2.out.step hm3)
  have Y3 := Lib.hid (Y2.out.step hm3)
  clear hp3 hm3 C1 M2 X2 Y2
  have C2 := sync_any g (tn0 A) F3 w3 (by show 1 ≤ 1000000000; omega) M3.out.1
  rw [tw1 A] at C2
  have C2 := Lib.hid C2
  go_wp2_with fail
  refine C2.out.mono ?_
  rintro e w4 ⟨rfl, F4, hp4, hm4⟩
  have M4 : Hid (Mine W w4 F4 g (tn1 A)) := M3.out.step hp4 hm4
  have X4 := Lib.hid (X3.out.step hm4)
  have Y4 := Lib.hid (Y3.out.step hm4)
  clear hp4 hm4 C2 M3 X3 Y3
  have C3 := write_any g (tn1 A) F4 0 B1 32 d1 B w4 (by omega) (by show 0 ≤ 1000000000; omega) Y4.out.rd Y4.out.ap M4.out.1
  rw [tw2 A B HB.out] at C3
  have C3 := Lib.hid C3
  go_wp2_with fail
  refine C3.out.mono ?_
  rintro e w5 ⟨rfl, F5, hp5, hm5⟩
  have M5 : Hid (Mine W w5 F5 g (tn2 A B)) := M4.out.step hp5 hm5
  have X5 := Lib.hid (X4.out.step hm5)
  have Y5 := Lib.hid (Y4.out.step hm5)
  clear hp5 hm5 C3 M4 X4 Y4
  have C4 := waiting_meth g (tn2 A B) F5 w5 M5.out.1
  rw [show (((tn2 A B).waits.length : Nat) : Int) = 1 from rfl] at C4
  have C4 := Lib.hid C4
  go_wp2_with fail
  refine C4.out.mono ?_
  rintro e w' ⟨rfl, rfl⟩
  have hba := (Below.refl w5.heap.size w5).alloc (Nat.le_refl _) (.cells #[.int .i64 keep] 3)
  have M6 := Lib.hid (M5.out.below hba)
  have X6 := Lib.hid (X5.out.below hba)
  have Y6 := Lib.hid (Y5.out.below hba)
  have C5 := crash_any g (tn2 A B) F5 (some ⟨w5.heap.size, 0, none⟩) 1 1 [keep] (w5.alloc (.cells #[.int .i64 keep] 3)) (by omega) (by show 1 ≤ 1000000000; omega) ((RdI.one w5 keep ⟨hk1, hk2⟩ 3).more (by simp)) (fun _ ad e hf => by injection e with e; subst e; have := M5.out.1.lt _ hf; simp at this) M6.out.1
  rw [tw3] at C5
  have C5 := Lib.hid C5
  clear C4 M5 X5 Y5 hba
  go_wp2_with fail
  refine C5.out.mono ?_
  rintro e w7 ⟨rfl, F7, hp7, hm7⟩
  have M7 : Hid (Mine W w7 F7 g (tn3 A B keep)) := M6.out.step hp7 hm7
  have X7 := Lib.hid (X6.out.step hm7)
  have Y7 := Lib.hid (Y6.out.step hm7)
  clear hp7 hm7 C5 M6 X6 Y6
  have hl32 : (lay (clip keep) B A).length = 32 := lay_len _ _ _ HB.out HA.out (clip_le keep)
  have C6 : Calls Try.prog 18 #[.pointer (some ⟨g, 0, none⟩), .int .i64 0] w7 fun e w' => ∃ S c, e = .returned (.tuple #[.slice S 32 c, .int .i64 0]) ∧ w'.ownsRow w7.heap.size 5 1 (.slice S 32 c) 32 (u8s (lay m B A)) ∧ Below w7.heap.size w7 w' := by
    have h := read_meth g (tn3 A B keep) F7 0 w7 M7.out.1
    rw [tw4, hl32, Hcl.out] at h
    exact h
  have C6 := Lib.hid C6
  clear hl32
  go_wp2_with fail
  refine C6.out.mono ?_
  rintro e w8 ⟨S1, s1, rfl, ho8, hb8⟩
  have M8 := Lib.hid (M7.out.below hb8)
  have X8 := Lib.hid (X7.out.below hb8)
  have Y8 := Lib.hid (Y7.out.below hb8)
  have Z8 : Hid (Held w8 F7 S1 32 s1 (lay m B A)) := Held.make (e := M7.out.1.lt) ho8
  clear hb8 ho8 C6 M7 X7 Y7
  obtain ⟨gb, db', hB1, _⟩ := own_some Y8.out.own (by omega)
  obtain ⟨rfl, rfl⟩ : B1 = some ⟨gb, 0, none⟩ ∧ d1 = db' := by injection hB1 with e1 _ e3; exact ⟨e1, e3⟩
  obtain ⟨ga, ca', hA1, _⟩ := own_some X8.out.own (by omega)
  obtain ⟨rfl, rfl⟩ : A1 = some ⟨ga, 0, none⟩ ∧ c1 = ca' := by injection hA1 with e1 _ e3; exact ⟨e1, e3⟩
  have hcb := Y8.out.cap
  have hca := X8.out.cap
  have Cc : Hid (∀ c, Calls Try.prog 20 #[.slice (some ⟨gb, 0, none⟩) m c] w8 _) := fun c => copy_any (some ⟨gb, 0, none⟩) m c w8.heap.size (B.take m) w8 (by omega) (by
    have := rd_part (i := 0) Y8.out.rd (show 0 + m ≤ 32 by omega)
    simpa using this)
  clear hA1 hB1
  obtain ⟨i0, hi0, hz0, hz1, hz2⟩ := info_parts Try.infoU8
  have Hi0 := Lib.hid hi0
  have Hz0 := Lib.hid hz0
  have Hz1 := Lib.hid hz1
  have Hz2 := Lib.hid hz2
  have Hz8 : Hid (∀ k, Value.ownBlock (.slice S1 32 s1) = some k → k < w8.heap.size) := fun k e => (Z8.out.own.lt k e).2
  clear hi0 hz0 hz1 hz2
  rcases Hcase.out with ⟨hk, rfl⟩ | ⟨hk, rfl⟩ | ⟨hk, hk', rfl⟩
  · have hne : ¬ (c1 = 0) := by omega
    go_wp2_with fail
    refine (Cc.out _).mono ?_
    rintro e w9 ⟨v9, rfl, ho9, hb9⟩
    obtain ⟨V, cv, rfl, _⟩ := own_shape ho9
    have M9 := Lib.hid (M8.out.below hb9)
    have X9 := Lib.hid (X8.out.below hb9)
    have Z9 := Lib.hid (Z8.out.below hb9)
    have hsrc : Rd w9 w9.heap.size (some ⟨ga, 0, none⟩) (32 - 0) (A.drop (0)) := X9.out.rd
    have Hsrc := Lib.hid hsrc
    have Hl : Hid ((u8s (A.drop (0))).length = (32 - 0) * 1) := by show _ = _; rw [u8s_len, List.length_drop, HA.out]; try omega
    have Ho9 := Lib.hid ho9
    have Hb9 := Lib.hid hb9
    have Hw : Hid (w8.heap.size ≤ w9.heap.size) := hb9.size
    clear ho9 hb9 hsrc Cc X8 Y8 Z8
    go_wp2_with (at_builtin; refine wpList_append_app _ rfl _ _ 37 rfl w8.heap.size 5 i0 (.int .u8 0) 1 1 Try.underlying37 Hi0.out Hz0.out Hz1.out Hz2.out rfl _ (0) _ rfl Ho9.out (some ⟨ga, 0, none⟩) (32 - 0) _ (u8s (A.drop (0))) rfl Hl.out (by intro h; cases h) Hsrc.out.cells (u8s_one _) (by unfold maxLen; omega) (by omega) Hw.out ?_)
    intro v10 w10 happ
    obtain ⟨V10, c10, rfl, _⟩ := own_shape happ.own
    have hk10 : Kp (fun k => Value.ownBlock (.slice V (0) cv) = some k) w9 w10 := Kp.of_row happ.grow (fun g e => e)
    have M10 := Lib.hid (M9.out.kp hk10 (fun k hf e => by have h1 := (Ho9.out.lt k e).1; have h2 := M8.out.1.lt k hf; omega) (fun k e => by have h1 := (Ho9.out.lt k e).1; have h2 := M8.out.2.2.size; omega))
    have Z10 := own_kp Z9.out.own hk10 (fun k e e2 => by have h1 := (Ho9.out.lt k e2).1; have h2 := Hz8.out k e; omega)
    have hwant : Rd w10 w10.heap.size V10 (0 + (32 - 0)) (lay (0) B A) := Rd.of_own (by
      have := happ.own
      rw [← u8s_append] at this
      exact own_mono this (Nat.zero_le _))
    have Cs := same_any S1 V10 _ _ s1 c10 _ _ _ _ w10 (Rd.of_own Z10) hwant
    rw [beq_self_eq_true] at Cs
    have Cs := Lib.hid Cs
    have Cw := waiting_meth g (tn3 A B _) F7 w10 M10.out.1
    rw [show (((tn3 A B _).waits.length : Nat) : Int) = 0 from rfl] at Cw
    have Cw := Lib.hid Cw
    clear happ hk10 Z10 hwant Z9 X9 M9
    go_wp2_with fail
    refine Cs.out.mono ?_
    rintro e w' ⟨rfl, rfl⟩
    go_wp2_with fail
    refine Cw.out.mono ?_
    rintro e w' ⟨rfl, rfl⟩
    go_wp2_with fail
    refine (known_any w10).mono ?_
    rintro e w11 ⟨rfl, hb⟩
    have HF := Lib.hid (M10.out.2.2.trans (hb.mono M10.out.2.2.size))
    clear hb
    go_wp2
    go_ret
    exact ⟨rfl, HF.out⟩
  · by_cases hca2 : c1 = 32
    · subst hca2
      go_wp2_with fail
      refine (Cc.out _).mono ?_
      rintro e w9 ⟨v9, rfl, ho9, hb9⟩
      obtain ⟨V, cv, rfl, _⟩ := own_shape ho9
      have M9 := Lib.hid (M8.out.below hb9)
      have X9 := Lib.hid (X8.out.below hb9)
      have Z9 := Lib.hid (Z8.out.below hb9)
      have hsrc : Rd w9 w9.heap.size (some ⟨ga, 0, none⟩) (32 - 32) (A.drop (32)) := by rw [List.drop_eq_nil_of_le (by rw [HA.out]; exact Nat.le_refl _)]; exact Rd.nil _ _ _
      have Hsrc := Lib.hid hsrc
      have Hl : Hid ((u8s (A.drop (32))).length = (32 - 32) * 1) := by show _ = _; rw [u8s_len, List.length_drop, HA.out]; try omega
      have Ho9 := Lib.hid ho9
      have Hb9 := Lib.hid hb9
      have Hw : Hid (w8.heap.size ≤ w9.heap.size) := hb9.size
      clear ho9 hb9 hsrc Cc X8 Y8 Z8
      go_wp2_with (at_builtin; refine wpList_append_app _ rfl _ _ 37 rfl w8.heap.size 5 i0 (.int .u8 0) 1 1 Try.underlying37 Hi0.out Hz0.out Hz1.out Hz2.out rfl _ (32) _ rfl Ho9.out (some ⟨ga, 0, none⟩) (32 - 32) _ (u8s (A.drop (32))) rfl Hl.out (by intro h; cases h) Hsrc.out.cells (u8s_one _) (by unfold maxLen; omega) (by omega) Hw.out ?_)
      intro v10 w10 happ
      obtain ⟨V10, c10, rfl, _⟩ := own_shape happ.own
      have hk10 : Kp (fun k => Value.ownBlock (.slice V (32) cv) = some k) w9 w10 := Kp.of_row happ.grow (fun g e => e)
      have M10 := Lib.hid (M9.out.kp hk10 (fun k hf e => by have h1 := (Ho9.out.lt k e).1; have h2 := M8.out.1.lt k hf; omega) (fun k e => by have h1 := (Ho9.out.lt k e).1; have h2 := M8.out.2.2.size; omega))
      have Z10 := own_kp Z9.out.own hk10 (fun k e e2 => by have h1 := (Ho9.out.lt k e2).1; have h2 := Hz8.out k e; omega)
      have hwant : Rd w10 w10.heap.size V10 (32 + (32 - 32)) (lay (32) B A) := Rd.of_own (by
        have := happ.own
        rw [← u8s_append] at this
        exact own_mono this (Nat.zero_le _))
      have Cs := same_any S1 V10 _ _ s1 c10 _ _ _ _ w10 (Rd.of_own Z10) hwant
      rw [beq_self_eq_true] at Cs
      have Cs := Lib.hid Cs
      have Cw := waiting_meth g (tn3 A B _) F7 w10 M10.out.1
      rw [show (((tn3 A B _).waits.length : Nat) : Int) = 0 from rfl] at Cw
      have Cw := Lib.hid Cw
      clear happ hk10 Z10 hwant Z9 X9 M9
      go_wp2_with fail
      refine Cs.out.mono ?_
      rintro e w' ⟨rfl, rfl⟩
      go_wp2_with fail
      refine Cw.out.mono ?_
      rintro e w' ⟨rfl, rfl⟩
      go_wp2_with fail
      refine (known_any w10).mono ?_
      rintro e w11 ⟨rfl, hb⟩
      have HF := Lib.hid (M10.out.2.2.trans (hb.mono M10.out.2.2.size))
      clear hb
      go_wp2
      go_ret
      exact ⟨rfl, HF.out⟩

    · have hne : ¬ (c1 = 32) := hca2
      go_wp2_with fail
      refine (Cc.out _).mono ?_
      rintro e w9 ⟨v9, rfl, ho9, hb9⟩
      obtain ⟨V, cv, rfl, _⟩ := own_shape ho9
      have M9 := Lib.hid (M8.out.below hb9)
      have X9 := Lib.hid (X8.out.below hb9)
      have Z9 := Lib.hid (Z8.out.below hb9)
      have hsrc : Rd w9 w9.heap.size (some ⟨ga, 32, none⟩) (32 - 32) (A.drop (32)) := by rw [List.drop_eq_nil_of_le (by rw [HA.out]; exact Nat.le_refl _)]; exact Rd.nil _ _ _
      have Hsrc := Lib.hid hsrc
      have Hl : Hid ((u8s (A.drop (32))).length = (32 - 32) * 1) := by show _ = _; rw [u8s_len, List.length_drop, HA.out]; try omega
      have Ho9 := Lib.hid ho9
      have Hb9 := Lib.hid hb9
      have Hw : Hid (w8.heap.size ≤ w9.heap.size) := hb9.size
      clear ho9 hb9 hsrc Cc X8 Y8 Z8
      go_wp2_with (at_builtin; refine wpList_append_app _ rfl _ _ 37 rfl w8.heap.size 5 i0 (.int .u8 0) 1 1 Try.underlying37 Hi0.out Hz0.out Hz1.out Hz2.out rfl _ (32) _ rfl Ho9.out (some ⟨ga, 32, none⟩) (32 - 32) _ (u8s (A.drop (32))) rfl Hl.out (by intro h; cases h) Hsrc.out.cells (u8s_one _) (by unfold maxLen; omega) (by omega) Hw.out ?_)
      intro v10 w10 happ
      obtain ⟨V10, c10, rfl, _⟩ := own_shape happ.own
      have hk10 : Kp (fun k => Value.ownBlock (.slice V (32) cv) = some k) w9 w10 := Kp.of_row happ.grow (fun g e => e)
      have M10 := Lib.hid (M9.out.kp hk10 (fun k hf e => by have h1 := (Ho9.out.lt k e).1; have h2 := M8.out.1.lt k hf; omega) (fun k e => by have h1 := (Ho9.out.lt k e).1; have h2 := M8.out.2.2.size; omega))
      have Z10 := own_kp Z9.out.own hk10 (fun k e e2 => by have h1 := (Ho9.out.lt k e2).1; have h2 := Hz8.out k e; omega)
      have hwant : Rd w10 w10.heap.size V10 (32 + (32 - 32)) (lay (32) B A) := Rd.of_own (by
        have := happ.own
        rw [← u8s_append] at this
        exact own_mono this (Nat.zero_le _))
      have Cs := same_any S1 V10 _ _ s1 c10 _ _ _ _ w10 (Rd.of_own Z10) hwant
      rw [beq_self_eq_true] at Cs
      have Cs := Lib.hid Cs
      have Cw := waiting_meth g (tn3 A B _) F7 w10 M10.out.1
      rw [show (((tn3 A B _).waits.length : Nat) : Int) = 0 from rfl] at Cw
      have Cw := Lib.hid Cw
      clear happ hk10 Z10 hwant Z9 X9 M9
      go_wp2_with fail
      refine Cs.out.mono ?_
      rintro e w' ⟨rfl, rfl⟩
      go_wp2_with fail
      refine Cw.out.mono ?_
      rintro e w' ⟨rfl, rfl⟩
      go_wp2_with fail
      refine (known_any w10).mono ?_
      rintro e w11 ⟨rfl, hb⟩
      have HF := Lib.hid (M10.out.2.2.trans (hb.mono M10.out.2.2.size))
      clear hb
      go_wp2
      go_ret
      exact ⟨rfl, HF.out⟩

  · by_cases hca2 : c1 = m
    · obtain rfl : m = 32 := by omega
      subst hca2
      go_wp2_with fail
      refine (Cc.out _).mono ?_
      rintro e w9 ⟨v9, rfl, ho9, hb9⟩
      obtain ⟨V, cv, rfl, _⟩ := own_shape ho9
      have M9 := Lib.hid (M8.out.below hb9)
      have X9 := Lib.hid (X8.out.below hb9)
      have Z9 := Lib.hid (Z8.out.below hb9)
      have hsrc : Rd w9 w9.heap.size (some ⟨ga, 0, none⟩) (32 - 32) (A.drop (32)) := by rw [List.drop_eq_nil_of_le (by rw [HA.out]; exact Nat.le_refl _)]; exact Rd.nil _ _ _
      have Hsrc := Lib.hid hsrc
      have Hl : Hid ((u8s (A.drop (32))).length = (32 - 32) * 1) := by show _ = _; rw [u8s_len, List.length_drop, HA.out]; try omega
      have Ho9 := Lib.hid ho9
      have Hb9 := Lib.hid hb9
      have Hw : Hid (w8.heap.size ≤ w9.heap.size) := hb9.size
      clear ho9 hb9 hsrc Cc X8 Y8 Z8
      go_wp2_with (at_builtin; refine wpList_append_app _ rfl _ _ 37 rfl w8.heap.size 5 i0 (.int .u8 0) 1 1 Try.underlying37 Hi0.out Hz0.out Hz1.out Hz2.out rfl _ (32) _ rfl Ho9.out (some ⟨ga, 0, none⟩) (32 - 32) _ (u8s (A.drop (32))) rfl Hl.out (by intro h; cases h) Hsrc.out.cells (u8s_one _) (by unfold maxLen; omega) (by omega) Hw.out ?_)
      intro v10 w10 happ
      obtain ⟨V10, c10, rfl, _⟩ := own_shape happ.own
      have hk10 : Kp (fun k => Value.ownBlock (.slice V (32) cv) = some k) w9 w10 := Kp.of_row happ.grow (fun g e => e)
      have M10 := Lib.hid (M9.out.kp hk10 (fun k hf e => by have h1 := (Ho9.out.lt k e).1; have h2 := M8.out.1.lt k hf; omega) (fun k e => by have h1 := (Ho9.out.lt k e).1; have h2 := M8.out.2.2.size; omega))
      have Z10 := own_kp Z9.out.own hk10 (fun k e e2 => by have h1 := (Ho9.out.lt k e2).1; have h2 := Hz8.out k e; omega)
      have hwant : Rd w10 w10.heap.size V10 (32 + (32 - 32)) (lay (32) B A) := Rd.of_own (by
        have := happ.own
        rw [← u8s_append] at this
        exact own_mono this (Nat.zero_le _))
      have Cs := same_any S1 V10 _ _ s1 c10 _ _ _ _ w10 (Rd.of_own Z10) hwant
      rw [beq_self_eq_true] at Cs
      have Cs := Lib.hid Cs
      have Cw := waiting_meth g (tn3 A B _) F7 w10 M10.out.1
      rw [show (((tn3 A B _).waits.length : Nat) : Int) = 0 from rfl] at Cw
      have Cw := Lib.hid Cw
      clear happ hk10 Z10 hwant Z9 X9 M9
      go_wp2_with fail
      refine Cs.out.mono ?_
      rintro e w' ⟨rfl, rfl⟩
      go_wp2_with fail
      refine Cw.out.mono ?_
      rintro e w' ⟨rfl, rfl⟩
      go_wp2_with fail
      refine (known_any w10).mono ?_
      rintro e w11 ⟨rfl, hb⟩
      have HF := Lib.hid (M10.out.2.2.trans (hb.mono M10.out.2.2.size))
      clear hb
      go_wp2
      go_ret
      exact ⟨rfl, HF.out⟩

    · have hne : ¬ (c1 = m) := hca2
      have q0 : ¬ ((m : Int) < 0) := by omega
      have q1 : ¬ (32 < (m : Int)) := by omega
      have q2 : (m : Int) ≤ 32 := by omega
      go_wp2_with fail
      refine (Cc.out _).mono ?_
      rintro e w9 ⟨v9, rfl, ho9, hb9⟩
      obtain ⟨V, cv, rfl, _⟩ := own_shape ho9
      have M9 := Lib.hid (M8.out.below hb9)
      have X9 := Lib.hid (X8.out.below hb9)
      have Z9 := Lib.hid (Z8.out.below hb9)
      have hsrc : Rd w9 w9.heap.size (some ⟨ga, m, none⟩) (32 - m) (A.drop (m)) := by
        have := rd_part (i := m) (k := 32 - m) X9.out.rd (by omega)
        rw [Nat.zero_add] at this
        rwa [List.take_of_length_le (by rw [List.length_drop, HA.out]; omega)] at this
      have Hsrc := Lib.hid hsrc
      have Hl : Hid ((u8s (A.drop (m))).length = (32 - m) * 1) := by show _ = _; rw [u8s_len, List.length_drop, HA.out]; try omega
      have Ho9 := Lib.hid ho9
      have Hb9 := Lib.hid hb9
      have Hw : Hid (w8.heap.size ≤ w9.heap.size) := hb9.size
      clear ho9 hb9 hsrc Cc X8 Y8 Z8
      go_wp2_with (at_builtin; refine wpList_append_app _ rfl _ _ 37 rfl w8.heap.size 5 i0 (.int .u8 0) 1 1 Try.underlying37 Hi0.out Hz0.out Hz1.out Hz2.out rfl _ (m) _ rfl Ho9.out (some ⟨ga, m, none⟩) (32 - m) _ (u8s (A.drop (m))) rfl Hl.out (by intro h; cases h) Hsrc.out.cells (u8s_one _) (by unfold maxLen; omega) (by omega) Hw.out ?_)
      intro v10 w10 happ
      obtain ⟨V10, c10, rfl, _⟩ := own_shape happ.own
      have hk10 : Kp (fun k => Value.ownBlock (.slice V (m) cv) = some k) w9 w10 := Kp.of_row happ.grow (fun g e => e)
      have M10 := Lib.hid (M9.out.kp hk10 (fun k hf e => by have h1 := (Ho9.out.lt k e).1; have h2 := M8.out.1.lt k hf; omega) (fun k e => by have h1 := (Ho9.out.lt k e).1; have h2 := M8.out.2.2.size; omega))
      have Z10 := own_kp Z9.out.own hk10 (fun k e e2 => by have h1 := (Ho9.out.lt k e2).1; have h2 := Hz8.out k e; omega)
      have hwant : Rd w10 w10.heap.size V10 (m + (32 - m)) (lay (m) B A) := Rd.of_own (by
        have := happ.own
        rw [← u8s_append] at this
        exact own_mono this (Nat.zero_le _))
      have Cs := same_any S1 V10 _ _ s1 c10 _ _ _ _ w10 (Rd.of_own Z10) hwant
      rw [beq_self_eq_true, show m + (32 - m) = 32 by omega] at Cs
      have Cs := Lib.hid Cs
      have Cw := waiting_meth g (tn3 A B _) F7 w10 M10.out.1
      rw [show (((tn3 A B _).waits.length : Nat) : Int) = 0 from rfl] at Cw
      have Cw := Lib.hid Cw
      clear happ hk10 Z10 hwant Z9 X9 M9
      go_wp2_with fail
      refine Cs.out.mono ?_
      rintro e w' ⟨rfl, rfl⟩
      go_wp2_with fail
      refine Cw.out.mono ?_
      rintro e w' ⟨rfl, rfl⟩
      go_wp2_with fail
      refine (known_any w10).mono ?_
      rintro e w11 ⟨rfl, hb⟩
      have HF := Lib.hid (M10.out.2.2.trans (hb.mono M10.out.2.2.size))
      clear hb
      go_wp2
      go_ret
      exact ⟨rfl, HF.out⟩
namespace diskTorn
set_option maxRecDepth 100000 in
theorem lifted (os : Os) (started : os.Started) (H : Type) (enc : TypeId × Value → H) :
    ReturnsInHanded {} Try.checked os 5 .any (Rows.diskTornSpec.pre6 enc Try.prog Try.f5 Rows.diskTornRow.domain false) (Rows.diskTornSpec.post enc Try.prog Try.f5 false true false false) := by
  refine law_lift started (by kernel_rfl) Try.func5
    (ChangeSpec.witness6 (enc := enc) (C := Try.checked) false ⟨#[], #[.int .u8 0, .int .u8 0, .int .i64 0], []⟩ 8 (by kernel_rfl) (by kernel_rfl) (by kernel_rfl) (by kernel_rfl))
    rfl ?_ (by kernel_rfl) (by kernel_rfl) ?_
  · intro ds h
    match ds, h with
    | [_, _, _], _ => rfl
  intro W base args ds p g
  have hA := g.trod
  have hval := g.val
  rw [Try.params5] at hA hval
  obtain ⟨v0, vs0, d0, ds0, p0, q0, hargs, rfl, rfl, h0, r0⟩ := trodAll_cons hA
  obtain ⟨v1, vs1, d1, ds1, p1, q1, rfl, rfl, rfl, h1, r1⟩ := trodAll_cons r0
  obtain ⟨v2, vs2, d2, ds2, p2, q2, rfl, rfl, rfl, h2, r2⟩ := trodAll_cons r1
  obtain ⟨rfl, rfl, rfl⟩ := trodAll_nil r2
  obtain rfl : args = #[v0, v1, v2] := by cases args; simp_all
  obtain ⟨a0, rfl, _, _, w0⟩ := open_int Try.underlying5 (hval 0 5 v0 rfl rfl) h0
  have b0 := bounds_u8 w0
  obtain ⟨m0, rfl⟩ := Int.eq_ofNat_of_zero_le b0.1
  obtain ⟨k0, rfl⟩ : ∃ k : UInt8, m0 = k.toNat := ⟨UInt8.ofNat m0, by rw [UInt8.toNat_ofNat']; omega⟩
  obtain ⟨a1, rfl, _, _, w1⟩ := open_int Try.underlying5 (hval 1 5 v1 rfl rfl) h1
  have b1 := bounds_u8 w1
  obtain ⟨m1, rfl⟩ := Int.eq_ofNat_of_zero_le b1.1
  obtain ⟨k1, rfl⟩ : ∃ k : UInt8, m1 = k.toNat := ⟨UInt8.ofNat m1, by rw [UInt8.toNat_ofNat']; omega⟩
  obtain ⟨a2, rfl, _, _, w2⟩ := open_int Try.underlying3 (hval 2 3 v2 rfl rfl) h2
  have b2 := bounds_i64 w2
  exact diskTorn_walk k0 k1 a2 W b2.1 b2.2

theorem over : Rows.diskTornRow.holds Try.pinned (OpenSpec.ofChange Rows.diskTornSpec) :=
  OpenClaim.holds_of_wide 5 Try.f5 rfl rfl rfl rfl rfl rfl rfl ⟨rfl, rfl, rfl, rfl, rfl⟩ rfl rfl rfl rfl rfl (by kernel_rfl) Try.func5 (by kernel_rfl)
    (of_decide_eq_true (by kernel_rfl)) (by unfold Func.isWrapper; first | (rw [if_pos (by decide +kernel)]; kernel_rfl) | (rw [if_neg (by decide +kernel)]; exact ⟨rfl, rfl⟩))
    (fun os started H enc _ => lifted os started H enc)
end diskTorn

theorem DiskTorn_proved : Rows.DiskTornSaid := diskTorn.over
#print axioms DiskTorn_proved
end Go.Proofs.Ytmjffikdaejffaa
