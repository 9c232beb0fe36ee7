/- The program's Net: Drop, Take, Twice. -/
import Derived.Test.YtfghbhjljbdlmaaNetU
namespace Go.Proofs.Ytfghbhjljbdlmaa
open Go.RowKit

theorem there_eq {s : Nt} (a : Int) : (decide (0 ≤ a) && decide (a < (s.row.length : Int))) = s.there a := rfl
theorem PN.there {w : World} {F : Nat → Prop} {g : Nat} {s : Nt} (h : PN w F g s) (a : Int) : Calls Try.prog 70 #[.pointer (some ⟨g, 0, none⟩), .int .i64 a] w fun e w' => e = .returned (.bool (s.there a)) ∧ w = w' := by
  obtain ⟨A, c, q1, _⟩ := h.c1
  exact nThere_any g s.row.length c a A w q1
theorem PN.cutI {w : World} {F : Nat → Prop} {g : Nat} {s : Nt} (h : PN w F g s) (a : Int) (ha : s.there a = true) : Calls Try.prog 74 #[.pointer (some ⟨g, 0, none⟩), .int .i64 a] w (CutR s a w F g) := by
  obtain ⟨h0, h1⟩ := Nt.there_lt ha
  obtain ⟨k, rfl⟩ := Int.eq_ofNat_of_zero_le h0
  rw [Int.toNat_natCast] at h1
  exact nCut_any g k s F w h1 h
set_option maxRecDepth 100000 in
set_option maxHeartbeats 1000000 in
theorem nDrop_any (g : Nat) (a : Int) (s : Nt) (F : Nat → Prop) (w : World) (h : PN w F g s) : Calls Try.prog 26 #[.pointer (some ⟨g, 0, none⟩), .int .i64 a] w (NActed w F g (.bool (s.there a)) (s.take a)) := by
  have HT := h.there a
  unfold Nt.take
  cases ht : s.there a with
  | false =>
    rw [ht] at HT
    have HT := Lib.hid HT
    have HF : Hid (NActed w F g (.bool false) s (.returned (.bool false)) w) := Lib.hid ⟨rfl, F, h, Mv.refl _ _⟩
    rw [if_neg (by decide)]
    clear h
    go_enter Try.func26, Try.ntmps26
    go_wp2_with fail
    refine HT.out.mono ?_
    rintro e w' ⟨rfl, rfl⟩
    go_wp2
    go_ret
    exact HF.out
  | true =>
    rw [ht] at HT
    have HT := Lib.hid HT
    have HC := Lib.hid (h.cutI a ht)
    rw [if_pos rfl]
    clear h
    go_enter Try.func26, Try.ntmps26
    go_wp2_with fail
    refine HT.out.mono ?_
    rintro e w' ⟨rfl, rfl⟩
    go_wp2_with fail
    refine HC.out.mono ?_
    unfold CutR
    rintro e w' ⟨b, rfl, hb1, hb2, hb3, hb4⟩
    have HP := Lib.hid hb3
    have HK := Lib.hid hb4
    clear hb1 hb2 hb3 hb4
    go_wp2
    go_ret
    exact ⟨rfl, F, HP.out, Mv.of HK.out⟩
/-- A packet that came: the body is new. -/
def TakeR (s : Nt) (a : Int) (w : World) (F : Nat → Prop) (g : Nat) (e : Ending) (w' : World) : Prop :=
  ∃ b, e = .returned (.tuple #[pkV (s.look a).1 b, .bool (s.look a).2]) ∧ w'.ownsRow w.heap.size 5 1 b (s.look a).1.body.length (u8s (s.look a).1.body) ∧ PN w' F g (s.take a) ∧ Kp F w w'

set_option maxRecDepth 100000 in
set_option maxHeartbeats 4000000 in
theorem nTake_any (g : Nat) (a : Int) (s : Nt) (F : Nat → Prop) (w : World) (h : PN w F g s) : Calls Try.prog 24 #[.pointer (some ⟨g, 0, none⟩), .int .i64 a] w (TakeR s a w F g) := by
  have hlt := Lib.hid h.lt
  obtain ⟨W1, hW1⟩ : ∃ W1, W1 = w.alloc (.cells #[.int .i64 0, .int .i64 0, .slice none 0 0] 34) := ⟨_, rfl⟩
  have hb0 : Below w.heap.size w W1 := by rw [hW1]; exact (Below.refl _ _).alloc (Nat.le_refl _) _
  have hs1 : W1.heap.size = w.heap.size + 1 := by rw [hW1]; simp
  have HL := nLook_any (h.below hb0) a
  have HE : Hid (∀ e w', (∃ b, e = .returned (.tuple #[pkV (s.look a).1 b, .bool (s.look a).2]) ∧ w'.ownsRow w.heap.size 5 1 b (s.look a).1.body.length (u8s (s.look a).1.body) ∧ PN w' F g (s.take a) ∧ Kp F w w') → TakeR s a w F g e w') := Lib.hid fun e w' h => h
  unfold LookR at HL
  have hok : (s.look a).2 = s.there a := by unfold Nt.look; split <;> simp_all
  rw [hok] at HL HE
  have htk : s.take a = if s.there a = true then s.cut a else s := rfl
  obtain ⟨⟨f, d, l⟩, hp⟩ : ∃ p, (s.look a).1 = p := ⟨_, rfl⟩
  rw [hp] at HL HE
  dsimp only [pkV] at HL HE
  have HC : Hid (∀ W, Below W1.heap.size W1 W → s.there a = true → Calls Try.prog 74 #[.pointer (some ⟨g, 0, none⟩), .int .i64 a] W (CutR s a W F g)) := Lib.hid fun W hb ht => ((h.below hb0).below hb).cutI a ht
  have HP1 := Lib.hid (h.below hb0)
  have HL := Lib.hid HL
  have HW1 := Lib.hid hW1
  have Hb0 := Lib.hid hb0
  have Htk := Lib.hid htk
  have Hs1 := Lib.hid hs1
  generalize hth : s.there a = T at *
  clear h hW1 hb0 hp hok htk hs1
  go_enter Try.func24, Try.ntmps24
  go_wp2_with fail
  rw [← HW1.out]
  refine HL.out.mono ?_
  rintro e W2 ⟨b, rfl, ho, hb2⟩
  obtain ⟨Ab, cb, rfl, _⟩ := own_shape ho
  obtain ⟨W3, hW3⟩ : ∃ W3, W3 = W2.alloc (.cells #[.int .i64 f, .int .i64 d, .slice Ab l.length cb] 34) := ⟨_, rfl⟩
  have hb3 : Below W2.heap.size W2 W3 := by rw [hW3]; exact (Below.refl _ _).alloc (Nat.le_refl _) _
  have hz1 := Hs1.out
  have hz2 := hb2.size
  have hz3 : W3.heap.size = W2.heap.size + 1 := by rw [hW3]; simp
  have kz : Bk W3 w.heap.size 34 #[.int .i64 0, .int .i64 0, .slice none 0 0] := ((by rw [HW1.out]; exact Bk.new w 34 _ : Bk W1 w.heap.size 34 _).below hb2 (by omega)).below hb3 (by omega)
  have kp : Bk W3 W2.heap.size 34 #[.int .i64 f, .int .i64 d, .slice Ab l.length cb] := by rw [hW3]; exact Bk.new W2 34 _
  have ho3 := own_below ho hb3 (fun k hk => (ho.lt k hk).2)
  have hb13 : Below W1.heap.size W1 W3 := below_then hb2 hb3
  cases T with
  | false =>
    have hP3 := HP1.out.below hb13
    have x0 : W3.cell? ⟨W2.heap.size, 0, none⟩ = some (.int .i64 f) := kp.cell 0
    have x1 : W3.cell? ⟨W2.heap.size, 1, none⟩ = some (.int .i64 d) := kp.cell 1
    have x2 : W3.cell? ⟨W2.heap.size, 2, none⟩ = some (.slice Ab l.length cb) := kp.cell 2
    have y0 : W3.cell? ⟨w.heap.size, 0, none⟩ = some (.int .i64 0) := kz.cell 0
    have y1 : W3.cell? ⟨w.heap.size, 1, none⟩ = some (.int .i64 0) := kz.cell 1
    have y2 : W3.cell? ⟨w.heap.size, 2, none⟩ = some (.slice none 0 0) := kz.cell 2
    have z0 := kz.frozen 0
    have z1 := kz.frozen 1
    have z2 := kz.frozen 2
    have hk6 : Hid (Kp (fun j => j = w.heap.size) W3 (((W3.setCell ⟨w.heap.size, 0, none⟩ (.int .i64 f)).setCell ⟨w.heap.size, 1, none⟩ (.int .i64 d)).setCell ⟨w.heap.size, 2, none⟩ (.slice Ab l.length cb))) :=
      Lib.hid (((Kp.set_ (F := fun j => j = w.heap.size) (p := ⟨w.heap.size, 0, none⟩) rfl _).trans (Kp.set_ (F := fun j => j = w.heap.size) (p := ⟨w.heap.size, 1, none⟩) rfl _)).trans (Kp.set_ (F := fun j => j = w.heap.size) (p := ⟨w.heap.size, 2, none⟩) rfl _))
    have hz6 : Hid (Bk (((W3.setCell ⟨w.heap.size, 0, none⟩ (.int .i64 f)).setCell ⟨w.heap.size, 1, none⟩ (.int .i64 d)).setCell ⟨w.heap.size, 2, none⟩ (.slice Ab l.length cb)) w.heap.size 34 #[.int .i64 f, .int .i64 d, .slice Ab l.length cb]) := Lib.hid (((kz.set_ 0 _).set_ 1 _).set_ 2 _)
    have HP3 := Lib.hid hP3
    have Ho3 := Lib.hid ho3
    have Hb13 := Lib.hid hb13
    have hne : W2.heap.size ≠ w.heap.size := by omega
    have Hz12 : Hid (w.heap.size < W1.heap.size ∧ W1.heap.size ≤ W2.heap.size) := Lib.hid ⟨by omega, hz2⟩
    clear kz kp ho ho3 hb13 hb3 hb2 hP3 hz1 hz2 hz3
    subst hW3
    go_wp2
    generalize (((W2.alloc (.cells #[.int .i64 f, .int .i64 d, .slice Ab l.length cb] 34)).setCell ⟨w.heap.size, 0, none⟩ (.int .i64 f)).setCell ⟨w.heap.size, 1, none⟩ (.int .i64 d)).setCell ⟨w.heap.size, 2, none⟩ (.slice Ab l.length cb) = w6 at *
    have j0 : w6.cell? ⟨w.heap.size, 0, none⟩ = some (.int .i64 f) := hz6.out.cell 0
    have j1 : w6.cell? ⟨w.heap.size, 1, none⟩ = some (.int .i64 d) := hz6.out.cell 1
    have j2 : w6.cell? ⟨w.heap.size, 2, none⟩ = some (.slice Ab l.length cb) := hz6.out.cell 2
    refine bodyPost_ret (by simp [results, Try.results24, go_sem, j0, j1, j2]; try rfl) rfl ?_
    have q1 := Hz12.out.1
    have q2 := Hz12.out.2
    refine HE.out _ _ ⟨_, rfl, own_kp (own_mono Ho3.out (by omega)) hk6.out (fun j e1 e2 => by have := (Ho3.out.lt j e1).1; omega), ?_, ?_⟩
    · rw [Htk.out]
      exact HP3.out.kp hk6.out (fun j e1 e2 => by have := hlt.out j e1; omega)
    · exact ((Kp.of_below Hb0.out : Kp F w W1).trans (Kp.of_below Hb13.out)).trans' hk6.out (fun j e => .inr (by omega))
  | true =>
    have HC3 := Lib.hid (HC.out W3 hb13 rfl)
    clear HC
    have Hkz := Lib.hid kz
    have Hkp := Lib.hid kp
    have Ho3 := Lib.hid ho3
    have Hb13 := Lib.hid hb13
    have Hz12 : Hid (w.heap.size < W1.heap.size ∧ W1.heap.size ≤ W2.heap.size) := Lib.hid ⟨by omega, hz2⟩
    have HW3 := Lib.hid hW3
    have hne : W2.heap.size ≠ w.heap.size := by omega
    clear kz kp ho ho3 hb13 hb3 hb2 hz1 hz2 hz3 hW3
    go_wp2_with fail
    rw [← HW3.out]
    refine HC3.out.mono ?_
    unfold CutR
    rintro e w4 ⟨b4, rfl, hb1, hb2, hb3, hb4⟩
    have q1 := Hz12.out.1
    have q2 := Hz12.out.2
    have kz4 := Hkz.out.kp hb4 (fun e => by have := hlt.out _ e; omega)
    have kp4 := Hkp.out.kp hb4 (fun e => by have := hlt.out _ e; omega)
    have HO4 := Lib.hid (own_kp Ho3.out hb4 (fun j e1 e2 => by have := (Ho3.out.lt j e1).1; have := hlt.out _ e2; omega))
    have HP4 := Lib.hid hb3
    have HK4 : Hid (Kp F w w4) := Lib.hid (((Kp.of_below Hb0.out : Kp F w W1).trans (Kp.of_below Hb13.out)).trans hb4)
    have x0 : w4.cell? ⟨W2.heap.size, 0, none⟩ = some (.int .i64 f) := kp4.cell 0
    have x1 : w4.cell? ⟨W2.heap.size, 1, none⟩ = some (.int .i64 d) := kp4.cell 1
    have x2 : w4.cell? ⟨W2.heap.size, 2, none⟩ = some (.slice Ab l.length cb) := kp4.cell 2
    have y0 : w4.cell? ⟨w.heap.size, 0, none⟩ = some (.int .i64 0) := kz4.cell 0
    have y1 : w4.cell? ⟨w.heap.size, 1, none⟩ = some (.int .i64 0) := kz4.cell 1
    have y2 : w4.cell? ⟨w.heap.size, 2, none⟩ = some (.slice none 0 0) := kz4.cell 2
    have z0 := kz4.frozen 0
    have z1 := kz4.frozen 1
    have z2 := kz4.frozen 2
    have hk6 : Hid (Kp (fun j => j = w.heap.size) w4 (((w4.setCell ⟨w.heap.size, 0, none⟩ (.int .i64 f)).setCell ⟨w.heap.size, 1, none⟩ (.int .i64 d)).setCell ⟨w.heap.size, 2, none⟩ (.slice Ab l.length cb))) :=
      Lib.hid (((Kp.set_ (F := fun j => j = w.heap.size) (p := ⟨w.heap.size, 0, none⟩) rfl _).trans (Kp.set_ (F := fun j => j = w.heap.size) (p := ⟨w.heap.size, 1, none⟩) rfl _)).trans (Kp.set_ (F := fun j => j = w.heap.size) (p := ⟨w.heap.size, 2, none⟩) rfl _))
    have hz6 : Hid (Bk (((w4.setCell ⟨w.heap.size, 0, none⟩ (.int .i64 f)).setCell ⟨w.heap.size, 1, none⟩ (.int .i64 d)).setCell ⟨w.heap.size, 2, none⟩ (.slice Ab l.length cb)) w.heap.size 34 #[.int .i64 f, .int .i64 d, .slice Ab l.length cb]) := Lib.hid (((kz4.set_ 0 _).set_ 1 _).set_ 2 _)
    clear kz4 kp4 hb1 hb2 hb3 hb4 q1 q2
    go_wp2
    generalize ((w4.setCell ⟨w.heap.size, 0, none⟩ (.int .i64 f)).setCell ⟨w.heap.size, 1, none⟩ (.int .i64 d)).setCell ⟨w.heap.size, 2, none⟩ (.slice Ab l.length cb) = w6 at *
    have j0 : w6.cell? ⟨w.heap.size, 0, none⟩ = some (.int .i64 f) := hz6.out.cell 0
    have j1 : w6.cell? ⟨w.heap.size, 1, none⟩ = some (.int .i64 d) := hz6.out.cell 1
    have j2 : w6.cell? ⟨w.heap.size, 2, none⟩ = some (.slice Ab l.length cb) := hz6.out.cell 2
    refine bodyPost_ret (by simp [results, Try.results24, go_sem, j0, j1, j2]; try rfl) rfl ?_
    have q1 := Hz12.out.1
    have q2 := Hz12.out.2
    refine HE.out _ _ ⟨_, rfl, own_kp (own_mono HO4.out (by omega)) hk6.out (fun j e1 e2 => by have := (HO4.out.lt j e1).1; omega), ?_, ?_⟩
    · rw [Htk.out]
      exact HP4.out.kp hk6.out (fun j e1 e2 => by have := hlt.out j e1; omega)
    · exact HK4.out.trans' hk6.out (fun j e => .inr (by omega))
end Go.Proofs.Ytfghbhjljbdlmaa
