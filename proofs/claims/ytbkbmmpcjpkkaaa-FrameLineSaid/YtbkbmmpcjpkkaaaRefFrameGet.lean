/- ref02.Get answers the plain frame at a place: where it is refused ahead of its sum (the rest is under way). -/
import Derived.Test.YtbkbmmpcjpkkaaaRefFramePut
import Derived.Test.YtbkbmmpcjpkkaaaBk
import Derived.Handy
namespace Go.Proofs.Ytbkbmmpcjpkkaaa
open Go.RowKit

/-- The frame at a place: its kind, its body, the place behind it, the error. -/
def getA (l : List UInt8) (a : Int) : UInt8 × List UInt8 × Int × Int :=
  if a < 0 ∨ (l.length : Int) < a then (0, [], 0, 2)
  else match getF (l.drop a.toNat) with
    | .error e => (0, [], 0, e)
    | .ok (f, k) => (f.1, f.2, a + k, 0)

set_option maxHeartbeats 4000000 in
set_option maxRecDepth 100000 in
theorem refGetF_head (A : Option Addr) (n c : Nat) (at_ : Int) (l : List UInt8) (w : World) (hc : n ≤ c) (hn : n ≤ 140737488355328) (hm : c ≤ 9223372036854775807) (h : Rd w w.heap.size A n l) (hbad : ∀ f k, getF (l.drop at_.toNat) ≠ .ok (f, k) ∧ getF (l.drop at_.toNat) ≠ .error 21) :
    Calls Try.prog 21 #[.slice A n c, .int .i64 at_] w fun e w' =>
      ∃ v, e = .returned (.tuple #[.agg #[.int .u8 ((getA l at_).1.toNat : Int), v], .int .i64 (getA l at_).2.2.1, .int .i64 (getA l at_).2.2.2]) ∧ w'.ownsRow w.heap.size 5 1 v (getA l at_).2.1.length (u8s (getA l at_).2.1) ∧ Below w.heap.size w w' := by
  have hl := h.1
  unfold getA
  rw [hl]
  by_cases h1 : at_ < 0 ∨ (n : Int) < at_
  · rw [if_pos h1]
    clear h hl hbad
    by_cases h2 : at_ < 0
    all_goals
      go_enter Try.func21, Try.ntmps21
      go_wp2
      go_returns
      exact ⟨_, rfl, World.ownsRow_nil _ _ _ _, (Below.refl _ _).alloc (Nat.le_refl _) _⟩
  · rw [if_neg h1]
    obtain ⟨a, rfl⟩ := Int.eq_ofNat_of_zero_le (show 0 ≤ at_ by omega)
    rw [Int.toNat_natCast] at hbad ⊢
    have ha : a ≤ n := by omega
    clear h1
    have hdl : (l.drop a).length = n - a := by rw [List.length_drop, hl]
    unfold getF at hbad ⊢
    rw [hdl] at hbad ⊢
    by_cases h2 : n - a = 0
    · rw [if_pos h2]
      have : a = n := by omega
      subst this
      clear h hl hdl hbad
      go_enter Try.func21, Try.ntmps21
      go_wp2
      go_returns
      exact ⟨_, rfl, World.ownsRow_nil _ _ _ _, (Below.refl _ _).alloc (Nat.le_refl _) _⟩
    · rw [if_neg h2] at hbad ⊢
      obtain ⟨b, o, rfl, _, hcell⟩ := h.2 (by omega)
      have hx := hcell a (by omega)
      have hx0 : (l.drop a).getD 0 0 = l[a]'(by omega) := by simp [List.getD, List.getElem?_eq_getElem (show a < l.length by omega)]
      rw [hx0] at hbad ⊢
      have HL := Lib.hid hl
      generalize hxe : l[a]'(by omega) = x at *
      by_cases h3 : x ≠ 167
      · rw [if_pos h3]
        have hx3 : ((x.toNat : Int) != 167) = true := by
          simp
          intro e
          exact h3 (UInt8.toNat_inj.1 (by show x.toNat = 167; omega))
        clear hbad hxe hcell h hdl
        go_enter Try.func21, Try.ntmps21
        go_wp2
        go_returns
        exact ⟨_, rfl, World.ownsRow_nil _ _ _ _, (Below.refl _ _).alloc (Nat.le_refl _) _⟩
      · rw [if_neg h3] at hbad ⊢
        have hx3 : x = 167 := by simpa using h3
        subst hx3
        clear h3
        by_cases h4 : n - a < 6
        · rw [if_pos h4]
          clear hbad hxe hcell h hdl
          go_enter Try.func21, Try.ntmps21
          go_wp2
          go_returns
          exact ⟨_, rfl, World.ownsRow_nil _ _ _ _, (Below.refl _ _).alloc (Nat.le_refl _) _⟩
        · rw [if_neg h4] at hbad ⊢
          have F1 : ∀ W, Rd W w.heap.size (some ⟨b, o, none⟩) n l → Calls Try.prog 36 #[.slice (some ⟨b, o, none⟩) n c, .int .i64 ((a : Int) + 2)] W fun e w' => e = .returned (.tuple #[.int .u32 (be (((l.drop a).drop 2).take 4) : Nat), .int .i64 ((a : Int) + 6), .int .i64 0]) ∧ ∃ q, W.drewN q = w' := by
            intro W hW
            have := refFixed_any (some ⟨b, o, none⟩) n c w.heap.size ((a : Int) + 2) l W hc hm hW
            have e : fixAt l ((a : Int) + 2) = (((be (((l.drop a).drop 2).take 4) : Nat) : Int), (a : Int) + 6, 0) := by
              unfold fixAt
              rw [if_neg (by omega), if_neg (by omega), show ((a : Int) + 2).toNat = a + 2 by omega, List.drop_drop]
              exact Prod.ext rfl (Prod.ext (by show (a : Int) + 2 + 4 = (a : Int) + 6; omega) rfl)
            rwa [e] at this
          have hN := be_lt (((l.drop a).drop 2).take 4)
          have hN4 : (((l.drop a).drop 2).take 4).length = 4 := by rw [List.length_take, List.length_drop, hdl]; omega
          rw [hN4] at hN
          generalize hNe : be (((l.drop a).drop 2).take 4) = N at *
          have HF1 := Lib.hid F1
          have Hh := Lib.hid h
          by_cases h5 : 1024 < N
          · rw [if_pos h5]
            clear hbad hxe hcell h hdl F1 hN4 hNe
            go_enter Try.func21, Try.ntmps21
            go_wp2_with fail
            refine (HF1.out _ (Hh.out.alloc (Nat.le_refl _) _)).mono ?_
            rintro e w' ⟨rfl, q, rfl⟩
            go_wp2
            go_returns
            exact ⟨_, rfl, World.ownsRow_nil _ _ _ _, ((bel_drewN ((Below.refl _ _).alloc (Nat.le_refl _) _) q).setCell (Nat.le_refl _) _).setCell (Nat.le_refl _) _⟩
          · rw [if_neg h5] at hbad ⊢
            by_cases h6 : n - a < 10 + N
            · rw [if_pos h6]
              clear hbad hxe hcell h hdl F1 hN4 hNe
              go_enter Try.func21, Try.ntmps21
              go_wp2_with fail
              refine (HF1.out _ (Hh.out.alloc (Nat.le_refl _) _)).mono ?_
              rintro e w' ⟨rfl, q, rfl⟩
              go_wp2
              go_returns
              exact ⟨_, rfl, World.ownsRow_nil _ _ _ _, ((bel_drewN ((Below.refl _ _).alloc (Nat.le_refl _) _) q).setCell (Nat.le_refl _) _).setCell (Nat.le_refl _) _⟩
            · rw [if_neg h6] at hbad ⊢
              by_cases h7 : be (((l.drop a).drop (6 + N)).take 4) ≠ crcSum ((l.drop a).take (6 + N))
              · rw [if_pos h7] at hbad
                exact absurd rfl (hbad (0, []) 0).2
              · rw [if_neg h7] at hbad
                exact absurd rfl (hbad _ _).1
end Go.Proofs.Ytbkbmmpcjpkkaaa
