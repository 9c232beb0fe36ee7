/- frame.bodyPlace: from where to where the body of the frame at a place lies. -/
import Derived.Test.YtbkbmmpcjpkkaaaFramePut
namespace Go.Proofs.Ytbkbmmpcjpkkaaa
open Go.RowKit

/-- From where to where a frame's body lies, or the error. -/
def plF (l : List UInt8) (a : Int) : Int × Int × Int :=
  if a < 0 ∨ (l.length : Int) < a then (0, 0, 2)
  else if (l.drop a.toNat).length = 0 then (0, 0, 10)
  else if (l.drop a.toNat).getD 0 0 ≠ 167 then (0, 0, 20)
  else if (l.drop a.toNat).length < 6 then (0, 0, 10)
  else if 1024 < be (((l.drop a.toNat).drop 2).take 4) then (0, 0, 3)
  else if (l.drop a.toNat).length < 6 + be (((l.drop a.toNat).drop 2).take 4) then (0, 0, 10)
  else (a + 6, a + 6 + (be (((l.drop a.toNat).drop 2).take 4) : Nat), 0)

set_option maxHeartbeats 1000000 in
set_option maxRecDepth 100000 in
theorem place_any (A : Option Addr) (n c B : Nat) (at_ : Int) (l : List UInt8) (w : World) (hc : n ≤ c) (hn : n ≤ 140737488355328) (hm : c ≤ 9223372036854775807) (h : Rd w B A n l) :
    Calls Try.prog 33 #[.slice A n c, .int .i64 at_] w fun e w' => e = .returned (.tuple #[.int .i64 (plF l at_).1, .int .i64 (plF l at_).2.1, .int .i64 (plF l at_).2.2]) ∧ w = w' := by
  have hl := h.1
  unfold plF
  rw [hl]
  by_cases h1 : at_ < 0 ∨ (n : Int) < at_
  · rw [if_pos h1]
    clear h hl
    by_cases h2 : at_ < 0
    all_goals
      go_enter Try.func33, Try.ntmps33
      go_wp2
      go_ret3
      exact ⟨rfl, rfl⟩
  · rw [if_neg h1]
    obtain ⟨a, rfl⟩ := Int.eq_ofNat_of_zero_le (show 0 ≤ at_ by omega)
    rw [Int.toNat_natCast]
    have ha : a ≤ n := by omega
    clear h1
    have hdl : (l.drop a).length = n - a := by rw [List.length_drop, hl]
    rw [hdl]
    by_cases h2 : n - a = 0
    · rw [if_pos h2]
      have : a = n := by omega
      subst this
      clear h hl hdl
      go_enter Try.func33, Try.ntmps33
      go_wp2
      go_ret3
      exact ⟨rfl, rfl⟩
    · rw [if_neg h2]
      obtain ⟨b, o, rfl, _, hcell⟩ := h.2 (by omega)
      have hx := hcell a (by omega)
      have hx0 : (l.drop a).getD 0 0 = l[a]'(by omega) := by simp [List.getD, List.getElem?_eq_getElem (show a < l.length by omega)]
      rw [hx0]
      have HL := Lib.hid hl
      generalize hxe : l[a]'(by omega) = x at *
      by_cases h3 : x ≠ 167
      · rw [if_pos h3]
        have hx3 : ((x.toNat : Int) != 167) = true := by
          simp
          intro e
          exact h3 (UInt8.toNat_inj.1 (by show x.toNat = 167; omega))
        clear hxe hcell h hdl
        go_enter Try.func33, Try.ntmps33
        go_wp2
        go_ret3
        exact ⟨rfl, rfl⟩
      · rw [if_neg h3]
        have hx3 : x = 167 := by simpa using h3
        subst hx3
        clear h3
        have F0 := binFixed_any (some ⟨b, o, none⟩) n c B ((a : Int) + 2) l w hc hm h
        unfold fixAt at F0
        rw [hl] at F0
        by_cases h4 : n - a < 6
        · rw [if_pos h4]
          by_cases h5 : n - a < 2
          · clear hxe hcell h hdl F0
            go_enter Try.func33, Try.ntmps33
            go_wp2
            go_ret3
            exact ⟨rfl, rfl⟩
          · rw [if_neg (by omega), if_pos (by omega)] at F0
            have HF := Lib.hid F0
            clear hxe hcell h hdl F0
            go_enter Try.func33, Try.ntmps33
            go_wp2_with fail
            refine HF.out.mono ?_
            rintro e w' ⟨rfl, rfl⟩
            go_wp2
            go_ret3
            exact ⟨rfl, rfl⟩
        · rw [if_neg h4]
          rw [if_neg (by omega), if_neg (by omega), show ((a : Int) + 2).toNat = a + 2 by omega, show (a : Int) + 2 + 4 = (a : Int) + 6 by omega] at F0
          rw [List.drop_drop]
          have hN := be_lt ((l.drop (a + 2)).take 4)
          have hN4 : ((l.drop (a + 2)).take 4).length = 4 := by rw [List.length_take, List.length_drop, hl]; omega
          rw [hN4] at hN
          generalize hNe : be ((l.drop (a + 2)).take 4) = N at *
          have HF := Lib.hid F0
          clear hxe hcell h hdl F0 hN4 hNe
          by_cases h5 : 1024 < N
          · rw [if_pos h5]
            go_enter Try.func33, Try.ntmps33
            go_wp2_with fail
            refine HF.out.mono ?_
            rintro e w' ⟨rfl, rfl⟩
            go_wp2
            go_ret3
            exact ⟨rfl, rfl⟩
          · rw [if_neg h5]
            by_cases h6 : n - a < 6 + N
            · rw [if_pos h6]
              go_enter Try.func33, Try.ntmps33
              go_wp2_with fail
              refine HF.out.mono ?_
              rintro e w' ⟨rfl, rfl⟩
              go_wp2
              go_ret3
              exact ⟨rfl, rfl⟩
            · rw [if_neg h6]
              go_enter Try.func33, Try.ntmps33
              go_wp2_with fail
              refine HF.out.mono ?_
              rintro e w' ⟨rfl, rfl⟩
              go_wp2
              go_ret3
              exact ⟨rfl, rfl⟩
end Go.Proofs.Ytbkbmmpcjpkkaaa
