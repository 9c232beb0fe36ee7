/- Layer 8: is it a quorum? -/
import Derived.Test.YthkkkldkpdkabaaQuT
namespace Go.Proofs.Ythkkkldkpdkabaa
open Go.RowKit Go.Lib Go.Shelf

theorem any_upto {p : Nat → Bool} {l : List Nat} (h : ∀ j (hj : j < l.length), p l[j] = false) : l.any p = false := by
  rw [Bool.eq_false_iff]
  intro e
  obtain ⟨x, hx, hp⟩ := List.any_eq_true.1 e
  obtain ⟨j, hj, rfl⟩ := List.getElem_of_mem hx
  rw [h j hj] at hp
  cases hp
theorem all_upto {p : Nat → Bool} {l : List Nat} (h : ∀ j (hj : j < l.length), p l[j] = true) : l.all p = true := by
  rw [List.all_eq_true]
  intro x hx
  obtain ⟨j, hj, rfl⟩ := List.getElem_of_mem hx
  exact h j hj
section
variable (s n c : Nat) (A : Option Addr) (l : List Nat) (w : World)
set_option maxRecDepth 100000 in
set_option maxHeartbeats 1000000 in
theorem hasWhole_any (hs : s < 4294967296) (hn : n ≤ 4096) (hl : ∀ x ∈ l, x < 4294967296) (hr : RdU w w.heap.size A n l) :
    Calls Try.prog 74 #[.int .u32 (s : Int), .slice A n c] w fun e w' => e = .returned (.bool (wholeL s l)) ∧ w = w' := by
  have hln := hr.1
  have HR := Lib.hid hr
  have HL := Lib.hid hl
  have Hln := Lib.hid hln
  clear hr hl hln
  go_enter Try.func74, Try.ntmps74
  go_wp2
  go_loopg [9] n (fun g i wr => ∃ k : Nat, i = .int .i64 (k : Int) ∧ k + g = n ∧ w = wr ∧ Hid (∀ j (hj : j < l.length), j < k → decide (s &&& l[j] = l[j]) = false))
  case atStart => exact ⟨0, rfl, by omega, rfl, Lib.hid fun j _ h => absurd h (by omega)⟩
  case round =>
    obtain ⟨k, rfl, hkg, rfl, HH⟩ := hrel
    by_cases hkn : k < n
    · have hkl : k < l.length := by rw [Hln.out]; exact hkn
      obtain ⟨b, o, hA, hb, hc⟩ := HR.out.2 (by omega)
      subst hA
      have hcell := hc k hkl
      have hx := HL.out l[k] (List.getElem_mem hkl)
      have hand := u32_and_nat s l[k] hs hx
      obtain ⟨x, hx2⟩ : ∃ x, x = l[k] := ⟨_, rfl⟩
      rw [← hx2] at hcell hand hx
      have HX := Lib.hid hx2
      have hkn' : (k : Int) < (n : Int) := by omega
      clear hc hx2
      by_cases hd : s &&& x = x
      · have hd' : ((s &&& x : Nat) : Int) = (x : Int) := by rw [hd]
        rw [hd] at hand
        go_wp2
        go_ret
        refine ⟨ret_bool ?_, rfl⟩
        symm
        unfold wholeL
        rw [List.any_eq_true]
        exact ⟨l[k], List.getElem_mem hkl, by rw [← HX.out]; exact decide_eq_true hd⟩
      · obtain ⟨y, hy⟩ : ∃ y, y = s &&& x := ⟨_, rfl⟩
        rw [← hy] at hd hand
        have hd' : ¬ (y : Int) = (x : Int) := by omega
        have HY := Lib.hid hy
        clear hy
        go_wp2
        go_roundg (gk - 1)
        case rel => exact ⟨k + 1, by go_num, by omega, rfl, Lib.hid fun j hj hjk => by
          by_cases e : j = k
          · subst e; rw [← HX.out, ← HY.out]; exact decide_eq_false hd
          · exact HH.out j hj (by omega)⟩
        case measure => omega
    · obtain rfl : k = n := by omega
      go_wp2
      go_ret
      exact ⟨ret_bool (any_upto fun j hj => HH.out j hj (by rw [← Hln.out]; exact hj)).symm, rfl⟩
set_option maxRecDepth 100000 in
set_option maxHeartbeats 1000000 in
theorem meetsEach_any (hs : s < 4294967296) (hn : n ≤ 4096) (hl : ∀ x ∈ l, x < 4294967296) (hr : RdU w w.heap.size A n l) :
    Calls Try.prog 72 #[.int .u32 (s : Int), .slice A n c] w fun e w' => e = .returned (.bool (meetsL s l)) ∧ w = w' := by
  have hln := hr.1
  have HR := Lib.hid hr
  have HL := Lib.hid hl
  have Hln := Lib.hid hln
  clear hr hl hln
  go_enter Try.func72, Try.ntmps72
  go_wp2
  go_loopg [9] n (fun g i wr => ∃ k : Nat, i = .int .i64 (k : Int) ∧ k + g = n ∧ w = wr ∧ Hid (∀ j (hj : j < l.length), j < k → (!(decide (s &&& l[j] = 0))) = true))
  case atStart => exact ⟨0, rfl, by omega, rfl, Lib.hid fun j _ h => absurd h (by omega)⟩
  case round =>
    obtain ⟨k, rfl, hkg, rfl, HH⟩ := hrel
    by_cases hkn : k < n
    · have hkl : k < l.length := by rw [Hln.out]; exact hkn
      obtain ⟨b, o, hA, hb, hc⟩ := HR.out.2 (by omega)
      subst hA
      have hcell := hc k hkl
      have hx := HL.out l[k] (List.getElem_mem hkl)
      have hand := u32_and_nat s l[k] hs hx
      obtain ⟨x, hx2⟩ : ∃ x, x = l[k] := ⟨_, rfl⟩
      rw [← hx2] at hcell hand hx
      have HX := Lib.hid hx2
      have hkn' : (k : Int) < (n : Int) := by omega
      clear hc hx2
      by_cases hd : s &&& x = 0
      · rw [hd] at hand
        have hand : bits .and .u32 (s : Int) (x : Int) = 0 := hand
        go_wp2
        go_ret
        refine ⟨ret_bool ?_, rfl⟩
        symm
        unfold meetsL
        rw [Bool.eq_false_iff]
        intro e
        have := (List.all_eq_true.1 e) l[k] (List.getElem_mem hkl)
        rw [← HX.out, hd] at this
        simp at this
      · obtain ⟨y, hy⟩ : ∃ y, y = s &&& x := ⟨_, rfl⟩
        rw [← hy] at hd hand
        have hd' : ¬ (y : Int) = 0 := by omega
        have HY := Lib.hid hy
        clear hy
        go_wp2
        go_roundg (gk - 1)
        case rel => exact ⟨k + 1, by go_num, by omega, rfl, Lib.hid fun j hj hjk => by
          by_cases e : j = k
          · subst e; rw [← HX.out, ← HY.out, decide_eq_false hd]; rfl
          · exact HH.out j hj (by omega)⟩
        case measure => omega
    · obtain rfl : k = n := by omega
      go_wp2
      go_ret
      exact ⟨ret_bool (all_upto fun j hj => HH.out j hj (by rw [← Hln.out]; exact hj)).symm, rfl⟩
end
end Go.Proofs.Ythkkkldkpdkabaa
