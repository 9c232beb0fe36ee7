/- Layer 14: an order's own facts (BeatOrder). -/
import Derived.Test.YtmdjdnibblebcaaDoorBtU
namespace Go.Proofs.YtmdjdnibblebcaaDoor
open Go.RowKit
namespace Vw
/-- Behind one that is away all are away. -/
theorem order_away {v : Vw} (home : Int) (i j : Nat) (hij : i < j) (hj : j < (v.order home).length) (h : (v.site ((v.order home)[i]'(by omega)) : Int) ≠ home) : (v.site (v.order home)[j] : Int) ≠ home := by
  have hp := (List.pairwise_iff_getElem.1 (ordL_sorted (site := v.site) (home := home) (lst_sorted v.up))) i j (by show i < (v.order home).length; omega) hj hij
  have h1 := hp.1
  unfold ordLe at h1
  dsimp only at h1
  intro e
  have e1 : ((v.site (ordL v.site home (lstU v.up))[j] : Nat) : Int) = home := e
  have e2 : ¬ ((v.site ((ordL v.site home (lstU v.up))[i]'(by have : (v.order home).length = (ordL v.site home (lstU v.up)).length := rfl; omega)) : Nat) : Int) = home := h
  rw [if_pos e1, if_neg e2] at h1
  omega
end Vw
/-- The site of a node of the law's own view. -/
theorem view_site (l : List Int) (me pt : Int) (k : Nat) (hk : k < (siteL l).length) : (((viewV l me pt).site k : Nat) : Int) = if l = [] then (if k = 0 then 0 else 1) else l.getD k 0 % 18446744073709551616 % 12 := by
  show (((siteL l).getD k 0).toNat : Int) = _
  have h1 : (siteL l).getD k 0 = (siteL l)[k] := by simp [List.getD, hk]
  have h2 := siteL_in l (siteL l)[k] (List.getElem_mem hk)
  rw [h1, Int.toNat_of_nonneg h2.1]
  by_cases hl : l = []
  · rw [if_pos hl]
    subst hl
    have hk3 : k < 3 := hk
    have : k = 0 ∨ k = 1 ∨ k = 2 := by omega
    rcases this with rfl | rfl | rfl <;> rfl
  · rw [if_neg hl]
    have hs : siteL l = (l.take 12).map fun x => x % 18446744073709551616 % 12 := by unfold siteL; rw [if_neg hl]
    have hk2 : k < (l.take 12).length := by rw [hs, List.length_map] at hk; exact hk
    have hk3 : k < l.length := by rw [List.length_take] at hk2; omega
    simp only [hs, List.getElem_map, List.getElem_take]
    simp [List.getD, hk3]
theorem headD_at : ∀ (l : List Nat) (h : 0 < l.length), l.headD 0 = l[0]
  | _ :: _, _ => rfl
theorem set_or (s x : Nat) (h : s < 4096) (hx : x < 12) : s ||| 2 ^ x < 4096 := Nat.or_lt_two_pow (n := 12) h (Nat.pow_lt_pow_right (by omega) hx)
theorem set_bit (s x k : Nat) : (s ||| 2 ^ x).testBit k = (s.testBit k || decide (x = k)) := by rw [Nat.testBit_or, Nat.testBit_two_pow]
end Go.Proofs.YtmdjdnibblebcaaDoor
