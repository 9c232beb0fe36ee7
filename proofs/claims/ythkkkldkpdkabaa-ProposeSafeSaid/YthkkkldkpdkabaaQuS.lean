/- Layer 8: Right; rows, columns and sites. -/
import Derived.Test.YthkkkldkpdkabaaQuR
namespace Go.Proofs.Ythkkkldkpdkabaa
open Go.RowKit Go.Lib Go.Shelf

theorem Qm.eta (q : Qm) : (⟨q.kind, q.nodes, q.one, q.two, q.sites⟩ : Qm) = q := rfl
set_option maxRecDepth 100000 in
set_option maxHeartbeats 1000000 in
theorem right_any (q : Qm) (A : Option Addr) (n c : Nat) (w : World) (hq : Qi w q A n c) :
    Calls Try.prog 31 #[qV q (.slice A n c)] w fun e w' => e = .returned (.int .i64 q.right) ∧ Below w.heap.size w w' := by
  obtain ⟨kd, nd, on, tw, l⟩ := q
  obtain ⟨_, _, _, _, hcap, hrd⟩ := hq
  dsimp only at hcap hrd
  unfold qV Qm.right
  dsimp only
  obtain ⟨w1, HW1, HB1, HK1⟩ := boxed kd nd on tw A n c w
  have HC := Lib.hid (fun (h : nd ≤ 12) => rightC_any kd nd on tw A n c w1 h)
  have HR := Lib.hid (fun (h : nd ≤ 12) => rightR_any kd nd on tw A n c w1 h)
  have HS := Lib.hid (fun (h0 : 1 ≤ nd) (h : nd ≤ 12) => rightS_any kd nd on tw A n c w1 l h0 h hcap.1 hcap.2 (hrd.up HB1.out))
  have eC : (⟨kd, nd, on, tw, l⟩ : Qm).rightC = Qm.rightC ⟨kd, nd, on, tw, []⟩ := rfl
  have eR : (⟨kd, nd, on, tw, l⟩ : Qm).rightR = Qm.rightR ⟨kd, nd, on, tw, []⟩ := rfl
  rw [eC, eR]
  clear eC eR
  obtain ⟨k0, k1, k2, k3, k4⟩ := HK1.out.cells
  rw [HW1.out] at k0 k1 k2 k3 k4
  clear hcap hrd
  by_cases h0 : nd < 1
  · rw [if_pos (.inl h0)]
    go_enter Try.func31, Try.ntmps31
    go_wp2
    go_ret
    rw [← HW1.out]
    exact ⟨rfl, HB1.out⟩
  by_cases h1 : 12 < nd
  · rw [if_pos (.inr h1)]
    go_enter Try.func31, Try.ntmps31
    go_wp2
    go_ret
    rw [← HW1.out]
    exact ⟨rfl, HB1.out⟩
  rw [if_neg (by omega)]
  by_cases hk1 : kd = 1
  · rw [if_pos hk1]
    have H := Lib.hid (HC.out (by omega))
    clear HC HR HS
    generalize Qm.rightC ⟨kd, nd, on, tw, []⟩ = r at H ⊢
    go_enter Try.func31, Try.ntmps31
    go_wp2_with fail
    rw [← hk1, ← HW1.out]
    refine (H.out).mono ?_
    rintro e w2 ⟨rfl, hb2⟩
    have HB2 := Lib.hid (below_then HB1.out hb2)
    clear hb2 k0 k1 k2 k3 k4
    go_wp2
    go_ret
    exact ⟨rfl, HB2.out⟩
  rw [if_neg hk1]
  by_cases hk2 : kd = 2
  · rw [if_pos hk2]
    have H := Lib.hid (HR.out (by omega))
    clear HC HR HS
    generalize Qm.rightR ⟨kd, nd, on, tw, []⟩ = r at H ⊢
    go_enter Try.func31, Try.ntmps31
    go_wp2_with fail
    rw [← hk2, ← HW1.out]
    refine (H.out).mono ?_
    rintro e w2 ⟨rfl, hb2⟩
    have HB2 := Lib.hid (below_then HB1.out hb2)
    clear hb2 k0 k1 k2 k3 k4
    go_wp2
    go_ret
    exact ⟨rfl, HB2.out⟩
  rw [if_neg hk2]
  by_cases hk3 : kd = 3
  · rw [if_pos hk3]
    have H := Lib.hid (HS.out (by omega) (by omega))
    clear HC HR HS
    generalize Qm.rightS ⟨kd, nd, on, tw, l⟩ = r at H ⊢
    go_enter Try.func31, Try.ntmps31
    go_wp2_with fail
    rw [← hk3, ← HW1.out]
    refine (H.out).mono ?_
    rintro e w2 ⟨rfl, hb2⟩
    have HB2 := Lib.hid (below_then HB1.out hb2)
    clear hb2 k0 k1 k2 k3 k4
    go_wp2
    go_ret
    exact ⟨rfl, HB2.out⟩
  rw [if_neg hk3]
  clear HC HR HS
  go_enter Try.func31, Try.ntmps31
  go_wp2
  go_ret
  rw [← HW1.out]
  exact ⟨rfl, HB1.out⟩

set_option maxRecDepth 100000 in
set_option maxHeartbeats 1000000 in
theorem partOf_any (q : Qm) (second : Bool) (i : Nat) (A : Option Addr) (n c : Nat) (w : World) (hq : Qi w q A n c) (hr : q.right = 0) (hk : q.kind ≠ 1) (hi : i < q.n) :
    Calls Try.prog 76 #[qV q (.slice A n c), .bool second, .int .i64 (i : Int)] w fun e w' => e = .returned (.int .i64 (q.part second i : Int)) ∧ Below w.heap.size w w' := by
  have hlt := q.part_lt hr second i hi hk
  obtain ⟨hn1, hn2, hcs⟩ := q.right_cases hr
  clear hr
  obtain ⟨kd, nd, on, tw, l⟩ := q
  obtain ⟨_, _, _, _, hcap, hrd⟩ := hq
  dsimp only at hcap hrd hk hn1 hn2 hcs
  unfold qV
  unfold Qm.part at *
  unfold Qm.n at hi
  dsimp only at *
  obtain ⟨w1, HW1, HB1, HK1⟩ := boxed kd nd on tw A n c w
  have hr1 := hrd.up HB1.out
  obtain ⟨k0, k1, k2, k3, k4⟩ := HK1.out.cells
  rw [HW1.out] at k0 k1 k2 k3 k4
  by_cases hk3 : kd = 3
  · rw [if_pos hk3]
    obtain ⟨hln, hall⟩ : (l.length : Int) = nd ∧ ∀ x ∈ l, 0 ≤ x ∧ x < 12 := by
      rcases hcs with ⟨h, _⟩ | ⟨h, _⟩ | ⟨_, h⟩
      · omega
      · omega
      · exact h
    have hil : i < l.length := by omega
    obtain ⟨b, o, rfl, hb, hc⟩ := hr1.2.2 (by have := hr1.1; omega)
    have hcell := hc i hil
    rw [HW1.out] at hcell
    have hx := hall l[i] (List.getElem_mem hil)
    have hg : ((l.getD i 0).toNat : Int) = l[i] := by
      simp only [List.getD, List.getElem?_eq_getElem hil, Option.getD_some]
      omega
    rw [hg]
    generalize l[i] = x at hcell ⊢
    have hin : (i : Int) < (n : Int) := by have := hr1.1; omega
    clear hc hr1 hrd hcap hall hg hlt hcs hln hx
    subst hk3
    go_enter Try.func76, Try.ntmps76
    go_wp2
    go_ret
    rw [← HW1.out]
    exact ⟨rfl, HB1.out⟩
  · rw [if_neg hk3]
    have hk2 : kd = 2 := by
      rcases hcs with ⟨h, _⟩ | ⟨h, _⟩ | ⟨h, _⟩
      · exact absurd h hk
      · exact h
      · exact absurd h hk3
    have htw : 1 ≤ tw ∧ tw ≤ 12 := by
      rcases hcs with ⟨h, _⟩ | ⟨_, h1, h2, h3, h4, _⟩ | ⟨h, _⟩ <;> omega
    obtain ⟨t, rfl⟩ := Int.eq_ofNat_of_zero_le (show 0 ≤ tw by omega)
    rw [if_neg hk3] at hlt
    have ht0 : 0 < t := by omega
    have i12 : i < 12 := by omega
    clear hr1 hrd hcap hcs hk hi hk2
    cases second with
    | true =>
      have e : ((i : Int).tmod (t : Int)) = ((i % t : Nat) : Int) := (Int.ofNat_tmod i t).symm
      simp only [↓reduceIte, Int.toNat_natCast] at *
      go_enter Try.func76, Try.ntmps76
      go_wp2
      go_ret
      rw [← HW1.out]
      exact ⟨ret_i64 (by first | omega | simp), HB1.out⟩
    | false =>
      have hd : i / t < 12 := by have := Nat.div_le_self i t; generalize i / t = z at *; omega
      have e : wrap64 ((i : Int) / (t : Int)) = ((i / t : Nat) : Int) := by
        rw [show ((i : Int) / (t : Int)) = ((i / t : Nat) : Int) by simp]
        generalize i / t = z at hd ⊢
        unfold wrap64
        omega
      have E := Lib.hid e
      clear e hd
      simp only [Bool.false_eq_true, ↓reduceIte, Int.toNat_natCast] at *
      go_enter Try.func76, Try.ntmps76
      go_wp2
      go_ret
      rw [← HW1.out]
      exact ⟨ret_i64 E.out, HB1.out⟩
end Go.Proofs.Ythkkkldkpdkabaa
