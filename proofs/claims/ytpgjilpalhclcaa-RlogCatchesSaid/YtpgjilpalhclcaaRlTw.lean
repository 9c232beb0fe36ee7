/- Layer 12's laws: two logs of the call's own, both told of the same given values. -/
import Derived.Test.YtpgjilpalhclcaaRlOw
namespace Go.Proofs.Ytpgjilpalhclcaa
open Go.RowKit

/-- All that is kept is of the given values: the slot s + 1 holds the value s. -/
structure Fits (val : Nat → List UInt8) (n : Nat) (p : Rl) : Prop where
  ok : p.Ok
  ap : p.ap ≤ n
  fit : ∀ e ∈ p.row, e.slot ≤ n ∧ e.val = val (e.slot - 1)
section
variable {val : Nat → List UInt8} {n s j : Nat} {p : Rl}
theorem Fits.new : Fits val n Rl.new := ⟨Rl.Ok.new, Nat.zero_le _, by simp [Rl.new]⟩
theorem Fits.len (h : Fits val n p) : p.row.length ≤ n + 1 := rise_len h.ok.rise fun e he => by have := (h.fit e he).1; omega
theorem Fits.at_ (h : Fits val n p) (hh : p.has s = true) : p.at_ s = ⟨s, val (s - 1)⟩ ∧ s ≤ n := by
  obtain ⟨hk, e1, e2⟩ := Rl.at_eq hh
  have hf := h.fit _ (List.getElem_mem hk)
  rw [← e1, e2] at hf
  refine ⟨?_, hf.1⟩
  exact (show ∀ (x : En) (v : List UInt8), x.slot = s → x.val = v → x = ⟨s, v⟩ from by rintro ⟨_, _⟩ v rfl rfl; rfl) _ _ e2 hf.2
theorem Fits.learn (h : Fits val n p) (ho : (p.learn (s + 1) (val s)).2.Ok) (hs : s < n) (hn : n ≤ 60) (hv : (val s).length ≤ 100) :
    (p.learn (s + 1) (val s)).1 = 0 ∧ Fits val n (p.learn (s + 1) (val s)).2 := by
  have hl := h.len
  unfold Rl.learn at ho ⊢
  rw [if_neg (by omega), if_neg (by omega)] at ho ⊢
  by_cases hh : p.has (s + 1) = true
  · rw [if_pos hh] at ho ⊢
    obtain ⟨e1, _⟩ := h.at_ hh
    rw [e1, if_pos (by simp)]
    exact ⟨rfl, h⟩
  · rw [if_neg hh] at ho ⊢
    by_cases h1 : s + 1 ≤ p.ap
    · rw [if_pos h1]
      exact ⟨rfl, h⟩
    · rw [if_neg h1, if_neg (by omega)] at ho ⊢
      refine ⟨rfl, ho, h.ap, fun e he => ?_⟩
      rcases mem_insE.1 he with rfl | he
      · exact ⟨hs, by simp⟩
      · exact h.fit e he
theorem Fits.apply (h : Fits val n p) (ho : p.apply.Ok) : Fits val n p.apply := by
  unfold Rl.apply at ho ⊢
  by_cases hh : p.has (p.ap + 1) = true
  · rw [if_pos hh] at ho ⊢
    exact ⟨ho, (h.at_ hh).2, h.fit⟩
  · rw [if_neg hh]
    exact h
theorem Fits.told (h : Fits val n p) (ho : (Rl.mk (p.ap + j) p.row).Ok) (hj : ∀ k, k < j → p.has (p.ap + 1 + k) = true) : Fits val n ⟨p.ap + j, p.row⟩ := by
  refine ⟨ho, ?_, h.fit⟩
  show p.ap + j ≤ n
  by_cases h0 : j = 0
  · have := h.ap; omega
  · have := (h.at_ (hj (j - 1) (by omega))).2; omega
end
/-- Two logs, apart from each other. -/
def Tw12 (W w : World) (g1 g2 : Nat) (p1 p2 : Rl) : Prop := ∃ F1 F2, OL W w F1 g1 p1 ∧ OL W w F2 g2 p2 ∧ ∀ k, F1 k → ¬ F2 k
section
variable {W w w' : World} {g1 g2 : Nat} {p1 p2 : Rl}
theorem Tw12.swap (h : Tw12 W w g1 g2 p1 p2) : Tw12 W w g2 g1 p2 p1 := by
  obtain ⟨F1, F2, h1, h2, hd⟩ := h
  exact ⟨F2, F1, h2, h1, fun k a b => hd k b a⟩
theorem Tw12.below (h : Tw12 W w g1 g2 p1 p2) (hb : Below w.heap.size w w') : Tw12 W w' g1 g2 p1 p2 := by
  obtain ⟨F1, F2, h1, h2, hd⟩ := h
  exact ⟨F1, F2, h1.below hb, h2.below hb, hd⟩
theorem Tw12.bel (h : Tw12 W w g1 g2 p1 p2) : Below W.heap.size W w := by
  obtain ⟨F1, F2, h1, _⟩ := h
  exact h1.2.2
theorem Tw12.ok1 (h : Tw12 W w g1 g2 p1 p2) : p1.Ok := by
  obtain ⟨F1, F2, h1, _⟩ := h
  exact h1.ok
theorem ol_two {F1 : Nat → Prop} (h : OL W w F1 g1 p1) : Calls Try.prog 12 #[] w fun e w' => ∃ g2, e = .returned (.pointer (some ⟨g2, 0, none⟩)) ∧ Hid (Tw12 W w' g1 g2 p1 Rl.new) := by
  refine (ol_new w).mono ?_
  rintro e w' ⟨g2, F2, rfl, H⟩
  obtain ⟨q1, q2, q3⟩ := H.out
  refine ⟨g2, rfl, Lib.hid ⟨F1, F2, h.below q3, ⟨q1, fun k hk => Nat.le_trans h.2.2.size (q2 k hk), h.2.2.trans (q3.mono h.2.2.size)⟩, fun k a b => ?_⟩⟩
  have := h.lt k a
  have := q2 k b
  omega
/-- A step of the first one. -/
theorem Tw12.step {F1 F1' F2 : Nat → Prop} {q : Rl} (h1 : OL W w F1 g1 p1) (h2 : OL W w F2 g2 p2) (hd : ∀ k, F1 k → ¬ F2 k) (ho : OL W w' F1' g1 q) (hm : Mv F1 F1' w w') : Tw12 W w' g1 g2 q p2 :=
  ⟨F1', F2, ho, h2.kp hm.kp (fun k a b => hd k b a) h1.2.1, hm.apart h2.lt hd⟩
theorem Tw12.learn (h : Tw12 W w g1 g2 p1 p2) (s : Nat) (hs : s < 18446744073709551616) {A : Option Addr} {n : Nat} (c : Nat) {l : List UInt8} (hr : Rd w w.heap.size A n l) (hn : n ≤ 1000000) :
    Calls Try.prog 24 #[.pointer (some ⟨g1, 0, none⟩), .int .u64 (s : Int), .slice A n c] w fun e w' => e = .returned (.int .i64 (p1.learn s l).1) ∧ Hid (Tw12 W w' g1 g2 (p1.learn s l).2 p2) := by
  obtain ⟨F1, F2, h1, h2, hd⟩ := h
  refine (h1.learn s (s : Int) rfl hs c hr hn).mono ?_
  rintro e w' ⟨rfl, HX⟩
  obtain ⟨F', ho, hm⟩ := HX.out
  exact ⟨rfl, Lib.hid (Tw12.step h1 h2 hd ho hm)⟩
theorem Tw12.apply (h : Tw12 W w g1 g2 p1 p2) : Calls Try.prog 26 #[.pointer (some ⟨g1, 0, none⟩)] w fun e w' => (∃ x b, e = .returned (.tuple #[x, .bool b])) ∧ Hid (Tw12 W w' g1 g2 p1.apply p2) := by
  obtain ⟨F1, F2, h1, h2, hd⟩ := h
  refine h1.apply.mono ?_
  rintro e w' ⟨s, rfl, HX⟩
  obtain ⟨_, ho, hm⟩ := HX.out
  exact ⟨⟨_, _, rfl⟩, Lib.hid (Tw12.step h1 h2 hd ho hm)⟩
/-- The rest of the first one. -/
theorem Tw12.rest (h : Tw12 W w g1 g2 p1 p2) : Calls Try.prog 28 #[.pointer (some ⟨g1, 0, none⟩)] w fun e w' => ∃ A c i, e = .returned (.slice A i c) ∧ i ≤ 300 ∧
    Hid ((∀ j, j < i → p1.has (p1.ap + 1 + j) = true) ∧ (i < 300 → p1.has (p1.ap + 1 + i) = false)) ∧ Hid (Tw12 W w' g1 g2 ⟨p1.ap + i, p1.row⟩ p2) ∧
    Hid (∃ es, CatR w' w.heap.size (.slice A i c) i es ∧ es.map (·.1) = p1.outs i) := by
  obtain ⟨F1, F2, h1, h2, hd⟩ := h
  refine (rest_any h1).mono ?_
  rintro e w' ⟨A, c, i, rfl, hi, HR, HS⟩
  obtain ⟨es, hS⟩ := HS.out
  exact ⟨A, c, i, rfl, hi, HR, Lib.hid (Tw12.step h1 h2 hd hS.ol (Mv.of hS.kp)), Lib.hid ⟨es, hS.cat, hS.vals⟩⟩
end
end Go.Proofs.Ytpgjilpalhclcaa
