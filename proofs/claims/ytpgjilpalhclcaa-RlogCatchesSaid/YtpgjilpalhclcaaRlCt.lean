/- Layer 12: RlogCatches' state: a log that has all, and one that catches up. -/
import Derived.Test.YtpgjilpalhclcaaRlSm
import Derived.Test.YtpgjilpalhclcaaRlHo
namespace Go.Proofs.Ytpgjilpalhclcaa
open Go.RowKit

theorem rowN_from {val : Nat → List UInt8} {a n q m : Nat} (h1 : 1 ≤ q) (h2 : q ≤ n + 1) : (Rl.mk a (rowN val n)).run q m = ((rowN val n).drop (q - 1)).take (min m (n + 1 - q)) := by
  obtain ⟨i, rfl⟩ : ∃ i, q = i + 1 := ⟨q - 1, by omega⟩
  unfold Rl.run
  show runL (i + 1) m ((rowN val n).drop (findE (i + 1) (rowN val n))) = _
  rw [rowN_find (show i ≤ n by omega), Nat.add_sub_cancel, show n + 1 - (i + 1) = n - i by omega]
  have hl : ((rowN val n).drop i).length = n - i := by rw [List.length_drop, rowN_len]
  refine runL_take m (i + 1) _ _ (Nat.min_le_left _ _) (by rw [hl]; exact Nat.min_le_right _ _) (fun j hj _ => ?_) ?_
  · rw [List.getElem_drop, rowN_get]
    show i + j + 1 = i + 1 + j
    omega
  · by_cases h : m ≤ n - i
    · exact .inl (Nat.min_eq_left h)
    · exact .inr (.inl (by rw [hl]; omega))
theorem learn_has {p : Rl} (hok : p.Ok) (s x : Nat) (v : List UInt8) (h : p.has x = true) : (p.learn s v).2.has x = true := by
  rcases learn_or p s v with e | ⟨_, _, _, hn, _, _, e⟩
  · rw [e]; exact h
  · rw [e]; exact (has_ins hok hn).2 (.inl h)
theorem Fits.gets {val : Nat → List UInt8} {n s : Nat} {p : Rl} (h : Fits val n p) (h0 : p.ap = 0) (hs : s < n) (hn : n ≤ 60) (hv : (val s).length ≤ 100) : (p.learn (s + 1) (val s)).2.has (s + 1) = true := by
  have hl := h.len
  by_cases hh : p.has (s + 1) = true
  · exact learn_has h.ok _ _ _ hh
  · have hf : p.has (s + 1) = false := by simpa using hh
    rw [learn_new (by omega) (by omega) hv hf (by omega) (by omega)]
    exact (has_ins h.ok hf).2 (.inr rfl)
/-- The first that lacks. -/
theorem Fits.next {val : Nat → List UInt8} {n : Nat} {p : Rl} (h : Fits val n p) (h0 : p.ap = 0) (hn : n ≤ 60) : 1 ≤ p.next ∧ p.next ≤ n + 1 ∧ (∀ x, 1 ≤ x → x < p.next → p.has x = true) ∧ p.has p.next = false := by
  have hl := h.len
  have key : ∀ j, (∀ x, 1 ≤ x → x ≤ j → p.has x = true) ∨ ∃ m, 1 ≤ m ∧ m ≤ j ∧ (∀ x, 1 ≤ x → x < m → p.has x = true) ∧ p.has m = false := by
    intro j
    induction j with
    | zero => exact .inl fun x h1 h2 => by omega
    | succ j ih =>
      rcases ih with ih | ⟨m, a, b, c⟩
      · by_cases hh : p.has (j + 1) = true
        · refine .inl fun x h1 h2 => ?_
          by_cases e : x = j + 1
          · rw [e]; exact hh
          · exact ih x h1 (by omega)
        · exact .inr ⟨j + 1, by omega, Nat.le_refl _, fun x h1 h2 => ih x h1 (by omega), by simpa using hh⟩
      · exact .inr ⟨m, a, by omega, c⟩
  rcases key (n + 1) with hk | ⟨m, a, b, c, d⟩
  · have := (h.at_ (hk (n + 1) (by omega) (Nat.le_refl _))).2
    omega
  · rw [next_eq h.ok (by omega) (by omega) (fun x h1 h2 => c x (by omega) h2) d]
    exact ⟨a, b, c, d⟩
/-- Ahead of a round: the second has each slot up to k. -/
def CaL (W : World) (val : Nat → List UInt8) (n g1 g2 k : Nat) (w : World) : Prop := ∃ p2, Tw12 W w g1 g2 ⟨0, rowN val n⟩ p2 ∧ Fits val n p2 ∧ p2.ap = 0 ∧ ∀ x, 1 ≤ x → x ≤ k → x ≤ n → p2.has x = true
/-- In a round: the row that was caught, of which j are learned. -/
def CaM (W : World) (val : Nat → List UInt8) (n g1 g2 q : Nat) (A : Option Addr) (L j : Nat) (w : World) : Prop := ∃ F1 F2 p2, OL W w F1 g1 ⟨0, rowN val n⟩ ∧ OL W w F2 g2 p2 ∧ (∀ k, F1 k → ¬ F2 k) ∧ Fits val n p2 ∧ p2.ap = 0 ∧ (∀ x, 1 ≤ x → x < q + j → p2.has x = true) ∧
  ∀ i, i < L → (1 ≤ q ∧ q + i ≤ n) ∧ ∃ R s, A = some ⟨R, 0, none⟩ ∧ CellA w F2 ⟨R, i * 2, none⟩ (.int .u64 ((q + i : Nat) : Int)) ∧ CellA w F2 ⟨R, i * 2 + 1, none⟩ (s3W s) ∧ RdA w F2 s (val (q + i - 1))
section
variable {W w w' : World} {val : Nat → List UInt8} {n g1 g2 k : Nat}
theorem CaL.bel (h : CaL W val n g1 g2 k w) : Below W.heap.size W w := by
  obtain ⟨p2, ht, _⟩ := h
  exact ht.bel
theorem CaL.learnB (h : CaL W val n g1 g2 0 w) {s : Nat} (hs : s < n) (hn : n ≤ 60) {A : Option Addr} {m : Nat} (c : Nat) (hr : Rd w w.heap.size A m (val s)) (hm : m ≤ 100) :
    Calls Try.prog 24 #[.pointer (some ⟨g2, 0, none⟩), .int .u64 ((s + 1 : Nat) : Int), .slice A m c] w fun e w' => e = .returned (.int .i64 0) ∧ Hid (CaL W val n g1 g2 0 w') := by
  obtain ⟨p2, ht, h2, h3, _⟩ := h
  have hl : (val s).length ≤ 100 := by rw [hr.1]; exact hm
  refine (ht.swap.learn (s + 1) (by omega) c hr (by omega)).mono ?_
  rintro e w' ⟨rfl, HX⟩
  obtain ⟨e1, f1⟩ := h2.learn HX.out.ok1 hs hn hl
  exact ⟨by rw [e1], Lib.hid ⟨_, HX.out.swap, f1, by rw [learn_ap]; exact h3, fun x _ _ _ => by omega⟩⟩
theorem CaL.catch_ (h : CaL W val n g1 g2 k w) (hn : n ≤ 60) (m : Nat) (hm : m ≤ 100) : Calls Try.prog 15 #[.pointer (some ⟨g2, 0, none⟩)] w fun e w1 => ∃ q : Nat, e = .returned (.int .u64 (q : Int)) ∧ (k < q ∨ n < q) ∧
    Hid (Calls Try.prog 20 #[.pointer (some ⟨g1, 0, none⟩), .int .u64 (q : Int), .int .i64 (m : Int)] w1 fun e w2 => ∃ A c L, e = .returned (.slice A L c) ∧ L ≤ m ∧ (q ≤ n → 0 < m → 0 < L) ∧ Hid (CaM W val n g1 g2 q A L 0 w2)) := by
  obtain ⟨p2, ht, h2, h3, h4⟩ := h
  obtain ⟨F1, F2, o1, o2, hd⟩ := ht
  obtain ⟨n1, n2, n3, n4⟩ := h2.next h3 hn
  refine o2.next.mono ?_
  rintro e w1 ⟨rfl, HB⟩
  generalize p2.next = q at *
  refine ⟨q, rfl, ?_, Lib.hid ?_⟩
  · by_cases hq : q ≤ k ∧ q ≤ n
    · rw [h4 q n1 hq.1 hq.2] at n4; cases n4
    · omega
  have o1' := o1.below HB.out
  have o2' := o2.below HB.out
  have hc := o1'.catch_ q (q : Int) rfl (by omega) (m : Int) (by omega)
  rw [rowN_from n1 n2, show (m : Int).toNat = m by omega] at hc
  have hl : (((rowN val n).drop (q - 1)).take (min m (n + 1 - q))).length = min m (n + 1 - q) := by
    rw [List.length_take, List.length_drop, rowN_len]; omega
  rw [hl] at hc
  refine hc.mono ?_
  rintro e w2 ⟨A, c, rfl, HX⟩
  obtain ⟨es, hcat, hv, hb2⟩ := HX.out
  refine ⟨A, c, min m (n + 1 - q), rfl, Nat.min_le_left _ _, fun a b => by omega, Lib.hid ⟨F1, F2, p2, o1'.below hb2, o2'.below hb2, hd, h2, h3, fun x a b => n3 x a (by omega), fun i hi => ?_⟩⟩
  refine ⟨⟨n1, by omega⟩, ?_⟩
  obtain ⟨R, c', ev, hi', q0, q1, hr⟩ := hcat.cell i hi
  injection ev with ev _ _
  have e3 : es[i].1 = ⟨q + i, val (q + i - 1)⟩ := by
    have h4 : (es.map (·.1))[i]? = some ⟨q - 1 + i + 1, val (q - 1 + i)⟩ := by
      rw [hv, List.getElem?_take, if_pos hi, List.getElem?_drop, List.getElem?_eq_getElem (by rw [rowN_len]; omega), rowN_get]
    rw [List.getElem?_map, List.getElem?_eq_getElem hi', show q - 1 + i + 1 = q + i by omega, show q - 1 + i = q + i - 1 by omega] at h4
    simpa using h4
  have hlow : ∀ k, F2 k → k < w1.heap.size := o2'.lt
  have hRge : ¬ F2 R := fun hf => by
    have h5 := hcat.own.lt R (by rw [ev]; rfl)
    have := hlow R hf
    omega
  have hrow := hcat.fam.each i (s3W es[i].2) (by rw [List.getElem?_map, List.getElem?_eq_getElem hi']; rfl)
  rw [e3] at q0
  have e4 : (es.map fun e => e.1.val).getD i [] = val (q + i - 1) := by
    have : (es.map fun e => e.1.val).getD i [] = es[i].1.val := by simp [List.getD, show i < es.length by omega]
    rw [this, e3]
  rw [e4] at hrow
  exact ⟨R, es[i].2, ev, ⟨q0, hRge⟩, ⟨q1, hRge⟩, RdA.of_own hrow hlow⟩
theorem CaM.learn {q j L : Nat} {A : Option Addr} (h : CaM W val n g1 g2 q A L j w) (hn : n ≤ 60) (hj : j < L) (hv : ∀ i, i < n → (val i).length ≤ 100) : ∃ R s, A = some ⟨R, 0, none⟩ ∧ w.cell? ⟨R, j * 2, none⟩ = some (.int .u64 ((q + j : Nat) : Int)) ∧ w.cell? ⟨R, j * 2 + 1, none⟩ = some (s3W s) ∧
    Hid (∀ w0, Below w.heap.size w w0 → w0.cell? ⟨R, j * 2, none⟩ = some (.int .u64 ((q + j : Nat) : Int)) ∧ w0.cell? ⟨R, j * 2 + 1, none⟩ = some (s3W s) ∧ Calls Try.prog 24 #[.pointer (some ⟨g2, 0, none⟩), .int .u64 ((q + j : Nat) : Int), .slice s.1 s.2.1 s.2.2] w0 fun e w' => e = .returned (.int .i64 0) ∧ Hid (CaM W val n g1 g2 q A L (j + 1) w')) := by
  obtain ⟨F1, F2, p2, o1, o2, hd, h2, h3, h4, h5⟩ := h
  obtain ⟨⟨a1, a2⟩, R, s, ev, c0, c1, hr⟩ := h5 j hj
  refine ⟨R, s, ev, c0.1, c1.1, Lib.hid fun w0 hb => ⟨(c0.mv (Mv.belowL hb)).1, (c1.mv (Mv.belowL hb)).1, ?_⟩⟩
  obtain ⟨S, hS⟩ : ∃ S, q + j = S + 1 := ⟨q + j - 1, by omega⟩
  have hr0 := hr.mv (Mv.belowL hb)
  rw [show q + j - 1 = S by omega] at hr0
  have hl : (val S).length ≤ 100 := hv S (by omega)
  have hn0 := hr0.rd.1
  rw [hS]
  refine ((o2.below hb).learn (S + 1) ((S + 1 : Nat) : Int) rfl (by omega) s.2.2 hr0.rd (by omega)).mono ?_
  rintro e w' ⟨rfl, HX⟩
  obtain ⟨F', ho, hm⟩ := HX.out
  obtain ⟨e1, f1⟩ := h2.learn ho.ok (by omega) hn hl
  refine ⟨by rw [e1], Lib.hid ⟨F1, F', _, (o1.below hb).kp hm.kp (fun k a b => hd k a b) o2.2.1, ho, fun k a b => hm.apart (o1.below hb).lt (fun k a b => hd k b a) k b a, f1, by rw [learn_ap]; exact h3, fun x b1 b2 => ?_, fun i hi => ?_⟩⟩
  · by_cases e : x = S + 1
    · rw [e]; exact h2.gets h3 (by omega) hn hl
    · exact learn_has h2.ok _ _ _ (h4 x b1 (by omega))
  · obtain ⟨b0, R', s', ev', d0, d1, hr'⟩ := h5 i hi
    exact ⟨b0, R', s', ev', (d0.mv (Mv.belowL hb)).mv hm, (d1.mv (Mv.belowL hb)).mv hm, (hr'.mv (Mv.belowL hb)).mv hm⟩
/-- A round's end. -/
theorem CaM.done {q L : Nat} {A : Option Addr} (h : CaM W val n g1 g2 q A L L w) (hq : k < q ∨ n < q) (hL : q ≤ n → 0 < L) : CaL W val n g1 g2 (k + 1) w := by
  obtain ⟨F1, F2, p2, o1, o2, hd, h2, h3, h4, h5⟩ := h
  exact ⟨p2, ⟨F1, F2, o1, o2, hd⟩, h2, h3, fun x b1 b2 b3 => h4 x b1 (by
    by_cases hqn : q ≤ n
    · have := hL hqn; omega
    · omega)⟩
theorem CaL.less (h : CaL W val n g1 g2 (k + 1) w) : CaL W val n g1 g2 k w := by
  obtain ⟨p2, ht, h2, h3, h4⟩ := h
  exact ⟨p2, ht, h2, h3, fun x a b c => h4 x a (by omega) c⟩
/-- The end: all is told. -/
theorem CaL.done (h : CaL W val n g1 g2 n w) (hn : n ≤ 60) : Calls Try.prog 28 #[.pointer (some ⟨g2, 0, none⟩)] w fun e w4 => ∃ A c, e = .returned (.slice A n c) ∧
    Hid (Calls Try.prog 15 #[.pointer (some ⟨g2, 0, none⟩)] w4 fun e w5 => e = .returned (.int .u64 ((n + 1 : Nat) : Int)) ∧
      Hid (Calls Try.prog 22 #[.pointer (some ⟨g2, 0, none⟩), .int .i64 9] w5 fun e w6 => ∃ A' c', e = .returned (.slice A' 0 c') ∧ Hid (Below W.heap.size W w6) ∧ Hid (EnT val n 0 A n w6))) := by
  obtain ⟨p2, ht, h2, h3, h4⟩ := h
  obtain ⟨F1, F2, o1, o2, hd⟩ := ht
  have hl := h2.len
  have hn1 : p2.has (n + 1) = false := by
    cases hh : p2.has (n + 1) with
    | false => rfl
    | true => have := (h2.at_ hh).2; omega
  refine (rest_any o2).mono ?_
  rintro e w4 ⟨A, c, i, rfl, hi, HR, HS⟩
  obtain ⟨es, hS⟩ := HS.out
  have hin := rest_end (p := p2) (t := n) HR.out.1 HR.out.2 hi (by omega) (by omega) (fun x a b => h4 x (by omega) b b) hn1
  have hE := ent_of h2 HR.out.1 hS.cat hS.vals
  rw [h3, Nat.zero_add] at hin
  subst hin
  rw [h3] at hE
  refine ⟨A, c, rfl, Lib.hid ?_⟩
  have o4 := hS.ol
  rw [h3, Nat.zero_add] at o4
  have hh : ∀ x, (Rl.mk i p2.row).has x = p2.has x := fun x => rfl
  have hnx : (Rl.mk i p2.row).next = i + 1 := next_eq o4.ok (by show p2.row.length < 4096; omega) (by show i < i + 1; omega) (fun x a b => by have a : i < x := a; omega) (by rw [hh]; exact hn1)
  have hn4 := o4.next
  rw [hnx] at hn4
  refine hn4.mono ?_
  rintro e w5 ⟨rfl, HB5⟩
  refine ⟨rfl, Lib.hid ?_⟩
  have o5 := o4.below HB5.out
  have hho := o5.holes 9 (by decide)
  have htp : (Rl.mk i p2.row).top = i := top_eq o4.ok (Nat.le_refl _) (.inl rfl) (fun x hx => by rw [hh] at hx; exact (h2.at_ hx).2)
  have hz : ((Rl.mk i p2.row).hol (9 : Int).toNat (Rl.mk i p2.row).top).length = 0 := by
    rw [htp]
    unfold Rl.hol
    show (List.take _ (List.filter _ (List.range' (i + 1) (i - (i + 1))))).length = 0
    rw [show i - (i + 1) = 0 by omega]
    simp
  rw [hz] at hho
  refine hho.mono ?_
  rintro e w6 ⟨A', c', rfl, HX⟩
  exact ⟨A', c', rfl, Lib.hid (o5.below HX.out.2).2.2, Lib.hid ((hE.up HB5.out).up HX.out.2)⟩
end
end Go.Proofs.Ytpgjilpalhclcaa
