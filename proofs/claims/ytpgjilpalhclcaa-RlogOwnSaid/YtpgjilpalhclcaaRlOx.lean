/- Layer 12: what was told three times, and Own of it. -/
import Derived.Test.YtpgjilpalhclcaaRlOw
import Derived.Test.YtpgjilpalhclcaaSame
import Derived.Deep.CutRange
import Derived.Deep.CutBlock
import Derived.Deep.DeepCutAuto
namespace Go.Proofs.Ytpgjilpalhclcaa
open Go.ChangeShapes Go.WideShapes Go.ChangeAt Go.RowKit

/-- What was told, three times. -/
structure OwT (W w : World) (F : Nat → Prop) (g : Nat) (val : Nat → List UInt8) (n : Nat) (x y z : Value) (b0 b1 b2 : Nat) (ex ey ez : List Ene) : Prop where
  ol : OL W w F g ⟨n, rowN val n⟩
  low : ∀ k, F k → k < b0
  base : W.heap.size ≤ b0 ∧ b0 ≤ b1 ∧ b1 ≤ b2 ∧ b2 ≤ w.heap.size
  cx : CatR w b0 x n ex
  cy : CatR w b1 y n ey
  cz : CatR w b2 z n ez
  hx : ∀ (i : Nat) (u : Value), (ex.map fun e => s3W e.2)[i]? = some u → ∀ k, u.ownBlock = some k → k < b1
  hy : ∀ (i : Nat) (u : Value), (ey.map fun e => s3W e.2)[i]? = some u → ∀ k, u.ownBlock = some k → k < b2
  vx : ex.map (·.1) = rowN val n
  vy : ey.map (·.1) = rowN val n
  vz : ez.map (·.1) = rowN val n
theorem own_told {W w : World} {F : Nat → Prop} {g n : Nat} {val : Nat → List UInt8} (h : OL W w F g ⟨0, rowN val n⟩) (hn : n ≤ 30) :
    Calls Try.prog 20 #[.pointer (some ⟨g, 0, none⟩), .int .u64 1, .int .i64 100] w fun e w2 => ∃ A c, e = .returned (.slice A n c) ∧
      Hid (Calls Try.prog 20 #[.pointer (some ⟨g, 0, none⟩), .int .u64 1, .int .i64 100] w2 fun e w3 => ∃ A' c', e = .returned (.slice A' n c') ∧
        Hid (Calls Try.prog 28 #[.pointer (some ⟨g, 0, none⟩)] w3 fun e w4 => ∃ A'' c'', e = .returned (.slice A'' n c'') ∧ Hid (∃ b0 b1 b2 ex ey ez, OwT W w4 F g val n (.slice A n c) (.slice A' n c') (.slice A'' n c'') b0 b1 b2 ex ey ez))) := by
  have hr : (Rl.mk 0 (rowN val n)).run 1 (100 : Int).toNat = rowN val n := rowN_run (by show n ≤ 100; omega)
  have h1 := h.catch_ 1 1 rfl (by decide) 100 (by decide)
  rw [hr, rowN_len] at h1
  refine h1.mono ?_
  rintro e w2 ⟨A, c, rfl, H2⟩
  obtain ⟨ex, cx, vx, hb2⟩ := H2.out
  have o2 := h.below hb2
  have h2 := o2.catch_ 1 1 rfl (by decide) 100 (by decide)
  rw [hr, rowN_len] at h2
  refine ⟨A, c, rfl, Lib.hid (h2.mono ?_)⟩
  rintro e w3 ⟨A', c', rfl, H3⟩
  obtain ⟨ey, cy, vy, hb3⟩ := H3.out
  have o3 := o2.below hb3
  refine ⟨A', c', rfl, Lib.hid ((rest_any o3).mono ?_)⟩
  rintro e w4 ⟨A'', c'', i, rfl, hi, HR, HS⟩
  obtain ⟨ez, hS⟩ := HS.out
  have hin : 0 + i = n := rest_end (p := ⟨0, rowN val n⟩) (t := n) HR.out.1 HR.out.2 hi (Nat.zero_le _) (by show n < 0 + 300; omega) (fun x h1 h2 => by
    have h1 : 0 < x := h1
    rw [rowN_has, decide_eq_true_iff]; omega) (by rw [rowN_has, decide_eq_false_iff_not]; omega)
  rw [Nat.zero_add] at hin
  subst hin
  refine ⟨A'', c'', rfl, Lib.hid ⟨w.heap.size, w2.heap.size, w3.heap.size, ex, ey, ez, ?_, h.lt, ⟨h.2.2.size, hb2.size, hb3.size, hS.kp.size⟩, (cx.up hb3).kp hS.kp h.lt, cy.kp hS.kp fun k hk => Nat.lt_of_lt_of_le (h.lt k hk) hb2.size, hS.cat, fun j u hu k e => ((cx.fam.each j u hu).lt k e).2, fun j u hu k e => ((cy.fam.each j u hu).lt k e).2, vx, vy, ?_⟩⟩
  · have := hS.ol
    rw [show (⟨(⟨0, rowN val i⟩ : Rl).ap + i, (⟨0, rowN val i⟩ : Rl).row⟩ : Rl) = ⟨i, rowN val i⟩ by simp] at this
    exact this
  · rw [hS.vals, rowN_outs]
theorem Kp.of_belowB {B : Nat} {w w' : World} (h : Below B w w') : Kp (fun k => B ≤ k) w w' := ⟨h.os, h.tape, h.output, h.size, fun k _ hf => h.block k (by omega)⟩
/-- Ahead of each round of the second loop. -/
def OwM (w4 : World) (ex ey ez : List Ene) (i : Nat) (v : Value) (wr : World) : Prop := wr.ownsRow w4.heap.size 33 1 v (i * 3) (mix3 ex ey ez i) ∧ Below w4.heap.size w4 wr
theorem OwT.own {W w4 wr : World} {F : Nat → Prop} {g n : Nat} {val : Nat → List UInt8} {x y z : Value} {b0 b1 b2 c : Nat} {ex ey ez : List Ene} {A : Option Addr} (h : OwT W w4 F g val n x y z b0 b1 b2 ex ey ez) (hM : OwM w4 ex ey ez n (.slice A (n * 3) c) wr) (hn : n ≤ 30) (hv : ∀ j, j < n → (val j).length ≤ 100) :
    Calls Try.prog 30 #[.slice A (n * 3) c] wr fun e w5 => e = .returned (.bool true) ∧
      Hid (Calls Try.prog 20 #[.pointer (some ⟨g, 0, none⟩), .int .u64 1, .int .i64 100] w5 fun e w6 => ∃ A6 c6, e = .returned (.slice A6 n c6) ∧
        Hid (Below W.heap.size W w6) ∧ Hid (∀ j, j < n → ∃ R s, A6 = some ⟨R, 0, none⟩ ∧ w6.cell? ⟨R, j * 2 + 1, none⟩ = some (s3W s) ∧ Rd w6 w6.heap.size s.1 s.2.1 (val j))) := by
  have hf := (mix3_fam h.cx h.cy h.cz h.base.2.1 h.base.2.2.1 h.hx h.hy n (Nat.le_refl _)).1.up hM.2
  have hb0 : b0 ≤ wr.heap.size := by have := h.base; have := hM.2.size; omega
  have hlen : (mix3 ex ey ez n).length = n * 3 := mix3_len ex ey ez n
  refine (hf.own (K := n * 3) (A := A) (c := c) (by rw [hlen]; exact own_mono hM.1 (by have := h.base; omega)) hlen hb0 (by omega) (fun l hl => ?_)).mono ?_
  · unfold mix3l at hl
    obtain ⟨j, hj, hl⟩ := List.mem_flatMap.1 hl
    have hj' : j < n := List.mem_range.1 hj
    have key : ∀ es : List Ene, es.map (·.1) = rowN val n → (es.getD j (⟨0, []⟩, (none, 0, 0))).1.val.length ≤ 1099511627776 := fun es he => by
      have hl : es.length = n := by have := congrArg List.length he; rwa [List.length_map, rowN_len] at this
      have e1 : es[j]?.map (·.1) = some ⟨j + 1, val j⟩ := by
        rw [← List.getElem?_map, he, List.getElem?_eq_getElem (by rw [rowN_len]; exact hj'), rowN_get]
      rw [List.getElem?_eq_getElem (by omega)] at e1
      have e2 : es[j].1 = ⟨j + 1, val j⟩ := by simpa using e1
      have e3 : (es.getD j (⟨0, []⟩, (none, 0, 0))) = es[j] := by simp [List.getD, show j < es.length by omega]
      rw [e3, e2]
      have := hv j hj'
      show (val j).length ≤ _
      omega
    simp only [List.mem_cons, List.not_mem_nil, or_false] at hl
    rcases hl with rfl | rfl | rfl
    · exact key ex h.vx
    · exact key ey h.vy
    · exact key ez h.vz
  · rintro e w5 ⟨rfl, hb5⟩
    refine ⟨rfl, Lib.hid ?_⟩
    have o5 : OL W w5 F g ⟨n, rowN val n⟩ := (h.ol.below hM.2).kp (Kp.of_belowB hb5) (fun k hk hb => by have := h.low k hk; omega) (fun k hk => Nat.le_trans h.base.1 hk)
    have h6 := o5.catch_ 1 1 rfl (by decide) 100 (by decide)
    rw [show (Rl.mk n (rowN val n)).run 1 (100 : Int).toNat = rowN val n from rowN_run (by show n ≤ 100; omega), rowN_len] at h6
    refine h6.mono ?_
    rintro e w6 ⟨A6, c6, rfl, H6⟩
    obtain ⟨es, hc, he, hb6⟩ := H6.out
    refine ⟨A6, c6, rfl, Lib.hid (o5.below hb6).2.2, Lib.hid fun j hj => ?_⟩
    obtain ⟨R, c', e1, hj', _, q1, hr⟩ := hc.cell j hj
    injection e1 with e1 _ _
    have e2 : es[j].1 = ⟨j + 1, val j⟩ := by
      have : (es.map (·.1))[j]? = some ⟨j + 1, val j⟩ := by rw [he, List.getElem?_eq_getElem (by rw [rowN_len]; exact hj), rowN_get]
      rw [List.getElem?_map, List.getElem?_eq_getElem hj'] at this
      simpa using this
    rw [e2] at hr
    exact ⟨R, es[j].2, e1, q1, hr⟩
end Go.Proofs.Ytpgjilpalhclcaa
