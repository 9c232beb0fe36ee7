/- Layer 12's laws: what holds behind an Install. -/
import Derived.Test.YtpgjilpalhclcaaRlHo
namespace Go.Proofs.Ytpgjilpalhclcaa
open Go.ChangeShapes Go.WideShapes Go.ChangeAt Go.RowKit

theorem run_none {p : Rl} (hok : p.Ok) {s : Nat} (h : p.has s = false) : ∀ m, p.run s m = []
  | 0 => by unfold Rl.run; rw [runL]
  | m + 1 => by
    unfold Rl.run
    have ha := abvL hok s
    generalize p.row.drop (findE s p.row) = L at *
    cases L with
    | nil => rw [runL]
    | cons e r =>
      rw [runL, if_neg]
      intro he
      have := ha.has 0 (by simp)
      have h2 : (e :: r)[0].slot = s := he
      rw [h2, h] at this
      cases this
/-- Behind the Install. -/
def HoI (W : World) (g at_ U : Nat) (ok : Bool) (w : World) : Prop := ∃ F q, OL W w F g q ∧ Sm 60 q ∧ q.ap = at_ ∧ (ok = true → q.ap = U ∧ ∀ e ∈ q.row, U < e.slot)
section
variable {W w w' : World} {g at_ U : Nat} {ok : Bool}
theorem HoI.below (h : HoI W g at_ U ok w) (hb : Below w.heap.size w w') : HoI W g at_ U ok w' := by
  obtain ⟨F, q, h1, h2⟩ := h
  exact ⟨F, q, h1.below hb, h2⟩
theorem HoI.bel (h : HoI W g at_ U ok w) : Below W.heap.size W w := by
  obtain ⟨F, q, h1, h2⟩ := h
  exact h1.2.2
theorem HoI.learn (h : HoI W g at_ U ok w) (S : Nat) (hS : S < 60) {A : Option Addr} {n : Nat} (c : Nat) {l : List UInt8} (hr : Rd w W.heap.size A n l) (hn : n ≤ 1000) :
    Calls Try.prog 24 #[.pointer (some ⟨g, 0, none⟩), .int .u64 (S : Int), .slice A n c] w fun e w' => (∃ r, e = .returned (.int .i64 r) ∧ (0 < S → S ≤ U → ok = true → n ≤ 100 → r = 0)) ∧ Hid (HoI W g at_ U ok w') := by
  obtain ⟨F, q, ho, hs, hap, hq⟩ := h
  refine (ho.learn S (S : Int) rfl (by omega) c (hr.more ho.2.2.size) (by omega)).mono ?_
  rintro e w' ⟨rfl, HX⟩
  obtain ⟨F', ho', _⟩ := HX.out
  have hl := hr.1
  have hapq : (q.learn S l).2.ap = q.ap := by
    rcases learn_or q S l with e | ⟨_, _, _, _, _, _, e⟩ <;> rw [e]
  refine ⟨⟨_, rfl, fun h1 h2 h3 h4 => ?_⟩, Lib.hid ⟨F', _, ho', hs.learn hS l, hapq.trans hap, fun h3 => ?_⟩⟩
  · obtain ⟨hu, hrow⟩ := hq h3
    have hh : q.has S = false := by
      cases hh : q.has S with
      | false => rfl
      | true =>
        obtain ⟨x, hx, e⟩ := (has_iff ho.ok).1 hh
        have := hrow x hx
        omega
    unfold Rl.learn
    rw [if_neg (by omega), if_neg (by omega), if_neg (by rw [hh]; decide), if_pos (by omega)]
  · obtain ⟨hu, hrow⟩ := hq h3
    refine ⟨hapq.trans hu, ?_⟩
    rcases learn_or q S l with e | ⟨_, _, _, _, h6, _, e⟩
    · rw [e]; exact hrow
    · rw [e]
      intro x hx
      rcases mem_insE.1 hx with rfl | hx
      · show U < S; omega
      · exact hrow x hx
/-- What is applied then. -/
theorem HoI.rest (h : HoI W g at_ U ok w) : Calls Try.prog 28 #[.pointer (some ⟨g, 0, none⟩)] w fun e w' => ∃ A i c, e = .returned (.slice A i c) ∧ i ≤ 300 ∧ at_ < 60 ∧ Hid (∀ j, j < i → ∃ R, A = some ⟨R, 0, none⟩ ∧ w'.cell? ⟨R, j * 2, none⟩ = some (.int .u64 ((at_ + j + 1 : Nat) : Int))) ∧ Hid (Below W.heap.size W w') := by
  obtain ⟨F, q, ho, hs, hap, hq⟩ := h
  refine (rest_any ho).mono ?_
  rintro e w' ⟨A, c, i, rfl, hi, HR, HS⟩
  obtain ⟨es, hS⟩ := HS.out
  refine ⟨A, i, c, rfl, hi, by rw [← hap]; exact hs.ap, Lib.hid fun j hj => ?_, Lib.hid hS.ol.2.2⟩
  have hl := hS.cat.len
  obtain ⟨R, rfl⟩ : ∃ R, A = some ⟨R, 0, none⟩ := by
    rcases hS.cat.own.2 with ⟨h', h0⟩ | ⟨g, cap, cur, hv, _⟩
    · injection h' with _ h' _; omega
    · injection hv with hv _ _; exact ⟨g, hv⟩
  have hc := hS.cat.own.cells (g := R) rfl (j * 2 + 0) (.int .u64 (es[j].1.slot : Int)) (by rw [enC_at es j 0 (by omega) (by decide)]; rfl)
  have he : es[j].1 = q.at_ (q.ap + 1 + j) := by
    have : (es.map (·.1))[j]? = some (q.at_ (q.ap + 1 + j)) := by
      rw [hS.vals]
      unfold Rl.outs
      simp [hj]
    rw [List.getElem?_map, List.getElem?_eq_getElem (by omega)] at this
    simpa using this
  have hslot := (Rl.at_mem (HR.out.1 j hj)).2
  rw [he, hslot, Addr.add_lit, Nat.zero_add, Nat.add_zero, hap, show at_ + 1 + j = at_ + j + 1 by omega] at hc
  exact ⟨R, rfl, hc⟩
/-- The Install, and what is asked then. -/
theorem HoL.inst (h : HoL W g w) (hU : U < 40) : ∃ was at_ : Nat, ∃ ok : Bool, was < 60 ∧ (ok = true ↔ was < U) ∧ at_ = max was U ∧
    Hid (Calls Try.prog 14 #[.pointer (some ⟨g, 0, none⟩)] w fun e w' => e = .returned (.int .u64 (was : Int)) ∧ w = w') ∧
    Hid (Calls Try.prog 29 #[.pointer (some ⟨g, 0, none⟩), .int .u64 (U : Int)] w fun e w1 => e = .returned (.bool ok) ∧
      Hid (Calls Try.prog 29 #[.pointer (some ⟨g, 0, none⟩), .int .u64 (U : Int)] w1 fun e w2 => e = .returned (.bool false) ∧
        Hid (Calls Try.prog 14 #[.pointer (some ⟨g, 0, none⟩)] w2 fun e w' => e = .returned (.int .u64 (at_ : Int)) ∧ w2 = w') ∧
        Hid (ok = true → Calls Try.prog 20 #[.pointer (some ⟨g, 0, none⟩), .int .u64 (U : Int), .int .i64 1] w2 fun e w3 => ∃ A c, e = .returned (.slice A 0 c) ∧ Hid (HoI W g at_ U ok w3)) ∧
        Hid (HoI W g at_ U ok w2))) := by
  obtain ⟨F, p, ho, hs⟩ := h
  have hpo := ho.ok
  have hap := hs.ap
  by_cases hlt : p.ap < U
  · have he : p.install U = (true, ⟨U, aboveE U p.row⟩) := by unfold Rl.install; rw [if_neg (by omega)]
    have he2 : (⟨U, aboveE U p.row⟩ : Rl).install U = (false, ⟨U, aboveE U p.row⟩) := by unfold Rl.install; rw [if_pos (.inl (Nat.le_refl _))]
    have hsm : Sm 60 ⟨U, aboveE U p.row⟩ := ⟨fun e hx => hs.slot e ((mem_above hpo.rise).1 hx).1, by show U < 60; omega⟩
    have hab : ∀ e ∈ aboveE U p.row, U < e.slot := fun e hx => ((mem_above hpo.rise).1 hx).2
    refine ⟨p.ap, U, true, hap, by simp [hlt], by omega, Lib.hid ho.applied, Lib.hid ?_⟩
    have h1 := ho.install U (by omega)
    rw [he] at h1
    refine h1.mono ?_
    rintro e w1 ⟨rfl, H1⟩
    have h2 := H1.out.1.install U (by omega)
    rw [he2] at h2
    refine ⟨rfl, Lib.hid (h2.mono ?_)⟩
    rintro e w2 ⟨rfl, H2⟩
    have hi : HoI W g U U true w2 := ⟨F, _, H2.out.1, hsm, rfl, fun _ => ⟨rfl, hab⟩⟩
    refine ⟨rfl, Lib.hid H2.out.1.applied, Lib.hid fun _ => ?_, Lib.hid hi⟩
    have h3 := H2.out.1.catch_ U (U : Int) rfl (by omega) 1 (by decide)
    have hno : (⟨U, aboveE U p.row⟩ : Rl).has U = false := by
      cases hh : (⟨U, aboveE U p.row⟩ : Rl).has U with
      | false => rfl
      | true =>
        obtain ⟨x, hx, e⟩ := (has_iff H2.out.1.ok).1 hh
        have := hab x hx
        omega
    rw [run_none H2.out.1.ok hno] at h3
    refine h3.mono ?_
    rintro e w3 ⟨A, c, rfl, H3⟩
    obtain ⟨es, _, _, hb⟩ := H3.out
    exact ⟨A, c, rfl, Lib.hid (hi.below hb)⟩
  · have he : p.install U = (false, p) := by unfold Rl.install; rw [if_pos (.inl (by omega))]
    refine ⟨p.ap, p.ap, false, hap, by simp [hlt], by omega, Lib.hid ho.applied, Lib.hid ?_⟩
    have h1 := ho.install U (by omega)
    rw [he] at h1
    refine h1.mono ?_
    rintro e w1 ⟨rfl, H1⟩
    have h2 := H1.out.1.install U (by omega)
    rw [he] at h2
    refine ⟨rfl, Lib.hid (h2.mono ?_)⟩
    rintro e w2 ⟨rfl, H2⟩
    have hi : HoI W g p.ap U false w2 := ⟨F, _, H2.out.1, hs, rfl, fun h => by cases h⟩
    exact ⟨rfl, Lib.hid H2.out.1.applied, Lib.hid (fun h => by cases h), Lib.hid hi⟩
end
end Go.Proofs.Ytpgjilpalhclcaa
