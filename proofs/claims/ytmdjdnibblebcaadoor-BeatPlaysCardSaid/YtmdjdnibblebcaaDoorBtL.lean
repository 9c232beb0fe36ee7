/- Layer 14: Leader; New. -/
import Derived.Test.YtmdjdnibblebcaaDoorBtO
import Derived.Test.YtmdjdnibblebcaaDoorBtH
import Derived.Test.YtmdjdnibblebcaaDoorDiskP3
import Derived.Test.YtmdjdnibblebcaaDoorQuLay
namespace Go.Proofs.YtmdjdnibblebcaaDoor
open Go.RowKit Go.Shelf Go.Lib Go.Sort

def Vw.lead (v : Vw) (home : Int) : Nat := (v.order home).headD 0
set_option maxRecDepth 100000 in
theorem leader_nil (home : Int) (w : World) : Calls Tryd.prog 26 #[.pointer none, .int .i64 home] w fun e w' => e = .returned (.int .i64 (-1)) ∧ w' = w := by
  go_enter Tryd.func26, Tryd.ntmps26
  go_wp2
  go_ret
  exact ⟨rfl, rfl⟩
section
variable {w : World} {g b c : Nat} {v : Vw}
set_option maxRecDepth 100000 in
theorem leader_any (h : PV w g b c v) (hT : Tz w) (home : Int) : Calls Tryd.prog 26 #[.pointer (some ⟨g, 0, none⟩), .int .i64 home] w fun e w' => e = .returned (.int .i64 (v.lead home : Int)) ∧ Below w.heap.size w w' := by
  have HO := Lib.hid (order_any h hT home)
  have hne := Vw.order_ne h.ok home
  unfold Vw.lead
  obtain ⟨l, hl⟩ : ∃ l, l = v.order home := ⟨_, rfl⟩
  rw [← hl] at HO hne ⊢
  cases l with
  | nil => exact absurd rfl hne
  | cons x r =>
    clear h hT hl hne
    go_enter Tryd.func26, Tryd.ntmps26
    go_wp2_with fail
    refine HO.out.mono ?_
    rintro e w1 ⟨vv, rfl, hb, ho⟩
    have HB := Lib.hid hb
    rcases ho.2 with ⟨_, e0⟩ | ⟨k, cap, cur, rfl, _⟩
    · simp at e0
    have c0 := ho.cellAt 0 (by simp)
    have c1 : w1.cell? ⟨k, 0, none⟩ = some (.int .i64 (x : Int)) := by simpa [natsV] using c0
    clear hb ho c0
    go_wp2
    go_ret
    exact ⟨rfl, HB.out⟩
end
/-! ### New -/
def noSite (x : Int) : Bool := decide (x < 0) || decide (x ≥ 12)
theorem ret_boolB {a b : Bool} (h : a = b) : Ending.returned (.bool a) = .returned (.bool b) := by rw [h]
set_option maxRecDepth 100000 in
theorem isNoSite_any (x : Int) (W : World) : Calls Tryd.prog 28 #[.int .i64 x] W fun e w' => e = .returned (.bool (noSite x)) ∧ W = w' := by
  unfold noSite
  by_cases h1 : x < 0
  · go_enter Tryd.func28, Tryd.ntmps28
    go_wp2
    go_ret
    exact ⟨ret_boolB (by rw [decide_eq_true h1]; rfl), rfl⟩
  · have h1' : ¬ x < 0 := h1
    go_enter Tryd.func28, Tryd.ntmps28
    go_wp2
    go_ret
    exact ⟨ret_boolB (by rw [decide_eq_false (by omega : ¬ x < 0)]; rfl), rfl⟩
theorem noSite_pred (w : World) : PredAt Tryd.prog 28 #[] (Value.int .i64) noSite w := fun W x _ => by
  show Calls Tryd.prog 28 #[.int .i64 x] W _
  refine (isNoSite_any x W).mono ?_
  rintro e w' ⟨rfl, rfl⟩
  exact ⟨rfl, 0, rfl⟩
theorem containsSites (A : Option Addr) (n c : Nat) (w : World) (l : List Int) (hn : 0 < n) (hm : n ≤ 9223372036854775807) (hr : RdI w w.heap.size A n l) :
    Calls Tryd.prog 29 #[.slice A n c, .func (.func 28) #[] #[]] w fun e w' => e = .returned (.bool (l.any noSite)) ∧ Below w.heap.size w w' := by
  obtain ⟨hl, _, h⟩ := hr
  obtain ⟨b, o, rfl, hb, hc⟩ := h hn
  have H := AnyE.slices_ContainsFunc layCf (Value.int .i64) noSite 28 #[] (enters_of Tryd.func28 (by kernel_rfl) rfl) b o n c l w (noSite_pred w) (by omega) hm (fun j hj => by rw [hc j hj, getElem!_pos l j hj])
  rw [List.take_of_length_le (by omega)] at H
  refine Calls.mono (show Calls Tryd.prog 29 _ _ _ from H) ?_
  rintro e w' ⟨rfl, q, rfl⟩
  exact ⟨rfl, bel_drewN (Below.refl _ _) q⟩
/-- What New asks. -/
def rightN (l : List Int) (me pat : Int) : Bool := decide (1 ≤ l.length) && decide (l.length ≤ 12) && !(l.any noSite) && decide (0 ≤ me) && decide (me < l.length) && decide (1 ≤ pat) && decide (pat ≤ 1000)
def mkV (l : List Int) (me pat : Nat) : Vw := ⟨l.length, fun i => (l.getD i 0).toNat, fun i => if i = me then 0 else pat, me, pat, 0⟩
theorem mkV_ok {l : List Int} {me pat : Nat} (h : rightN l me pat = true) : (mkV l me pat).Ok := by
  unfold rightN at h
  simp only [Bool.and_eq_true, decide_eq_true_eq, Bool.not_eq_true', List.any_eq_false] at h
  obtain ⟨⟨⟨⟨⟨⟨h1, h2⟩, h3⟩, h4⟩, h5⟩, h6⟩, h7⟩ := h
  refine ⟨h1, h2, fun i hi => ?_, by show me < l.length; omega, by show (if me = me then 0 else pat) = 0; rw [if_pos rfl], by show 1 ≤ pat; omega, by show pat ≤ 1000; omega, fun i hi => ?_, Nat.zero_le _⟩
  · have hi' : i < l.length := hi
    show (l.getD i 0).toNat < 12
    have h8 := h3 l[i] (List.getElem_mem hi')
    unfold noSite at h8
    simp at h8
    have h9 : l.getD i 0 = l[i] := by simp [List.getD, hi']
    rw [h9]
    omega
  · show (if i = me then 0 else pat) ≤ pat
    split <;> omega
/-- What New answers. -/
def NewE (w : World) (l : List Int) (me pat : Nat) (e : Ending) (w' : World) : Prop :=
  ∃ g b c, e = .returned (.tuple #[.pointer (some ⟨g, 0, none⟩), .int .i64 0]) ∧ Hid (PV w' g b c (mkV l me pat) ∧ w.heap.size ≤ g ∧ w.heap.size ≤ b ∧ Below w.heap.size w w')
set_option maxRecDepth 100000 in
theorem new_bad (A : Option Addr) (n c : Nat) (w : World) (l : List Int) (me pat : Int) (hm : n ≤ 9223372036854775807) (hr : RdI w w.heap.size A n l) (hbad : rightN l me pat = false) :
    Calls Tryd.prog 11 #[.slice A n c, .int .i64 me, .int .i64 pat] w fun e w' => e = .returned (.tuple #[.pointer none, .int .i64 2]) ∧ Below w.heap.size w w' := by
  have hl := hr.1
  by_cases h1 : n < 1
  · have h1a : (n : Int) < 1 := by omega
    go_enter Tryd.func11, Tryd.ntmps11
    go_wp2
    go_ret2
    exact ⟨rfl, Below.refl _ _⟩
  · have h1a : ¬ (n : Int) < 1 := by omega
    by_cases h2 : 12 < n
    · have h2a : (n : Int) > 12 := by omega
      have h2b : (12 : Int) < (n : Int) := by omega
      go_enter Tryd.func11, Tryd.ntmps11
      go_wp2
      go_ret2
      exact ⟨rfl, Below.refl _ _⟩
    · have h2a : ¬ (12 : Int) < (n : Int) := by omega
      have HC := containsSites A n c w l (by omega) hm hr
      cases hany : l.any noSite with
      | true =>
        rw [hany] at HC
        have HCH := Lib.hid HC
        clear HC hr hbad
        go_enter Tryd.func11, Tryd.ntmps11
        go_wp2_with (go_at_call 29; refine HCH.out.mono ?_; rintro e w' ⟨rfl, hb⟩)
        go_ret2
        exact ⟨rfl, hb⟩
      | false =>
        rw [hany] at HC
        have HCH := Lib.hid HC
        have hrest : me < 0 ∨ (n : Int) ≤ me ∨ pat < 1 ∨ 1000 < pat := by
          unfold rightN at hbad
          rw [hany, hl] at hbad
          simp at hbad
          omega
        clear HC hr hbad
        by_cases g1 : me < 0
        · go_enter Tryd.func11, Tryd.ntmps11
          go_wp2_with (go_at_call 29; refine HCH.out.mono ?_; rintro e w' ⟨rfl, hb⟩)
          go_ret2
          exact ⟨rfl, hb⟩
        · by_cases g2 : (n : Int) ≤ me
          · go_enter Tryd.func11, Tryd.ntmps11
            go_wp2_with (go_at_call 29; refine HCH.out.mono ?_; rintro e w' ⟨rfl, hb⟩)
            go_ret2
            exact ⟨rfl, hb⟩
          · by_cases g3 : pat < 1
            · have g2a : ¬ (n : Int) ≤ me := g2
              go_enter Tryd.func11, Tryd.ntmps11
              go_wp2_with (go_at_call 29; refine HCH.out.mono ?_; rintro e w' ⟨rfl, hb⟩)
              go_ret2
              exact ⟨rfl, hb⟩
            · have g4 : 1000 < pat := by omega
              go_enter Tryd.func11, Tryd.ntmps11
              go_wp2_with (go_at_call 29; refine HCH.out.mono ?_; rintro e w' ⟨rfl, hb⟩)
              go_ret2
              exact ⟨rfl, hb⟩
end Go.Proofs.YtmdjdnibblebcaaDoor
