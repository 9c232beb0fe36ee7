/- Layer 14, the document's view: New. -/
import Derived.Test.YtmdjdnibblebcaaDoorBtRo
import Derived.Test.YtmdjdnibblebcaaDoorAppend2
namespace Go.Proofs.YtmdjdnibblebcaaDoor
open Go.RowKit

structure RnI (W : World) (g : Nat) (l : List Int) (me pat : Int) (i j : Nat) (vs vh : Value) (wr : World) : Prop where
  hd : Bk wr g 54 #[vs, .int .i64 me, .int .i64 pat, .int .i64 0, vh, .int .i64 0]
  so : wr.ownsRow W.heap.size 3 1 vs i (intsV (l.take i))
  ho : wr.ownsRow W.heap.size 3 1 vh j (intsV (List.replicate j (-pat)))
  ne : ∀ k, vs.ownBlock = some k → vh.ownBlock ≠ some k
  bel : Below W.heap.size W wr
  ge : W.heap.size ≤ g
theorem own_ne_bk {w : World} {g : Nat} {t : TypeId} {cs : Array Value} {base e size n : Nat} {v : Value} {xs : List Value} (hb : Bk w g t cs) (ho : w.ownsRow base e size v n xs) (ht : e ≠ t) : ∀ k, v.ownBlock = some k → k ≠ g := fun k e1 e2 => by
  subst e2
  rcases ho.2 with ⟨rfl, _⟩ | ⟨g', cap, cur, rfl, _, hh, _⟩
  · cases e1
  · injection e1 with e1
    have e' : g' = k := e1
    subst e'
    unfold Bk at hb
    rw [hb] at hh
    injection hh with hh
    injection hh with h2 h3
    exact ht h3.symm
section
variable {W : World} {g : Nat} {l : List Int} {me pat : Int} {i j : Nat} {vs vh : Value} {wr wa w3 : World}
theorem RnI.below (h : RnI W g l me pat i j vs vh wr) (hb : Below wr.heap.size wr wa) : RnI W g l me pat i j vs vh wa :=
  ⟨h.hd.below hb h.hd.lt, own_below h.so hb fun k e => (h.so.lt k e).2, own_below h.ho hb fun k e => (h.ho.lt k e).2, h.ne, h.bel.trans (hb.mono h.bel.size), h.ge⟩
theorem RnI.pushS (h : RnI W g l me pat i j vs vh wa) (hi : i < l.length) {v' : Value} (ha : App wa w3 W.heap.size 3 1 vs v' i 1 (intsV (l.take i)) (intsV [l[i]])) :
    w3.cell? ⟨g, 0, none⟩ = some vs ∧ w3.frozen? ⟨g, 0, none⟩ = false ∧ RnI W g l me pat (i + 1) j v' vh (w3.setCell ⟨g, 0, none⟩ v') := by
  have hvg := own_ne_bk h.hd h.so (by decide)
  have hhg := own_ne_bk h.hd h.ho (by decide)
  have hb3 : Bk w3 g 54 #[vs, .int .i64 me, .int .i64 pat, .int .i64 0, vh, .int .i64 0] := h.hd.grown ha.grow fun e => hvg g e.symm rfl
  have hk : Kp (fun k => k = g) w3 (w3.setCell ⟨g, 0, none⟩ v') := Kp.set_ (F := fun k => k = g) (p := ⟨g, 0, none⟩) rfl _
  have hgl := h.hd.lt
  have hv' : ∀ k, v'.ownBlock = some k → k ≠ g := fun k e => by
    rcases ha.block with e1 | e1
    · rw [e1] at e; exact hvg k e
    · rw [e1] at e; injection e with e; omega
  have hvh : vh.ownBlock = none ∨ vh.ownBlock ≠ vs.ownBlock := by
    cases hvs : vs.ownBlock with
    | none =>
      cases hvv : vh.ownBlock with
      | none => exact .inl rfl
      | some k => exact .inr (by simp)
    | some k => exact .inr (by have := h.ne k hvs; exact this)
  refine ⟨hb3.cell 0, hb3.frozen 0, hb3.set_ 0 v', ?_, ?_, ?_, ?_, h.ge⟩
  · have h1 := ha.own
    rw [show intsV (l.take i) ++ intsV [l[i]] = intsV (l.take (i + 1)) by rw [List.take_succ_eq_append_getElem hi]; exact (List.map_append (l₁ := l.take i) (l₂ := [l[i]])).symm] at h1
    exact own_kp h1 hk hv'
  · exact own_kp (ha.other h.ho hvh) hk hhg
  · intro k e
    rcases ha.block with e1 | e1
    · rw [e1] at e; exact h.ne k e
    · rw [e1] at e
      injection e with e
      intro e2
      have := (h.ho.lt k e2).2
      omega
  · exact (ha.below h.bel h.bel.size fun k e => (h.so.lt k e).1).trans (hk.below (fun k e => by have := h.ge; omega) (ha.below h.bel h.bel.size fun k e => (h.so.lt k e).1).size)
theorem RnI.pushH (h : RnI W g l me pat i j vs vh wa) {v' : Value} (ha : App wa w3 W.heap.size 3 1 vh v' j 1 (intsV (List.replicate j (-pat))) (intsV [-pat])) :
    w3.cell? ⟨g, 4, none⟩ = some vh ∧ w3.frozen? ⟨g, 4, none⟩ = false ∧ RnI W g l me pat i (j + 1) vs v' (w3.setCell ⟨g, 4, none⟩ v') := by
  have hvg := own_ne_bk h.hd h.so (by decide)
  have hhg := own_ne_bk h.hd h.ho (by decide)
  have hb3 : Bk w3 g 54 #[vs, .int .i64 me, .int .i64 pat, .int .i64 0, vh, .int .i64 0] := h.hd.grown ha.grow fun e => hhg g e.symm rfl
  have hk : Kp (fun k => k = g) w3 (w3.setCell ⟨g, 4, none⟩ v') := Kp.set_ (F := fun k => k = g) (p := ⟨g, 4, none⟩) rfl _
  have hgl := h.hd.lt
  have hv' : ∀ k, v'.ownBlock = some k → k ≠ g := fun k e => by
    rcases ha.block with e1 | e1
    · rw [e1] at e; exact hhg k e
    · rw [e1] at e; injection e with e; omega
  have hvs : vs.ownBlock = none ∨ vs.ownBlock ≠ vh.ownBlock := by
    cases hvv : vs.ownBlock with
    | none => exact .inl rfl
    | some k => exact .inr (fun e => h.ne k hvv e.symm)
  refine ⟨hb3.cell 4, hb3.frozen 4, hb3.set_ 4 v', ?_, ?_, ?_, ?_, h.ge⟩
  · exact own_kp (ha.other h.so hvs) hk hvg
  · have h1 := ha.own
    rw [show intsV (List.replicate j (-pat)) ++ intsV [-pat] = intsV (List.replicate (j + 1) (-pat)) by rw [List.replicate_succ']; exact (List.map_append (l₁ := List.replicate j (-pat)) (l₂ := [-pat])).symm] at h1
    exact own_kp h1 hk hv'
  · intro k e e2
    rcases ha.block with e1 | e1
    · rw [e1] at e2; exact h.ne k e e2
    · rw [e1] at e2
      injection e2 with e2
      have := (h.so.lt k e).2
      omega
  · exact (ha.below h.bel h.bel.size fun k e => (h.ho.lt k e).1).trans (hk.below (fun k e => by have := h.ge; omega) (ha.below h.bel h.bel.size fun k e => (h.ho.lt k e).1).size)
end
/-- What the document's New answers. -/
def RNewE (w : World) (l : List Int) (me pat : Int) (e : Ending) (w' : World) : Prop :=
  if rightN l me pat = true then ∃ g s2 cs t2 ct h, e = .returned (.tuple #[.pointer (some ⟨g, 0, none⟩), .int .i64 0]) ∧ Hid (RM w' g s2 cs t2 ct (mkV l me.toNat pat.toNat) 0 0 h ∧ w.heap.size ≤ g ∧ w.heap.size ≤ s2 ∧ w.heap.size ≤ t2 ∧ Below w.heap.size w w')
  else e = .returned (.tuple #[.pointer none, .int .i64 2]) ∧ Below w.heap.size w w'
theorem rnewE_bad {w w' : World} {l : List Int} {me pat : Int} (h : rightN l me pat = false) (hb : Below w.heap.size w w') : RNewE w l me pat (.returned (.tuple #[.pointer none, .int .i64 2])) w' := by
  unfold RNewE
  rw [if_neg (by rw [h]; simp)]
  exact ⟨rfl, hb⟩
theorem rightN_true {l : List Int} {me pat : Int} (h1 : 1 ≤ l.length) (h2 : l.length ≤ 12) (h3 : 0 ≤ me) (h4 : me < l.length) (h5 : 1 ≤ pat) (h6 : pat ≤ 1000) (h7 : ∀ k (hk : k < l.length), noSite l[k] = false) : rightN l me pat = true := by
  have h8 : l.any noSite = false := by
    rw [List.any_eq_false]
    intro x hx
    obtain ⟨k, hk, rfl⟩ := List.getElem_of_mem hx
    rw [h7 k hk]; simp
  unfold rightN
  rw [h8]
  simp
  omega
theorem rightN_bad {l : List Int} {me pat : Int} {k : Nat} (hk : k < l.length) (h : noSite l[k] = true) : rightN l me pat = false := by
  have h8 : l.any noSite = true := List.any_eq_true.2 ⟨_, List.getElem_mem hk, h⟩
  unfold rightN
  rw [h8]
  simp
/-- What the rows are, once all are in. -/
theorem RnI.done {W wr : World} {g : Nat} {l : List Int} {me pat : Int} {vs vh : Value} (h : RnI W g l me pat l.length l.length vs vh wr) (hgood : rightN l me pat = true) :
    ∃ s2 cs t2 ct h2, RM wr g s2 cs t2 ct (mkV l me.toNat pat.toNat) 0 0 h2 ∧ W.heap.size ≤ s2 ∧ W.heap.size ≤ t2 := by
  have hg2 := hgood
  unfold rightN at hg2
  simp only [Bool.and_eq_true, decide_eq_true_eq, Bool.not_eq_true', List.any_eq_false] at hg2
  obtain ⟨⟨⟨⟨⟨⟨h1, h2⟩, h3⟩, h4⟩, h5⟩, h6⟩, h7⟩ := hg2
  have hme : ((me.toNat : Nat) : Int) = me := by omega
  have hpt : ((pat.toNat : Nat) : Int) = pat := by omega
  have hok : (mkV l me.toNat pat.toNat).Ok := mkV_ok (by rw [hme, hpt]; exact hgood)
  have hvg := own_ne_bk h.hd h.so (by decide)
  have hhg := own_ne_bk h.hd h.ho (by decide)
  rcases h.so.2 with ⟨_, h0⟩ | ⟨s2, cs, cur, rfl, hb, hh, k1, k2, k3, k4⟩
  · omega
  rcases h.ho.2 with ⟨_, h0⟩ | ⟨t2, ct, cur2, rfl, hb2, hh2, j1, j2, j3, j4⟩
  · omega
  refine ⟨s2, cs, t2, ct, fun _ => -pat, ⟨hok, ?_, ?_, fun e => hvg s2 rfl e.symm, fun e => hhg t2 rfl e.symm, fun e => h.ne s2 rfl (by rw [e]; rfl), ⟨k1, k2, j1, j2⟩, ⟨cur, hh, fun i hi => ?_⟩, ⟨cur2, hh2, by show l.length ≤ _; omega, fun i hi => ?_⟩⟩, hb, hb2⟩
  · refine ⟨fun i _ hm => ?_, fun i _ => by omega, rfl, Nat.le_refl _, by omega⟩
    have hm2 : i ≠ me.toNat := hm
    show (((if i = me.toNat then 0 else pat.toNat : Nat)) : Int) = if ((0 : Nat) : Int) - -pat > ((pat.toNat : Nat) : Int) then ((pat.toNat : Nat) : Int) else ((0 : Nat) : Int) - -pat
    rw [if_neg hm2, if_neg (by omega)]
    omega
  · have h9 := h.hd
    unfold rfA mkV
    dsimp only
    rw [hme, hpt]
    exact h9
  · have hi' : i < l.length := hi
    have e : (cur.toList.take (l.length * 1))[i]? = (intsV (l.take l.length))[i]? := by rw [k4]
    rw [List.getElem?_take_of_lt (by omega), Array.getElem?_toList, List.take_length] at e
    rw [e]
    have h8 : l.getD i 0 = l[i] := by simp [List.getD, hi']
    have h9 := h3 l[i] (List.getElem_mem hi')
    unfold noSite at h9
    simp at h9
    show _ = some (Value.int .i64 (((l.getD i 0).toNat : Nat) : Int))
    rw [h8, Int.toNat_of_nonneg (by omega)]
    simp [intsV, hi']
  · have hi' : i < l.length := hi
    have e : (cur2.toList.take (l.length * 1))[i]? = (intsV (List.replicate l.length (-pat)))[i]? := by rw [j4]
    rw [List.getElem?_take_of_lt (by omega), Array.getElem?_toList] at e
    rw [e]
    simp [intsV, hi']
set_option maxRecDepth 100000 in
set_option maxHeartbeats 8000000 in
theorem rnew_any (A : Option Addr) (n c : Nat) (w : World) (l : List Int) (me pat : Int) (hm : n ≤ 9223372036854775807) (hr : RdI w w.heap.size A n l) :
    Calls Tryd.prog 12 #[.slice A n c, .int .i64 me, .int .i64 pat] w (RNewE w l me pat) := by
  have hl := hr.1
  have HR := Lib.hid hr
  clear hr
  have hbad : (n < 1 ∨ 12 < n ∨ me < 0 ∨ (n : Int) ≤ me ∨ pat < 1 ∨ 1000 < pat) → rightN l me pat = false := fun h => by
    unfold rightN
    rw [hl]
    cases l.any noSite <;> simp <;> omega
  by_cases h1 : n < 1
  · have h1a : (n : Int) < 1 := by omega
    have HB := Lib.hid (hbad (.inl h1))
    go_enter Tryd.func12, Tryd.ntmps12
    go_wp2
    go_ret2
    exact rnewE_bad HB.out (Below.refl _ _)
  have a1 : ¬ (n : Int) < 1 := by omega
  by_cases h2 : 12 < n
  · have h2a : (12 : Int) < (n : Int) := by omega
    have HB := Lib.hid (hbad (.inr (.inl h2)))
    clear hbad
    go_enter Tryd.func12, Tryd.ntmps12
    go_wp2
    go_ret2
    exact rnewE_bad HB.out (Below.refl _ _)
  have a2 : ¬ (12 : Int) < (n : Int) := by omega
  by_cases h3 : me < 0
  · have HB := Lib.hid (hbad (.inr (.inr (.inl h3))))
    clear hbad
    go_enter Tryd.func12, Tryd.ntmps12
    go_wp2
    go_ret2
    exact rnewE_bad HB.out (Below.refl _ _)
  by_cases h4 : (n : Int) ≤ me
  · have HB := Lib.hid (hbad (.inr (.inr (.inr (.inl h4)))))
    clear hbad
    go_enter Tryd.func12, Tryd.ntmps12
    go_wp2
    go_ret2
    exact rnewE_bad HB.out (Below.refl _ _)
  by_cases h5 : pat < 1
  · have HB := Lib.hid (hbad (.inr (.inr (.inr (.inr (.inl h5))))))
    clear hbad
    go_enter Tryd.func12, Tryd.ntmps12
    go_wp2
    go_ret2
    exact rnewE_bad HB.out (Below.refl _ _)
  by_cases h6 : 1000 < pat
  · have HB := Lib.hid (hbad (.inr (.inr (.inr (.inr (.inr h6))))))
    clear hbad
    go_enter Tryd.func12, Tryd.ntmps12
    go_wp2
    go_ret2
    exact rnewE_bad HB.out (Below.refl _ _)
  have d1 : decide ((n : Int) < 1) = false := decide_eq_false (by omega)
  have d1' : decide (n < 1) = false := decide_eq_false (by omega)
  have d2 : decide ((12 : Int) < (n : Int)) = false := decide_eq_false (by omega)
  have d2' : decide (12 < n) = false := decide_eq_false (by omega)
  have d3 : decide (me < 0) = false := decide_eq_false h3
  have d4 : decide ((n : Int) ≤ me) = false := decide_eq_false h4
  have d5 : decide (pat < 1) = false := decide_eq_false h5
  have d6 : decide ((1000 : Int) < pat) = false := decide_eq_false h6
  have HL := Lib.hid hl
  obtain ⟨g, hg⟩ : ∃ g, g = w.heap.size := ⟨_, rfl⟩
  obtain ⟨w2, hw2⟩ : ∃ w2, w2 = w.alloc (.cells #[.slice none 0 0, .int .i64 me, .int .i64 pat, .int .i64 0, .slice none 0 0, .int .i64 0] 54) := ⟨_, rfl⟩
  have hk2 : Bk w2 g 54 #[.slice none 0 0, .int .i64 me, .int .i64 pat, .int .i64 0, .slice none 0 0, .int .i64 0] := by rw [hw2, hg]; exact Bk.new w _ _
  have Hi : Hid (RnI w g l me pat 0 0 (.slice none 0 0) (.slice none 0 0) w2) := Lib.hid ⟨hk2, World.ownsRow_nil _ _ _ _, World.ownsRow_nil _ _ _ _, (fun k e => by cases e), by rw [hw2]; exact belA _ _, by omega⟩
  have HW2 := Lib.hid hw2
  have HG := Lib.hid hg
  obtain ⟨i0, hi0, hz0, hz1, hz2⟩ := info_parts infoIntB
  clear hbad hk2 hw2 hg hl h1 h2
  go_enter Tryd.func12, Tryd.ntmps12
  go_upto_region 4 with (fail)
  rw [← HW2.out]
  try rw [← HG.out]
  go_wp2
  go_loopg [9] n (fun gk a wr => ∃ i : Nat, a = .int .i64 (i : Int) ∧ i + gk = n ∧ ∃ As cs Ah ch, Hid (RnI w g l me pat i i (.slice As i cs) (.slice Ah i ch) wr ∧ ∀ k (hk : k < l.length), k < i → noSite l[k] = false))
  case atStart => exact ⟨0, rfl, by omega, none, 0, none, 0, Lib.hid ⟨Hi.out, fun k _ h => by omega⟩⟩
  case round =>
    clear Hi
    obtain ⟨i, rfl, hig, As, cs, Ah, ch, HI⟩ := hrel
    by_cases hin : i < n
    · have m1 : (i : Int) < (n : Int) := by omega
      have m0 : ¬ (i : Int) < 0 := by omega
      have e1 : IntKind.i64.wrap ((i : Int) + 1) = ((i + 1 : Nat) : Int) := by rw [IntKind.wrap_i64]; omega
      have hil : i < l.length := by rw [HL.out]; exact hin
      obtain ⟨b, o, rfl, hbl, hc⟩ := (HR.out.below HI.out.1.bel).2.2 (by omega)
      have q0 := hc i hil
      have HNS : Hid (noSite l[i] = true → rightN l me pat = false) := Lib.hid fun h => rightN_bad hil h
      obtain ⟨x, hx⟩ : ∃ x, x = l[i] := ⟨_, rfl⟩
      rw [← hx] at q0 HNS
      have HXe := Lib.hid hx
      clear hx hc
      by_cases hx0 : x < 0
      · have HB := Lib.hid (HNS.out (by unfold noSite; simp; omega))
        go_wp2
        go_ret2
        exact rnewE_bad HB.out HI.out.1.bel
      · by_cases hx12 : 12 ≤ x
        · have HB := Lib.hid (HNS.out (by unfold noSite; simp; omega))
          go_wp2
          go_ret2
          exact rnewE_bad HB.out HI.out.1.bel
        · have hxg : ¬ x ≥ 12 := hx12
          have HNS2 : Hid (noSite x = false) := Lib.hid (by unfold noSite; simp; omega)
          have c0 : wr.cell? ⟨g, 0, none⟩ = some (.slice As i cs) := HI.out.1.hd.cell 0
          have f0 : wr.frozen? ⟨g, 0, none⟩ = false := HI.out.1.hd.frozen 0
          have c0a : (wr.alloc (.cells #[.int .i64 x] 3)).cell? ⟨g, 0, none⟩ = some (.slice As i cs) := ((belA wr _).cell (p := ⟨g, 0, none⟩) HI.out.1.hd.lt).trans c0
          have hbA : Below wr.heap.size wr ((wr.drewN 1).alloc (.cells #[.int .i64 x] 3)) := ((Below.refl _ _).drew).alloc (Nat.le_refl _) _
          have HA : Hid (((wr.drewN 1).alloc (.cells #[.int .i64 x] 3)).ownsRow w.heap.size 3 1 (.slice As i cs) i (intsV (l.take i))) := Lib.hid (HI.out.1.below hbA).so
          have HC1 : Hid (∀ u ∈ [Value.int .i64 x], u.oneCell' = true) := Lib.hid (intsV_one [x])
          have HSz := Lib.hid HI.out.1.bel.size
          have HP : Hid (∀ v' w3, App ((wr.drewN 1).alloc (.cells #[.int .i64 x] 3)) w3 w.heap.size 3 1 (.slice As i cs) v' i 1 (intsV (l.take i)) [Value.int .i64 x] →
            w3.cell? ⟨g, 0, none⟩ = some (.slice As i cs) ∧ w3.frozen? ⟨g, 0, none⟩ = false ∧ Hid (RnI w g l me pat (i + 1) i v' (.slice Ah i ch) (w3.setCell ⟨g, 0, none⟩ v'))) := Lib.hid fun v' w3 ha => by
              have ha2 : App ((wr.drewN 1).alloc (.cells #[.int .i64 x] 3)) w3 w.heap.size 3 1 (.slice As i cs) v' i 1 (intsV (l.take i)) (intsV [l[i]]) := by rw [← HXe.out]; exact ha
              obtain ⟨k1, k2, k3⟩ := (HI.out.1.below hbA).pushS hil ha2
              exact ⟨k1, k2, Lib.hid k3⟩
          have HOld := Lib.hid (HI.out.2)
          have ng : IntKind.i64.wrap (-pat) = -pat := by rw [IntKind.wrap_i64]; omega
          have e1 : IntKind.i64.wrap ((i : Int) + 1) = ((i + 1 : Nat) : Int) := by rw [IntKind.wrap_i64]; omega
          have Hiw := Lib.hid hi0
          have Hzw := Lib.hid hz0
          have Hsw := Lib.hid hz1
          have Hbw := Lib.hid hz2
          clear hbA hi0 hz0 hz1 hz2 HR HNS HI
          go_wp2_with fail
          go_region_law ((refine step_append_app _ rfl _ _ 22 (by rfl) w.heap.size 3 i0 (.int .i64 0) 1 8 Tryd.underlying22 Hiw.out Hzw.out Hsw.out Hbw.out rfl (.slice As i cs) i _ (by rfl) HA.out (some ⟨wr.heap.size, 0, none⟩) 1 1 [Value.int .i64 x] (by rfl) (by rfl) (by intro e; cases e) (new_cells _ _ _ rfl) HC1.out (by unfold maxLen; omega) (by omega) (by have := HSz.out; simp; omega) ?_); intro v' w3 happ; (obtain ⟨Av', cv', rfl, _⟩ := own_shape happ.own); (obtain ⟨k2, kf, HX⟩ := HP.out _ _ happ))
          all_goals
            clear happ c0 c0a f0 HP HA HC1 k2 kf
            obtain ⟨w5, hw5⟩ : ∃ w5, w5 = w3.setCell ⟨g, 0, none⟩ (.slice Av' (i + 1) cv') := ⟨_, rfl⟩
            rw [← hw5] at HX
            rw [← hw5]
            clear hw5
            have c4 : w5.cell? ⟨g, 4, none⟩ = some (.slice Ah i ch) := HX.out.hd.cell 4
            have f4 : w5.frozen? ⟨g, 4, none⟩ = false := HX.out.hd.frozen 4
            have c4a : (w5.alloc (.cells #[.int .i64 (-pat)] 3)).cell? ⟨g, 4, none⟩ = some (.slice Ah i ch) := ((belA w5 _).cell (p := ⟨g, 4, none⟩) HX.out.hd.lt).trans c4
            have HO := Lib.hid HX.out.ho
            have HS5 := Lib.hid HX.out.bel.size
            go_wp2_with (at_builtin; refine (?_ : _ ∧ True).1)
            refine ⟨?_, trivial⟩
            refine wpList_append_app _ rfl _ _ 22 rfl w.heap.size 3 i0 (.int .i64 0) 1 8 Tryd.underlying22 Hiw.out Hzw.out Hsw.out Hbw.out rfl _ i (intsV (List.replicate i (-pat))) rfl (own_below HO.out (belA w5 _) fun k hk => (HO.out.lt k hk).2) (some ⟨w5.heap.size, 0, none⟩) 1 1 (intsV [-pat]) rfl rfl (by intro e; cases e) (new_cells w5 _ 3 rfl) (intsV_one _) (by unfold maxLen; omega) (by omega) (by have := HS5.out; simp; omega) ?_
            intro v' w6 happ
            obtain ⟨A6, c6, rfl, _⟩ := own_shape happ.own
            obtain ⟨k2, kf, k3⟩ := (HX.out.below (belA w5 _)).pushH happ
            have HY := Lib.hid k3
            have HZ : Hid (∀ k (hk : k < l.length), k < i + 1 → noSite l[k] = false) := Lib.hid fun k hk h => by
              by_cases hki : k < i
              · exact HOld.out k hk hki
              · obtain rfl : k = i := by omega
                rw [← HXe.out]; exact HNS2.out
            clear happ HO HX HOld k3 c4 f4 c4a
            go_wp2
            go_roundg (gk - 1)
            case measure => omega
            case rel => exact ⟨i + 1, by go_num, by omega, _, _, _, _, Lib.hid ⟨HY.out, HZ.out⟩⟩
    · obtain rfl : i = n := by omega
      have m1 : ¬ (i : Int) < (i : Int) := by omega
      have HGD : Hid (rightN l me pat = true) := Lib.hid (rightN_true (by have := HL.out; omega) (by have := HL.out; omega) (by omega) (by have := HL.out; omega) (by omega) (by omega) fun k hk => HI.out.2 k hk (by have := HL.out; omega))
      have HFin : Hid (∃ s2 cs t2 ct h2, RM wr g s2 cs t2 ct (mkV l me.toNat pat.toNat) 0 0 h2 ∧ w.heap.size ≤ s2 ∧ w.heap.size ≤ t2) := Lib.hid (by
        have h9 := HI.out.1
        have h8 := HL.out
        rw [← h8] at h9
        exact h9.done HGD.out)
      go_wp2
      refine bodyPost_ret (by simp [results, Tryd.results12, go_sem]; try rfl) rfl ?_
      unfold RNewE
      rw [if_pos HGD.out]
      obtain ⟨s2, cs2, t2, ct2, h2, hrm, hs2, ht2⟩ := HFin.out
      exact ⟨g, s2, cs2, t2, ct2, h2, rfl, Lib.hid ⟨hrm, HI.out.1.ge, hs2, ht2, HI.out.1.bel⟩⟩
end Go.Proofs.YtmdjdnibblebcaaDoor
