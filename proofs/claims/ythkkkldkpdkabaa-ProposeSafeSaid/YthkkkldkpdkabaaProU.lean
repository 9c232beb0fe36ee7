/- Layer 10, plain: what binds in a slot is one of the greatest ballots. -/
import Derived.Test.YthkkkldkpdkabaaProQ
namespace Go.Proofs.Ythkkkldkpdkabaa

/-- Of the votes L of the slot s that were heard. -/
def TI (p : Pp) (s : Nat) (L : List Vt) : Prop :=
  match getK p.told s with
  | none => L = []
  | some t => (∃ v ∈ L, v.val = t.val ∧ v.bal = t.bal) ∧ ∀ v ∈ L, Bl.less t.bal v.bal = false
def atS (s : Nat) (l : List Vt) : List Vt := l.filter fun v => decide (v.slot = s)
theorem atS_app (s : Nat) (a b : List Vt) : atS s (a ++ b) = atS s a ++ atS s b := by unfold atS; rw [List.filter_append]
theorem TI.hear {p : Pp} {s : Nat} {L : List Vt} (h : TI p s L) (node : Nat) (v : Vt) : TI (p.hear node v) s (L ++ atS s [v]) := by
  unfold TI at *
  by_cases hs : v.slot = s
  · have e : atS s [v] = [v] := by unfold atS; simp [hs]
    rw [e]
    unfold Pp.hear
    subst hs
    cases hg : getK p.told v.slot with
    | none =>
      rw [hg] at h
      dsimp only at h
      subst h
      have hw : wins (none : Option Tl) node v = true := rfl
      rw [if_pos hw]
      dsimp only
      rw [getK_put, if_pos rfl]
      exact ⟨⟨v, by simp, rfl, rfl⟩, fun u hu => by rw [List.nil_append, List.mem_singleton] at hu; subst hu; exact Bl.less_self _⟩
    | some t =>
      rw [hg] at h
      dsimp only at h
      obtain ⟨⟨u0, hu0, hv0, hb0⟩, hall⟩ := h
      by_cases hw : wins (some t) node v = true
      · rw [if_pos hw]
        dsimp only
        rw [getK_put, if_pos rfl]
        refine ⟨⟨v, by simp, rfl, rfl⟩, fun u hu => ?_⟩
        dsimp only
        rcases List.mem_append.1 hu with hu | hu
        · have h1 := hall u hu
          unfold wins at hw
          dsimp only at hw
          rw [Bool.or_eq_true] at hw
          rcases hw with hw | hw
          · exact Bl.less_trans_f (a := u.bal) (b := t.bal) (c := v.bal) h1 (Bl.less_f_of hw)
          · rw [Bool.and_eq_true] at hw
            have : t.bal = v.bal := by
              unfold Bl.eqB at hw
              simp only [Bool.and_eq_true, decide_eq_true_eq] at hw
              exact Bl.ext_ hw.1.1 hw.1.2
            rw [← this]
            exact h1
        · rw [List.mem_singleton] at hu
          subst hu
          exact Bl.less_self _
      · rw [if_neg hw, hg]
        dsimp only
        refine ⟨⟨u0, by simp [hu0], hv0, hb0⟩, fun u hu => ?_⟩
        rcases List.mem_append.1 hu with hu | hu
        · exact hall u hu
        · rw [List.mem_singleton] at hu
          subst hu
          unfold wins at hw
          dsimp only at hw
          rw [Bool.or_eq_true, not_or] at hw
          simpa using hw.1
  · have e : atS s [v] = [] := by unfold atS; simp [hs]
    rw [e, List.append_nil]
    unfold Pp.hear
    by_cases hw : wins (getK p.told v.slot) node v = true
    · rw [if_pos hw]
      dsimp only
      rw [getK_put, if_neg (fun e => hs e.symm)]
      exact h
    · rw [if_neg hw]
      exact h
theorem TI.hears {s : Nat} (node : Nat) : ∀ (l : List Vt) {p : Pp} {L : List Vt}, TI p s L → TI (p.hears node l) s (L ++ atS s l)
  | [], p, L, h => by
    have e : atS s ([] : List Vt) = [] := rfl
    rw [e, List.append_nil]
    exact h
  | v :: r, p, L, h => by
    have e : p.hears node (v :: r) = (p.hear node v).hears node r := rfl
    have e2 : atS s (v :: r) = atS s [v] ++ atS s r := by rw [← atS_app]; rfl
    rw [e, e2, ← List.append_assoc]
    exact TI.hears node r (h.hear node v)
theorem TI.prom {p : Pp} {s : Nat} {L : List Vt} (h : TI p s L) (m : Nat) : TI { p with prom := m } s L := h
/-- What a promise does: nothing; or the node's votes are heard. -/
theorem Pp.promise_does {p : Pp} (hr : p.q.right = 0) (x : Int) (l : List Vt) (s : Nat) (L : List Vt) (h : TI p s L) :
    (((p.promise x l).1 ≠ 0 ∨ ((p.promise x l).1 = 0 ∧ ∃ nd : Nat, x = (nd : Int) ∧ nd < p.q.n ∧ p.prom.testBit nd = true)) ∧ (p.promise x l).2 = p) ∨
      ((p.promise x l).1 = 0 ∧ (∃ nd : Nat, x = (nd : Int) ∧ nd < p.q.n ∧ p.prom.testBit nd = false ∧ (p.promise x l).2.prom = p.prom ||| 2 ^ nd) ∧ TI (p.promise x l).2 s (L ++ atS s l)) := by
  unfold Pp.promise
  split
  · exact .inl ⟨.inl (by simp), rfl⟩
  rename_i hi
  split
  · exact .inl ⟨.inl (by simp), rfl⟩
  split
  · rename_i hb
    have hn := (Pp.isNode_iff hr x).1 (by simpa using hi)
    exact .inl ⟨.inr ⟨rfl, x.toNat, by omega, hn.2, hb⟩, rfl⟩
  · rename_i hb
    have hn := (Pp.isNode_iff hr x).1 (by simpa using hi)
    refine .inr ⟨rfl, ⟨x.toNat, by omega, hn.2, by simpa using hb, ?_⟩, ?_⟩
    · rw [(Pp.hears_same x.toNat l _).2.2.2.1]
    · exact TI.hears x.toNat l (TI.prom h _)
theorem TI.new (q : Qm) (b : Bl) (f s : Nat) : TI (Pp.new q b f) s [] := rfl
theorem TI.must {p : Pp} {s : Nat} {L : List Vt} (h : TI p s L) : (p.must s).isSome = decide (0 < L.length) ∧ ∀ v, p.must s = some v → ∃ u ∈ L, u.val = v ∧ ∀ w ∈ L, Bl.less u.bal w.bal = false := by
  unfold TI at h
  unfold Pp.must
  cases hg : getK p.told s with
  | none =>
    rw [hg] at h
    dsimp only at h
    subst h
    exact ⟨rfl, fun v hv => by cases hv⟩
  | some t =>
    rw [hg] at h
    dsimp only at h
    obtain ⟨⟨u, hu, hv, hb⟩, hall⟩ := h
    have : 0 < L.length := List.length_pos_of_mem hu
    refine ⟨by simpa using this, fun v hv' => ?_⟩
    have hv' : t.val = v := by simpa using hv'
    exact ⟨u, hu, hv.trans hv', fun w hw => by rw [hb]; exact hall w hw⟩
/-- Is one of the votes the one that is told: vote by vote, as it is counted. -/
def bestAt (L : List Vt) (v : List UInt8) (i j : Nat) : Bool := (L[i]?.map (·.val) == some v) && (List.range j).all fun k => match L[i]?, L[k]? with
  | some a, some b => !Bl.less a.bal b.bal
  | _, _ => true
def foundAt (L : List Vt) (v : List UInt8) (has : Bool) (i : Nat) : Bool := !has || (List.range i).any fun k => bestAt L v k L.length
theorem bestAt_zero (L : List Vt) (v : List UInt8) (i : Nat) (hi : i < L.length) : bestAt L v i 0 = (L[i].val == v) := by
  unfold bestAt
  rw [List.getElem?_eq_getElem hi]
  simp
theorem bestAt_succ (L : List Vt) (v : List UInt8) (i j : Nat) (hi : i < L.length) (hj : j < L.length) : bestAt L v i (j + 1) = (bestAt L v i j && !Bl.less L[i].bal L[j].bal) := by
  unfold bestAt
  rw [List.range_succ, List.all_append, List.getElem?_eq_getElem hi]
  simp only [List.all_cons, List.all_nil, Bool.and_true]
  rw [List.getElem?_eq_getElem hj]
  simp only [Bool.and_assoc]
theorem foundAt_succ (L : List Vt) (v : List UInt8) (has : Bool) (i : Nat) : foundAt L v has (i + 1) = (foundAt L v has i || bestAt L v i L.length) := by
  unfold foundAt
  rw [List.range_succ, List.any_append]
  simp only [List.any_cons, List.any_nil, Bool.or_false, Bool.or_assoc]
theorem found_all {p : Pp} {s : Nat} {L : List Vt} (h : TI p s L) : foundAt L ((p.must s).getD []) (p.must s).isSome L.length = true := by
  obtain ⟨h1, h2⟩ := h.must
  unfold foundAt
  cases hm : p.must s with
  | none => rfl
  | some v =>
    obtain ⟨u, hu, hv, hall⟩ := h2 v hm
    obtain ⟨i, hi, rfl⟩ := List.mem_iff_getElem.1 hu
    simp only [Option.isSome_some, Bool.not_true, Bool.false_or, Option.getD_some]
    rw [List.any_eq_true]
    refine ⟨i, List.mem_range.2 hi, ?_⟩
    unfold bestAt
    rw [List.getElem?_eq_getElem hi, Bool.and_eq_true]
    refine ⟨by simp [hv], ?_⟩
    rw [List.all_eq_true]
    intro k hk
    have hk := List.mem_range.1 hk
    rw [List.getElem?_eq_getElem hk]
    dsimp only
    rw [hall _ (List.getElem_mem hk)]
    rfl
end Go.Proofs.Ythkkkldkpdkabaa
