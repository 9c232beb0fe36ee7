/- Layer 13, plain: bytes are read as a table. -/
import Derived.Test.YtgippbbbfpkhhaaOnS
namespace Go.Proofs.Ytgippbbbfpkhhaa
open Go.RowKit

/-- One client of what is left: it, whether it may be, what is left then. -/
def decCl (rem : List UInt8) (err : Nat) : Cl × Bool × List UInt8 × Nat :=
  let u := nextU rem err
  let v := nextU u.2.1 u.2.2
  let x := nextU v.2.1 v.2.2
  if x.1 = 0 then (⟨u.1, v.1, false, (nextB x.2.1 x.2.2 200).1⟩, decide (0 < v.1), (nextB x.2.1 x.2.2 200).2.1, (nextB x.2.1 x.2.2 200).2.2)
  else if x.1 = 1 then (⟨u.1, v.1, true, []⟩, decide (0 < v.1), x.2.1, x.2.2)
  else (Cl.none, false, x.2.1, x.2.2)
def loadN (rem : List UInt8) (err : Nat) (row : List Cl) : Nat → Option (List Cl × List UInt8 × Nat)
  | 0 => some (row, rem, err)
  | k + 1 => if (decCl rem err).2.1 = false ∨ (findC (decCl rem err).1.id row).isSome = true then none else loadN (decCl rem err).2.2.1 (decCl rem err).2.2.2 (row ++ [(decCl rem err).1]) k
def loadT (b : List UInt8) : Option Tb :=
  if 64 < (nextU b 0).1 ∨ (nextU b 0).1 < (nextU (nextU b 0).2.1 (nextU b 0).2.2).1 then none
  else if (nextU b 0).1 < 1 then none
  else match loadN (nextU (nextU b 0).2.1 (nextU b 0).2.2).2.1 (nextU (nextU b 0).2.1 (nextU b 0).2.2).2.2 [] (nextU (nextU b 0).2.1 (nextU b 0).2.2).1 with
    | none => none
    | some (row, r, e) => if e ≠ 0 ∨ 0 < r.length then none else some ⟨(nextU b 0).1, row, 0, 0⟩
theorem nextB_err0 {rem : List UInt8} {err : Nat} {most : Int} (h : (nextB rem err most).2.2 = 0) : err = 0 := by
  by_cases h0 : err = 0
  · exact h0
  · rw [nextB_err rem err most h0] at h; exact h
theorem nextU_err0 {rem : List UInt8} {err : Nat} (h : (nextU rem err).2.2 = 0) : err = 0 := by
  by_cases h0 : err = 0
  · exact h0
  · rw [nextU_err rem err h0] at h; exact h
theorem decCl_fwd (c : Cl) (rest : List UInt8) (h : c.Ok) : decCl (encCl c ++ rest) 0 = (c, true, rest, 0) := by
  obtain ⟨id, num, busy, rep⟩ := c
  have hi : id < 18446744073709551616 := h.id
  have hn : 0 < num ∧ num < 18446744073709551616 := h.num
  have hr : rep.length ≤ 200 := h.rep
  unfold encCl
  dsimp only
  cases busy with
  | true =>
    have hb : rep = [] := h.busy rfl
    subst hb
    rw [if_pos rfl, ← uvarint_one, List.append_assoc, List.append_assoc]
    unfold decCl
    simp only [nextU_put _ _ hi, nextU_put _ _ hn.2, nextU_put 1 rest (by decide)]
    simp [hn.1]
  | false =>
    rw [if_neg (by decide)]
    have e0 : (0 : UInt8) :: putB rep = Lib.uvarint 0 ++ putB rep := by rw [uvarint_zero]; rfl
    rw [e0, List.append_assoc, List.append_assoc, List.append_assoc]
    unfold decCl
    simp only [nextU_put _ _ hi, nextU_put _ _ hn.2, nextU_put 0 _ (by decide), nextB_put rep rest 200 (by omega) (by omega)]
    simp [hn.1]
theorem nextU_lt' (rem : List UInt8) (err : Nat) : (nextU rem err).1 < 18446744073709551616 := by
  by_cases h : err = 0
  · subst h; exact nextU_lt rem
  · rw [nextU_err rem err h]; exact (by decide : (0 : Nat) < 18446744073709551616)
theorem nextU_rest (rem : List UInt8) (err : Nat) : (nextU rem err).2.1.length ≤ rem.length := by
  unfold nextU
  split
  · exact Nat.le_refl _
  split
  · simp
  · simp only [List.length_drop]; omega
theorem nextB_rest (rem : List UInt8) (err : Nat) (m : Int) : (nextB rem err m).2.1.length ≤ rem.length := by
  unfold nextB
  split
  · exact Nat.le_refl _
  split
  · simp
  · simp only [List.length_drop]; omega
theorem decCl_ok (rem : List UInt8) (err : Nat) (h : (decCl rem err).2.1 = true) : (decCl rem err).1.Ok := by
  unfold decCl at h ⊢
  dsimp only at h ⊢
  have h1 := nextU_lt' rem err
  have h2 := nextU_lt' (nextU rem err).2.1 (nextU rem err).2.2
  generalize nextU rem err = u at *
  generalize nextU u.2.1 u.2.2 = v at *
  generalize nextU v.2.1 v.2.2 = x at *
  have h3 := nextB_len x.2.1 x.2.2 200 (by decide)
  generalize nextB x.2.1 x.2.2 200 = y at *
  by_cases hx : x.1 = 0
  · rw [if_pos hx] at h ⊢
    exact ⟨h1, ⟨by simpa using h, h2⟩, by show y.1.length ≤ 200; omega, fun e => by cases e⟩
  · rw [if_neg hx] at h ⊢
    by_cases hy : x.1 = 1
    · rw [if_pos hy] at h ⊢
      exact ⟨h1, ⟨by simpa using h, h2⟩, by show ([] : List UInt8).length ≤ 200; simp, fun _ => rfl⟩
    · rw [if_neg hy] at h
      cases h
theorem decCl_rest (rem : List UInt8) (err : Nat) : (decCl rem err).2.2.1.length ≤ rem.length := by
  have h1 := nextU_rest rem err
  have h2 := nextU_rest (nextU rem err).2.1 (nextU rem err).2.2
  have h3 := nextU_rest (nextU (nextU rem err).2.1 (nextU rem err).2.2).2.1 (nextU (nextU rem err).2.1 (nextU rem err).2.2).2.2
  unfold decCl
  dsimp only
  generalize nextU rem err = u at *
  generalize nextU u.2.1 u.2.2 = v at *
  generalize nextU v.2.1 v.2.2 = x at *
  have h4 := nextB_rest x.2.1 x.2.2 200
  generalize nextB x.2.1 x.2.2 200 = y at *
  by_cases hx : x.1 = 0
  · rw [if_pos hx]; show y.2.1.length ≤ _; omega
  · rw [if_neg hx]
    by_cases hy : x.1 = 1
    · rw [if_pos hy]; show x.2.1.length ≤ _; omega
    · rw [if_neg hy]; show x.2.1.length ≤ _; omega
theorem triple {α β γ : Type} (u : α × β × γ) (c : γ) (h : u.2.2 = c) : u = (u.1, u.2.1, c) := by obtain ⟨a, b, c'⟩ := u; rw [← h]
theorem decCl_inv (rem : List UInt8) (err : Nat) (h : (decCl rem err).2.1 = true) (he : (decCl rem err).2.2.2 = 0) : err = 0 ∧ rem = encCl (decCl rem err).1 ++ (decCl rem err).2.2.1 := by
  unfold decCl at h he ⊢
  dsimp only at h he ⊢
  have key : (nextU (nextU (nextU rem err).2.1 (nextU rem err).2.2).2.1 (nextU (nextU rem err).2.1 (nextU rem err).2.2).2.2).2.2 = 0 →
      err = 0 ∧ rem = Lib.uvarint (nextU rem err).1 ++ (Lib.uvarint (nextU (nextU rem err).2.1 (nextU rem err).2.2).1 ++ (Lib.uvarint (nextU (nextU (nextU rem err).2.1 (nextU rem err).2.2).2.1 (nextU (nextU rem err).2.1 (nextU rem err).2.2).2.2).1 ++ (nextU (nextU (nextU rem err).2.1 (nextU rem err).2.2).2.1 (nextU (nextU rem err).2.1 (nextU rem err).2.2).2.2).2.1)) := fun k3 => by
    have k2 := nextU_err0 k3
    have k1 := nextU_err0 k2
    have k0 := nextU_err0 k1
    subst k0
    refine ⟨rfl, ?_⟩
    have e1 := (nextU_inv (triple _ 0 k1)).1
    rw [k1] at k2 k3 ⊢
    have e2 := (nextU_inv (triple _ 0 k2)).1
    rw [k2] at k3 ⊢
    have e3 := (nextU_inv (triple _ 0 k3)).1
    rw [← e3, ← e2, ← e1]
  generalize nextU rem err = u at *
  generalize nextU u.2.1 u.2.2 = v at *
  generalize nextU v.2.1 v.2.2 = x at *
  by_cases hx : x.1 = 0
  · rw [if_pos hx] at h he ⊢
    have he : (nextB x.2.1 x.2.2 200).2.2 = 0 := he
    have k := nextB_err0 he
    obtain ⟨k1, k2⟩ := key k
    rw [k] at he
    have e4 := (nextB_inv (triple _ 0 he)).1
    refine ⟨k1, k2.trans ?_⟩
    unfold encCl
    dsimp only
    rw [if_neg (by decide), hx, uvarint_zero, k]
    conv => lhs; rw [e4]
    simp
  · rw [if_neg hx] at h he ⊢
    by_cases hy : x.1 = 1
    · rw [if_pos hy] at h he ⊢
      obtain ⟨k1, k2⟩ := key he
      refine ⟨k1, k2.trans ?_⟩
      unfold encCl
      dsimp only
      rw [if_pos rfl, hy, uvarint_one]
      simp
    · rw [if_neg hy] at h
      cases h
theorem loadN_fwd : ∀ (l row : List Cl) (rest : List UInt8), ((row ++ l).map (·.id)).Nodup → (∀ c ∈ l, c.Ok) → loadN (bodyT l ++ rest) 0 row l.length = some (row ++ l, rest, 0)
  | [], row, rest, _, _ => by simp [loadN, bodyT]
  | c :: l, row, rest, hn, ho => by
    have h1 : bodyT (c :: l) ++ rest = encCl c ++ (bodyT l ++ rest) := by unfold bodyT; rw [List.flatMap_cons, List.append_assoc]
    rw [h1]
    have hd := decCl_fwd c (bodyT l ++ rest) (ho c (List.mem_cons_self ..))
    have hno : ∀ x ∈ row, x.id ≠ c.id := fun x hx e => by
      rw [List.map_append, List.nodup_append] at hn
      exact hn.2.2 x.id (List.mem_map_of_mem hx) c.id (by simp) e
    have hf : findC c.id row = none := by
      unfold findC
      rw [List.findIdx?_eq_none_iff]
      intro x hx
      simpa using hno x hx
    show loadN (encCl c ++ (bodyT l ++ rest)) 0 row (l.length + 1) = _
    unfold loadN
    rw [hd]
    dsimp only
    rw [hf, if_neg (by simp)]
    have := loadN_fwd l (row ++ [c]) rest (by simpa using hn) fun x hx => ho x (List.mem_cons_of_mem _ hx)
    rw [this]
    simp
theorem loadN_inv : ∀ (k : Nat) (rem : List UInt8) (err : Nat) (row row' : List Cl) (r : List UInt8), loadN rem err row k = some (row', r, 0) → err = 0 ∧ ∃ l, row' = row ++ l ∧ l.length = k ∧ rem = bodyT l ++ r ∧ (∀ c ∈ l, c.Ok) ∧ ((row.map (·.id)).Nodup → (row'.map (·.id)).Nodup)
  | 0, rem, err, row, row', r, h => by
    simp only [loadN, Option.some.injEq, Prod.mk.injEq] at h
    obtain ⟨h1, h2, h3⟩ := h
    exact ⟨h3, [], by rw [← h1]; simp, rfl, by rw [h2]; simp [bodyT], fun c hc => by simp at hc, fun hn => h1 ▸ hn⟩
  | k + 1, rem, err, row, row', r, h => by
    unfold loadN at h
    split at h
    · cases h
    · rename_i hg
      have hg1 : (decCl rem err).2.1 = true := by
        cases hb : (decCl rem err).2.1 with
        | true => rfl
        | false => exact absurd (.inl hb) hg
      have hg2 : findC (decCl rem err).1.id row = none := by
        cases hb : findC (decCl rem err).1.id row with
        | none => rfl
        | some k => exact absurd (.inr (by rw [hb]; rfl)) hg
      obtain ⟨he, l, h1, h2, h3, h4, h5⟩ := loadN_inv k _ _ _ _ _ h
      obtain ⟨he0, hrem⟩ := decCl_inv rem err hg1 he
      have hok := decCl_ok rem err hg1
      refine ⟨he0, (decCl rem err).1 :: l, by rw [h1]; simp, by simp [h2], ?_, fun c hc => ?_, fun hn => h5 (push_nodup hn (findC_none hg2))⟩
      · unfold bodyT
        rw [List.flatMap_cons, List.append_assoc]
        show rem = encCl _ ++ (bodyT l ++ r)
        rw [← h3]
        exact hrem
      · rcases List.mem_cons.1 hc with rfl | hc
        · exact hok
        · exact h4 c hc
theorem loadT_enc (t : Tb) (h : t.Ok) : loadT (encT t) = some ⟨t.most, t.row, 0, 0⟩ := by
  have hm := h.most
  have hl := h.len
  have e1 : nextU (encT t) 0 = (t.most, Lib.uvarint t.row.length ++ bodyT t.row, 0) := by
    unfold encT
    rw [List.append_assoc]
    exact nextU_put _ _ (by omega)
  have e2 : nextU (Lib.uvarint t.row.length ++ bodyT t.row) 0 = (t.row.length, bodyT t.row, 0) := nextU_put _ _ (by omega)
  have e3 := loadN_fwd t.row [] [] (by simpa using h.ids) h.each
  rw [List.append_nil] at e3
  unfold loadT
  rw [e1]
  dsimp only
  rw [e2]
  dsimp only
  rw [if_neg (by omega), if_neg (by omega), e3]
  simp
theorem loadT_inv {b : List UInt8} {t : Tb} (h : loadT b = some t) : encT t = b ∧ t.Ok ∧ t.nb = 0 ∧ t.na = 0 := by
  unfold loadT at h
  split at h
  · cases h
  · rename_i h1
    split at h
    · cases h
    · rename_i h2
      split at h
      · cases h
      · rename_i row r e hL
        split at h
        · cases h
        · rename_i h3
          injection h with h
          subst h
          have he : e = 0 := by
            by_cases h0 : e = 0
            · exact h0
            · exact absurd (.inl h0) h3
          subst he
          have hr : r = [] := by
            cases r with
            | nil => rfl
            | cons x y => exact absurd (.inr (by simp)) h3
          subst hr
          obtain ⟨k2, l, l1, l2, l3, l4, l5⟩ := loadN_inv _ _ _ _ _ _ hL
          rw [List.nil_append] at l1
          subst l1
          have k1 := nextU_err0 k2
          have e1 := (nextU_inv (triple _ 0 k1)).1
          rw [k1] at k2 l2 l3
          have e2 := (nextU_inv (triple _ 0 k2)).1
          refine ⟨?_, ⟨⟨by show 1 ≤ (nextU b 0).1; omega, by show (nextU b 0).1 ≤ 64; omega⟩, ?_, l5 List.nodup_nil, l4, ⟨by show (_ : Int) ≤ 0; decide, by show (0 : Int) ≤ _; decide⟩, ⟨by show (_ : Int) ≤ 0; decide, by show (0 : Int) ≤ _; decide⟩⟩, rfl, rfl⟩
          · unfold encT
            dsimp only
            rw [l2, List.append_assoc]
            rw [List.append_nil] at l3
            rw [← l3, ← e2, ← e1]
          · show row.length ≤ (nextU b 0).1
            rw [l2]
            rw [k1] at h1
            omega
end Go.Proofs.Ytgippbbbfpkhhaa
