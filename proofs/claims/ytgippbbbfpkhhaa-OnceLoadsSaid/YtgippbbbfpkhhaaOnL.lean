/- Layer 13, plain: bytes are read as a table. -/
import Derived.Test.YtgippbbbfpkhhaaOnS
namespace Go.Proofs.Ytgippbbbfpkhhaa
open Go.RowKit

/-- One client of what is left: it, whether it may be, what is left then. -/
def decCl (rem : List UInt8) (err : Nat) : Cl × Bool × List UInt8 × Nat :=
  let u := nextU rem err
  let v := nextU u.2.1 u.2.2
  let x := nextU v.2.1 v.2.2
  if x.1 = 0 then (⟨u.1, v.1, false, (nextB x.2.1 x.2.2 200).1⟩, decide (0 < v.1), (nextB x.2.1 x.2.2 200).2.1, (nextB x.2.1 x.2.2 200).2.2)
  else if x.1 = 1 then (⟨u.1, v.1, true, []⟩, decide (0 < v.1), x.2.1, x.2.2)
  else (Cl.none, false, x.2.1, x.2.2)
def loadN (rem : List UInt8) (err : Nat) (row : List Cl) : Nat → Option (List Cl × List UInt8 × Nat)
  | 0 => some (row, rem, err)
  | k + 1 => if (decCl rem err).2.1 = false ∨ (findC (decCl rem err).1.id row).isSome = true then none else loadN (decCl rem err).2.2.1 (decCl rem err).2.2.2 (row ++ [(decCl rem err).1]) k
def loadT (b : List UInt8) : Option Tb :=
  if 64 < (nextU b 0).1 ∨ (nextU b 0).1 < (nextU (nextU b 0).2.1 (nextU b 0).2.2).1 then none
  else if (nextU b 0).1 < 1 then none
  else match loadN (nextU (nextU b 0).2.1 (nextU b 0).2.2).2.1 (nextU (nextU b 0).2.1 (nextU b 0).2.2).2.2 [] (nextU (nextU b 0).2.1 (nextU b 0).2.2).1 with
    | none => none
    | some (row, r, e) => if e ≠ 0 ∨ 0 < r.length then none else some ⟨(nextU b 0).1, row, 0, 0⟩
theorem nextB_err0 {rem : List UInt8} {err : Nat} {most : Int} (h : (nextB rem err most).2.2 = 0) : err = 0 := by
  by_cases h0 : err = 0
  · exact h0
  · rw [nextB_err rem err most h0] at h; exact h
theorem nextU_err0 {rem : List UInt8} {err : Nat} (h : (nextU rem err).2.2 = 0) : err = 0 := by
  by_cases h0 : err = 0
  · exact h0
  · rw [nextU_err rem err h0] at h; exact h
theorem decCl_fwd (c : Cl) (rest : List UInt8) (h : c.Ok) : decCl (encCl c ++ rest) 0 = (c, true, rest, 0) := by
  obtain ⟨id, num, busy, rep⟩ := c
  have hi : id < 18446744073709551616 := h.id
  have hn : 0 < num ∧ num < 18446744073709551616 := h.num
  have hr : rep.length ≤ 200 := h.rep
  unfold encCl
  dsimp only
  cases busy with
  | true =>
    have hb : rep = [] := h.busy rfl
    subst hb
    rw [if_pos rfl, ← uvarint_one, List.append_assoc, List.append_assoc]
    unfold decCl
    simp only [nextU_put _ _ hi, nextU_put _ _ hn.2, nextU_put 1 rest (by decide)]
    simp [hn.1]
  | false =>
    rw [if_neg (by decide)]
    have e0 : (0 : UInt8) :: putB rep = Lib.uvarint 0 ++ putB rep := by rw [uvarint_zero]; rfl
    rw [e0, List.append_assoc, List.append_assoc, List.append_assoc]
    unfold decCl
    simp only [nextU_put _ _ hi, nextU_put _ _ hn.2, nextU_put 0 _ (by decide), nextB_put rep rest 200 (by omega) (by omega)]
    simp [hn.1]
theorem nextU_lt' (rem : List UInt8) (err : Nat) : (nextU rem err).1 < 18446744073709551616 := by
  by_cases h : err = 0
  · subst h; exact nextU_lt rem
  · rw [nextU_err rem err h]; exact (by decide : (0 : Nat) < 18446744073709551616)
theorem nextU_rest (rem : List UInt8) (err : Nat) : (nextU rem err).2.1.length ≤ rem.length := by
  unfold nextU
  split
  · exact Nat.le_refl _
  split
  · simp
  · simp only [List.length_drop]; omega
theorem nextB_rest (rem : List UInt8) (err : Nat) (m : Int) : (nextB rem err m).2.1.length ≤ rem.length := by
  unfold nextB
  split
  · exact Nat.le_refl _
  split
  · simp
  · simp only [List.length_drop]; omega
theorem decCl_ok (rem : List UInt8) (err : Nat) (h : (decCl rem err).2.1 = true) : (decCl rem err).1.Ok := by
  unfold decCl at h ⊢
  dsimp only at h ⊢
  have h1 := nextU_lt' rem err
  have h2 := nextU_lt' (nextU rem err).2.1 (nextU rem err).2.2
  generalize nextU rem err = u at *
  generalize nextU u.2.1 u.2.2 = v at *
  generalize nextU v.2.1 v.2.2 = x at *
  have h3 := nextB_len x.2.1 x.2.2 200 (by decide)
  generalize nextB x.2.1 x.2.2 200 = y at *
  by_cases hx : x.1 = 0
  · rw [if_pos hx] at h ⊢
    exact ⟨h1, ⟨by simpa using h, h2⟩, by show y.1.length ≤ 200; omega, fun e => by cases e⟩
  · rw [if_neg hx] at h ⊢
    by_cases hy : x.1 = 1
    · rw [if_pos hy] at h ⊢
      exact ⟨h1, ⟨by simpa using h, h2⟩, by show ([] : List UInt8).length ≤ 200; simp, fun _ => rfl⟩
    · rw [if_neg hy] at h
      cases h
theorem decCl_rest (rem : List UInt8) (err : Nat) : (decCl rem err).2.2.1.length ≤ rem.length := by
  have h1 := nextU_rest rem err
  have h2 := nextU_rest (nextU rem err).2.1 (nextU rem err).2.2
  have h3 := nextU_rest (nextU (nextU rem err).2.1 (nextU rem err).2.2).2.1 (nextU (nextU rem err).2.1 (nextU rem err).2.2).2.2
  unfold decCl
  dsimp only
  generalize nextU rem err = u at *
  generalize nextU u.2.1 u.2.2 = v at *
  generalize nextU v.2.1 v.2.2 = x at *
  have h4 := nextB_rest x.2.1 x.2.2 200
  generalize nextB x.2.1 x.2.2 200 = y at *
  by_cases hx : x.1 = 0
  · rw [if_pos hx]; show y.2.1.length ≤ _; omega
  · rw [if_neg hx]
    by_cases hy : x.1 = 1
    · rw [if_pos hy]; show x.2.1.length ≤ _; omega
    · rw [if_neg hy]; show x.2.1.length ≤ _; omega
theorem triple {α β γ : Type} (u : α × β × γ) (c : γ) (h : u.2.2 = c) : u = (u.1, u.2.1, c) := by obtain ⟨a, b, c'⟩ := u; rw [← h]
theorem decCl_inv (rem : List UInt8) (err : Nat) (h : (decCl rem err).2.1 = true) (he : (decCl rem err).2.2.2 = 0) : err = 0 ∧ rem = encCl (decCl rem err).1 ++ (decCl rem err).2.2.1 := by
  unfold decCl at h he ⊢
  dsimp only at h he ⊢
  have key : (nextU (nextU (nextU rem err).2.1 (nextU rem err).2.2).2.1 (nextU (nextU rem err).2.1 (nextU rem err).2.2).2.2).2.2 = 0 →
      err = 0 ∧ rem = Lib.uvarint (nextU rem err).1 ++ (Lib.uvarint (nextU (nextU rem err).2.1 (nextU rem err).2.2).1 ++ (Lib.uvarint (nextU (nextU (nextU rem err).2.1 (nextU rem err).2.2).2.1 (nextU (nextU rem err).2.1 (nextU rem err).2.2).2.2).1 ++ (nextU (nextU (nextU rem err).2.1 (nextU rem err).2.2).2.1 (nextU (nextU rem err).2.1 (nextU rem err).2.2).2.2).2.1)) := fun k3 => by
    have k2 := nextU_err0 k3
    have k1 := nextU_err0 k2
    have k0 := nextU_err0 k1
    subst k0
    refine ⟨rfl, ?_⟩
    have e1 := (nextU_inv (triple _ 0 k1)).1
    rw [k1] at k2 k3 ⊢
    have e2 := (nextU_inv (triple _ 0 k2)).1
    rw [k2] at k3 ⊢
    have e3 := (nextU_inv (triple _ 0 k3)).1
    rw [← e3, ← e2, ← e1]
  generalize nextU rem err = u at *
  generalize nextU u.2.1 u.2.2 = v at *
  generalize nextU v.2.1 v.2.2 = x at *
  by_cases hx : x.1 = 0
  · rw [if_pos hx] at h he ⊢
    have he : (nextB x.2.1 x.2.2 200).2.2 = 0 := he
    have k := nextB_err0 he
    obtain ⟨k1, k2⟩ := key k
    rw [k] at he
    have e4 := (nextB_inv (triple _ 0 he)).1
    refine ⟨k1, k2.trans ?_⟩
    unfold encCl
    dsimp only
    rw [if_neg (by decide), hx, uvarint_zero, k]
    conv => lhs; rw [e4]
    simp
  · rw [if_neg hx] at h he ⊢
    by_cases hy : x.1 = 1
    · rw [if_pos hy] at h he ⊢
      obtain ⟨k1, k2⟩ := key he
      refine ⟨k1, k2.trans ?_⟩
      unfold encCl
      dsimp only
      rw [if_pos rfl, hy, uvarint_one]
      simp
    · rw [if_neg hy] at h
      cases h
theorem loadN_fwd : ∀ (l row : List Cl) (rest : List UInt8), ((row ++ l).map (·.id)).Nodup → (∀ c ∈ l, c.Ok) → loadN (bodyT l ++ rest) 0 row l.length = some (row ++ l, rest, 0)
  | [], row, rest, _, _ => by simp [loadN, bodyT]
  | c :: l, row, rest, hn, ho => by
    have h1 : bodyT (c :: l) ++ rest = encCl c ++ (bodyT l ++ rest) := by unfold bodyT; rw [List.flatMap_cons, List.append_assoc]
    rw [h1]
    have hd := decCl_fwd c (bodyT l ++ rest) (ho c (List.mem_cons_self ..))
    have hno : ∀ x ∈ row, x.id ≠ c.id := fun x hx e => by
      rw [List.map_append, List.nodup_append] at hn
      exact hn.2.2 x.id (List.mem_map_of_mem hx) c.id (by simp) e
    have hf : findC c.id row = none := by
      unfold findC
      rw [List.findIdx?_eq_none_iff]
      intro x hx
      simpa using hno x hx
    show loadN (encCl c ++ (bodyT l ++ rest)) 0 row (l.length + 1) = _
    unfold loadN
    rw [hd]
    dsimp only
    rw [hf, if_neg (by simp)]
    have := loadN_fwd l (row ++ [c]) rest (by simpa using hn) fun x hx => ho x (List.mem_cons_of_mem _ hx)
    rw [this]
    simp
theorem loadN_inv : ∀ (k : Nat) (rem : List UInt8) (err : Nat) (row row' : List Cl) (r : List UInt8), loadN rem err row k = some (row', r, 0) → err = 0 ∧ ∃ l, row' = row ++ l ∧ l.length = k ∧ rem = bodyT l ++ r ∧ (∀ c ∈ l, c.Ok) ∧ ((row.map (·.id)).Nodup → (row'.map (·.id)).Nodup)
  | 0, rem, err, row, row', r, h => by
    simp only [loadN, Option.some.injEq, Prod.mk.injEq] at h
    obtain ⟨h1, h2, h3⟩ := h
    exact ⟨h3, [], by rw [← h1]; simp, rfl, by rw [h2]; simp [bodyT], fun c hc => by simp at hc, fun hn => h1 ▸ hn⟩
  | k + 1, rem, err, row, row', r, h => by
    unfold loadN at h
    split at h
    · cases h
    · rename_i hg
      have hg1 : (decCl rem err).2.1 = true := by
        cases hb : (decCl rem err).2.1 with
        | true => rfl
        | false => exact absurd (.inl hb) hg
      have hg2 : findC (decCl rem err).1.id row = none := by
        cases hb : findC (decCl rem err).1.id row with
        | none => rfl
        | some k => exact absurd (.inr (by rw [hb]; rfl)) hg
      obtain ⟨he, l, h1, h2, h3, h4, h5⟩ := loadN_inv k _ _ _ _ _ h
      obtain ⟨he0, hrem⟩ := decCl_inv rem err hg1 he
      have hok := decCl_ok rem err hg1
      refine ⟨he0, (decCl rem err).1 :: l, by rw [h1]; simp, by simp [h2], ?_, fun c hc => ?_, fun hn => h5 (push_nodup hn (findC_none hg2))⟩
      · unfold bodyT
        rw [List.flatMap_cons, List.append_assoc]
        show rem = encCl _ ++ (bodyT l ++ r)
        rw [← h3]
        exact hrem
      · rcases List.mem_cons.1 hc with rfl | hc
        · exact hok
        · exact h4 c hc
theorem loadT_enc (t : Tb) (h : t.Ok) : loadT (encT t) = some ⟨t.most, t.row, 0, 0⟩ := by
  have hm := h.most
  have hl := h.len
  have e1 : nextU (encT t) 0 = (t.most, Lib.uvarint t.row.length ++ bodyT t.row, 0) := by
    unfold encT
    rw [List.append_assoc]
    exact nextU_put _ _ (by omega)
  have e2 : nextU (Lib.uvarint t.row.length ++ bodyT t.row) 0 = (t.row.length, bodyT t.row, 0) := nextU_put _ _ (by omega)
  have e3 := loadN_fwd t.row [] [] (by simpa using h.ids) h.each
  rw [List.append_nil] at e3
  unfold loadT
  rw [e1]
  dsimp only
  rw [e2]
  dsimp only
  rw [if_neg (by omega), if_neg (by omega), e3]
  simp
theorem loadT_inv {b : List UInt8} {t : Tb} (h : loadT b = some t) : encT t = b ∧ t.Ok ∧ t.nb = 0 ∧ t.na = 0 := by
  unfold loadT at h
  split at h
  · cases h
  · rename_i h1
    split at h
    · cases h
    · rename_i h2
      split at h
      · cases h
      · rename_i row r e hL
        split at h
        · cases h
        · rename_i h3
          injection h with h
          subst h
          have he : e = 0 := by
            by_cases h0 : e = 0
            · exact h0
            · exact absurd (.inl h0) h3
          subst he
          have hr : r = [] := by
            cases r with
            | nil => rfl
            | cons x y => exact absurd (.inr (by simp)) h3
          subst hr
          obtain ⟨k2, l, l1, l2, l3, l4, l5⟩ := loadN_inv _ _ _ _ _ _ hL
          rw [List.nil_append] at l1
          subst l1
          have k1 := nextU_err0 k2
          have e1 := (nextU_inv (triple _ 0 k1)).1
          rw [k1] at k2 l2 l3
          have e2 := (nextU_inv (triple _ 0 k2)).1
          refine ⟨?_, ⟨⟨by show 1 ≤ (nextU b 0).1; omega, by show (nextU b 0).1 ≤ 64; omega⟩, ?_, l5 List.nodup_nil, l4, ⟨by show (_ : Int) ≤ 0; decide, by show (0 : Int) ≤ _; decide⟩, ⟨by show (_ : Int) ≤ 0; decide, by show (0 : Int) ≤ _; decide⟩⟩, rfl, rfl⟩
          · unfold encT
            dsimp only
            rw [l2, List.append_assoc]
            rw [List.append_nil] at l3
            rw [← l3, ← e2, ← e1]
          · show row.length ≤ (nextU b 0).1
            rw [l2]
            rw [k1] at h1
            omega
end Go.Proofs.Ytgippbbbfpkhhaa

/- Layer 13, the program's loadClient. -/
namespace Go.Proofs.Ytgippbbbfpkhhaa
open Go.RowKit Go.Maps

set_option maxRecDepth 100000 in
theorem newR13 (A : Option Addr) (n c : Nat) (l : List UInt8) (w : World) (hn : n ≤ 140737488355328) (h : Rd w w.heap.size A n l) :
    Calls Try.prog 43 #[.slice A n c] w fun e w' => ∃ R, e = .returned (.pointer (some ⟨R, 0, none⟩)) ∧ Hid (w.heap.size ≤ R ∧ w'.heap.size = R + 1 ∧ (∃ A' n' c', BR w' R l 0 A' n' c') ∧ Below w.heap.size w w') := by
  have Hc := Lib.hid (cloneB_any A n c w.heap.size l w hn (Nat.le_refl _) h)
  have hl := h.1
  clear h
  go_enter Try.func43, Try.ntmps43
  go_wp2_with fail
  refine Hc.out.mono ?_
  rintro e w1 ⟨v, rfl, ho, hb⟩
  obtain ⟨As, cs, rfl, hcs, hcm⟩ := own_shape ho
  have Ho := Lib.hid ho
  have Hb := Lib.hid hb
  clear ho hb
  go_wp2
  go_ret
  have z := Hb.out.size
  have hb2 := below_then Hb.out (bel1N w1 (.cells #[.slice As n cs, .int .i64 0] 115))
  exact ⟨w1.heap.size, rfl, Lib.hid ⟨z, by simp, ⟨As, n, cs, Bk.new w1 _ _, ⟨hcs, by unfold maxLen at hcm; omega⟩, (Rd.of_own Ho.out).below (bel1N w1 _)⟩, hb2⟩⟩
theorem Kp.cutNew {F G : Nat → Prop} {w w' : World} (h : Kp F w w') (hF : ∀ k, F k → G k ∨ w.heap.size ≤ k) : Kp G w w' :=
  ⟨h.os, h.tape, h.output, h.size, fun k hk hg => h.block k hk fun hf => by
    rcases hF k hf with a | a
    · exact hg a
    · omega⟩
/-- The Reader is there. -/
def BRx (w : World) (R : Nat) (rem : List UInt8) (err : Nat) : Prop := ∃ A n c, BR w R rem err A n c
section
variable {w w' : World} {R err : Nat} {rem : List UInt8} {F : Nat → Prop}
theorem BRx.kp (h : BRx w R rem err) (hk : Kp F w w') (hF : ∀ k, F k → R < k) : BRx w' R rem err := by
  obtain ⟨A, n, c, h⟩ := h
  have hz := h.blk.lt
  exact ⟨A, n, c, h.blk.kp hk (fun hf => by have := hF R hf; omega), h.cap, h.rd.kp hk (by omega) fun k hk2 hf => by have := hF k hf; omega⟩
theorem BRx.below (h : BRx w R rem err) (hb : Below w.heap.size w w') : BRx w' R rem err := h.kp (F := fun _ => False) (Kp.of_below hb) fun _ h => h.elim
theorem BRx.lt (h : BRx w R rem err) : R < w.heap.size := by obtain ⟨A, n, c, h⟩ := h; exact h.blk.lt
theorem BRx.uint (h : BRx w R rem err) : Calls Try.prog 44 #[.pointer (some ⟨R, 0, none⟩)] w fun e w' => e = .returned (.int .u64 ((nextU rem err).1 : Int)) ∧ Hid (BRx w' R (nextU rem err).2.1 (nextU rem err).2.2 ∧ Kp (fun k => k = R) w w') := by
  obtain ⟨A, n, c, h⟩ := h
  refine (uint_meth R A n c err rem w h).mono ?_
  rintro e w' ⟨rfl, hb, hg⟩
  exact ⟨rfl, Lib.hid ⟨hb, Kp.of_grown hg rfl⟩⟩
theorem BRx.bytes (h : BRx w R rem err) (hn : rem.length ≤ 1000000) : Calls Try.prog 63 #[.pointer (some ⟨R, 0, none⟩), .int .i64 200] w fun e w' => ∃ A c, e = .returned (.slice A (nextB rem err 200).1.length c) ∧ Hid (w'.ownsRow w.heap.size 5 1 (.slice A (nextB rem err 200).1.length c) (nextB rem err 200).1.length (u8s (nextB rem err 200).1) ∧ BRx w' R (nextB rem err 200).2.1 (nextB rem err 200).2.2 ∧ Kp (fun k => k = R) w w') := by
  obtain ⟨A, n, c, h⟩ := h
  have hl := h.rd.1
  refine (bytes_meth R A n c err 200 rem w (by omega) (by decide) (by decide) h).mono ?_
  rintro e w' ⟨s, rfl, ho, hb, hg⟩
  obtain ⟨A', c', rfl, _⟩ := own_shape ho
  exact ⟨A', c', rfl, Lib.hid ⟨ho, hb, Kp.of_grown hg rfl⟩⟩
theorem st4C (w : World) (g : Nat) (a b c d : Value) : Kp (fun k => k = g) w ((((w.setCell ⟨g, 0, none⟩ a).setCell ⟨g, 1, none⟩ b).setCell ⟨g, 2, none⟩ c).setCell ⟨g, 3, none⟩ d) := Kp.sets (F := fun k => k = g) rfl [a, b, c, d] 0 w
def DecE (w : World) (R : Nat) (d : Cl × Bool × List UInt8 × Nat) (e : Ending) (w' : World) : Prop :=
  ∃ s, e = .returned (.tuple #[clV d.1 s, .bool d.2.1]) ∧ Hid (w'.ownsRow w.heap.size 5 1 (s3W s) d.1.rep.length (u8s d.1.rep) ∧ BRx w' R d.2.2.1 d.2.2.2 ∧ Kp (fun k => k = R) w w')
set_option maxRecDepth 100000 in
set_option maxHeartbeats 4000000 in
theorem loadC_any (h : BRx w R rem err) (hn : rem.length ≤ 1000000) : Calls Try.prog 45 #[.pointer (some ⟨R, 0, none⟩)] w (DecE w R (decCl rem err)) := by
  have hlR := h.lt
  obtain ⟨W1, hW1⟩ : ∃ W1, W1 = w.alloc (.cells #[.int .u64 0, .int .u64 0, .bool false, .slice none 0 0] 64) := ⟨_, rfl⟩
  have hb1 : Below w.heap.size w W1 := by rw [hW1]; exact bel1N _ _
  have hk1 : Bk W1 w.heap.size 64 #[.int .u64 0, .int .u64 0, .bool false, .slice none 0 0] := by rw [hW1]; exact Bk.new w _ _
  have hr1 := h.below hb1
  rcases hu : nextU rem err with ⟨id, r1, e1⟩
  rcases hv : nextU r1 e1 with ⟨num, r2, e2⟩
  rcases hx : nextU r2 e2 with ⟨x, r3, e3⟩
  have q1 := nextU_rest rem err
  have q2 := nextU_rest r1 e1
  have q3 := nextU_rest r2 e2
  rw [hu] at q1
  rw [hv] at q2
  rw [hx] at q3
  dsimp only at q1 q2 q3
  have HU1 := Lib.hid hr1.uint
  have HU2 : Hid (∀ W, BRx W R r1 e1 → Calls Try.prog 44 #[.pointer (some ⟨R, 0, none⟩)] W fun e w' => e = .returned (.int .u64 (num : Int)) ∧ Hid (BRx w' R r2 e2 ∧ Kp (fun k => k = R) W w')) := Lib.hid fun W hb => by have := hb.uint; rwa [hv] at this
  have HU3 : Hid (∀ W, BRx W R r2 e2 → Calls Try.prog 44 #[.pointer (some ⟨R, 0, none⟩)] W fun e w' => e = .returned (.int .u64 (x : Int)) ∧ Hid (BRx w' R r3 e3 ∧ Kp (fun k => k = R) W w')) := Lib.hid fun W hb => by have := hb.uint; rwa [hx] at this
  rw [hu] at HU1
  have HD : Hid (decCl rem err = if x = 0 then (⟨id, num, false, (nextB r3 e3 200).1⟩, decide (0 < num), (nextB r3 e3 200).2.1, (nextB r3 e3 200).2.2) else if x = 1 then (⟨id, num, true, []⟩, decide (0 < num), r3, e3) else (Cl.none, false, r3, e3)) := by
    show _ = _
    unfold decCl
    rw [hu]
    dsimp only
    rw [hv]
    dsimp only
    rw [hx]
  have HW1 := Lib.hid hW1
  have HK1 := Lib.hid (And.intro hk1 hb1)
  have HlR := Lib.hid hlR
  clear h hW1 hk1 hb1 hr1 hu hv hx hlR
  obtain ⟨d, hd⟩ : ∃ d, d = decCl rem err := ⟨_, rfl⟩
  rw [← hd] at HD ⊢
  clear hd
  go_enter Try.func45, Try.ntmps45
  go_upto_region 1 with (fail)
  rw [← HW1.out]
  go_wp2_with fail
  refine HU1.out.mono ?_
  clear HU1
  rintro e w2 ⟨rfl, HX2⟩
  have HC2 := Lib.hid (HU2.out w2 HX2.out.1)
  have HK2 := Lib.hid (And.intro (HK1.out.1.kp HX2.out.2 (by have := HlR.out; omega)) ((Kp.of_below HK1.out.2).trans HX2.out.2))
  clear HX2 HU2 HK1
  go_wp2_with fail
  refine HC2.out.mono ?_
  clear HC2
  rintro e w3 ⟨rfl, HX3⟩
  have HK3 := Lib.hid (And.intro (HK2.out.1.kp HX3.out.2 (by have := HlR.out; omega)) (HK2.out.2.trans HX3.out.2))
  obtain ⟨w4, hw4⟩ : ∃ w4, w4 = w3.alloc (.cells #[.int .u64 (id : Int), .int .u64 (num : Int), .bool false, .slice none 0 0] 64) := ⟨_, rfl⟩
  obtain ⟨cb, hcb⟩ : ∃ cb, cb = w3.heap.size := ⟨_, rfl⟩
  have hb4 : Below w3.heap.size w3 w4 := by rw [hw4]; exact bel1N _ _
  have hk4 : Bk w4 cb 64 #[.int .u64 (id : Int), .int .u64 (num : Int), .bool false, .slice none 0 0] := by rw [hw4, hcb]; exact Bk.new w3 _ _
  have hlt3 := HK3.out.1.lt
  have HC4 := Lib.hid (HU3.out w4 (HX3.out.1.below hb4))
  have HK4 := Lib.hid (And.intro (HK3.out.1.below hb4 hlt3) (And.intro (HK3.out.2.trans (Kp.of_below hb4)) hk4))
  have Hcb : Hid (w.heap.size < cb ∧ R < cb) := Lib.hid (by have := HlR.out; omega)
  have HW4 := Lib.hid hw4
  have HCB := Lib.hid hcb
  clear HX3 HU3 HK2 HK3 hb4 hk4 hw4 hcb hlt3
  go_upto_region 2 with (fail)
  rw [← HW4.out]
  try rw [← HCB.out]
  go_wp2_with fail
  refine HC4.out.mono ?_
  clear HC4
  rintro e w5 ⟨rfl, HX5⟩
  have HK5 := Lib.hid (And.intro (HK4.out.1.kp HX5.out.2 (by have := HlR.out; omega)) (And.intro (HK4.out.2.1.trans HX5.out.2) (HK4.out.2.2.kp HX5.out.2 (by have := Hcb.out; omega))))
  have HB5 := Lib.hid HX5.out.1
  clear HX5 HK4 HW4 HCB HW1
  by_cases hx0 : x = 0
  · subst hx0
    have HBy := Lib.hid (HB5.out.bytes (by omega))
    rcases hy : nextB r3 e3 200 with ⟨rep, r4, e4⟩
    rw [hy] at HBy
    dsimp only at HBy
    have hD := HD.out
    rw [if_pos rfl, hy] at hD
    dsimp only at hD
    clear HB5 HD hy
    subst hD
    go_wp2_with fail
    refine HBy.out.mono ?_
    clear HBy
    rintro e w6 ⟨A6, c6, rfl, HX6⟩
    have HK6 := Lib.hid (And.intro (HK5.out.1.kp HX6.out.2.2 (by have := HlR.out; omega)) (And.intro (HK5.out.2.1.trans HX6.out.2.2) (HK5.out.2.2.kp HX6.out.2.2 (by have := Hcb.out; omega))))
    have y3 : w6.cell? ⟨cb, 3, none⟩ = some (.slice none 0 0) := HK6.out.2.2.cell 3
    have yf := HK6.out.2.2.frozen 3
    obtain ⟨wc, hwc⟩ : ∃ wc, wc = w6.setCell ⟨cb, 3, none⟩ (.slice A6 rep.length c6) := ⟨_, rfl⟩
    have hkc : Kp (fun k => k = cb) w6 wc := by rw [hwc]; exact Kp.set_ (F := fun k => k = cb) (p := ⟨cb, 3, none⟩) rfl _
    have HKc : Hid (Bk wc w.heap.size 64 #[.int .u64 0, .int .u64 0, .bool false, .slice none 0 0] ∧ Kp (fun k => k = R ∨ k = cb) w wc ∧ Bk wc cb 64 #[.int .u64 (id : Int), .int .u64 (num : Int), .bool false, .slice A6 rep.length c6]) := Lib.hid
      ⟨HK6.out.1.kp hkc (by have := Hcb.out; omega), (HK6.out.2.1.mono fun k e => .inl e).trans (hkc.mono fun k e => .inr e), by rw [hwc]; exact HK6.out.2.2.set_ 3 _⟩
    have HO : Hid (wc.ownsRow w.heap.size 5 1 (.slice A6 rep.length c6) rep.length (u8s rep) ∧ BRx wc R r4 e4) := Lib.hid
      ⟨own_mono (own_kp HX6.out.1 hkc (fun k e e2 => own_not_bkC HK6.out.2.2 HX6.out.1 (by decide) k e e2)) (by have := HK5.out.2.1.size; exact this), HX6.out.2.1.kp hkc fun k e => by have := Hcb.out; omega⟩
    have HWc := Lib.hid hwc
    clear HX6 HK5 HK6 hkc hwc
    go_upto_region 8 with (fail)
    rw [← HWc.out]
    clear y3 yf HWc
    have hbc := HKc.out.2.2
    have c0 : wc.cell? ⟨cb, 0, none⟩ = some (.int .u64 (id : Int)) := hbc.cell 0
    have c1 : wc.cell? ⟨cb, 1, none⟩ = some (.int .u64 (num : Int)) := hbc.cell 1
    have c2 : wc.cell? ⟨cb, 2, none⟩ = some (.bool false) := hbc.cell 2
    have c3 : wc.cell? ⟨cb, 3, none⟩ = some (.slice A6 rep.length c6) := hbc.cell 3
    have hbr := HKc.out.1
    have b0 : wc.cell? ⟨w.heap.size, 0, none⟩ = some (.int .u64 0) := hbr.cell 0
    have b1 : wc.cell? ⟨w.heap.size, 1, none⟩ = some (.int .u64 0) := hbr.cell 1
    have b2 : wc.cell? ⟨w.heap.size, 2, none⟩ = some (.bool false) := hbr.cell 2
    have b3 : wc.cell? ⟨w.heap.size, 3, none⟩ = some (.slice none 0 0) := hbr.cell 3
    have f0 := hbr.frozen 0
    have f1 := hbr.frozen 1
    have f2 := hbr.frozen 2
    have f3 := hbr.frozen 3
    have hset : ((((wc.setCell ⟨w.heap.size, 0, none⟩ (.int .u64 (id : Int))).setCell ⟨w.heap.size, 1, none⟩ (.int .u64 (num : Int))).setCell ⟨w.heap.size, 2, none⟩ (.bool false)).setCell ⟨w.heap.size, 3, none⟩ (.slice A6 rep.length c6)).cell? ⟨cb, 1, none⟩ = some (.int .u64 (num : Int)) :=
      cell_kp (p := ⟨cb, 1, none⟩) c1 (st4C wc w.heap.size _ _ _ _) (by have := Hcb.out; show cb ≠ w.heap.size; omega)
    have HF : Hid (∀ W2, W2 = ((((wc.setCell ⟨w.heap.size, 0, none⟩ (.int .u64 (id : Int))).setCell ⟨w.heap.size, 1, none⟩ (.int .u64 (num : Int))).setCell ⟨w.heap.size, 2, none⟩ (.bool false)).setCell ⟨w.heap.size, 3, none⟩ (.slice A6 rep.length c6)).drew →
        W2.cell? ⟨w.heap.size, 0, none⟩ = some (.int .u64 (id : Int)) ∧ W2.cell? ⟨w.heap.size, 1, none⟩ = some (.int .u64 (num : Int)) ∧ W2.cell? ⟨w.heap.size, 2, none⟩ = some (.bool false) ∧ W2.cell? ⟨w.heap.size, 3, none⟩ = some (.slice A6 rep.length c6) ∧ Kp (fun k => k = w.heap.size) wc W2) := Lib.hid fun W2 e => by
      subst e
      have h4 := ((((hbr.set_ 0 (.int .u64 (id : Int))).set_ 1 (.int .u64 (num : Int))).set_ 2 (.bool false)).set_ 3 (.slice A6 rep.length c6)).kp (F := fun _ => False) (Kp.drew _ _) (fun h => h)
      exact ⟨h4.cell 0, h4.cell 1, h4.cell 2, h4.cell 3, (st4C wc w.heap.size _ _ _ _).trans (Kp.drew _ _)⟩
    go_wp2_with fail
    go_region
    all_goals
      obtain ⟨w8, hw8⟩ : ∃ w8, w8 = ((((wc.setCell ⟨w.heap.size, 0, none⟩ (.int .u64 (id : Int))).setCell ⟨w.heap.size, 1, none⟩ (.int .u64 (num : Int))).setCell ⟨w.heap.size, 2, none⟩ (.bool false)).setCell ⟨w.heap.size, 3, none⟩ (.slice A6 rep.length c6)).drew := ⟨_, rfl⟩
      obtain ⟨j0, j1, j2, j3, hk8⟩ := HF.out w8 hw8
      rw [← hw8]
      go_wp2_with fail
      clear hw8 c0 c1 c2 c3 b0 b1 b2 b3 f0 f1 f2 f3 hset hbc hbr HF
      refine bodyPost_ret (by simp [results, Try.results45, go_sem, j0, j1, j2, j3]; try rfl) rfl ?_
      refine ⟨(A6, rep.length, c6), rfl, Lib.hid ⟨own_kp HO.out.1 hk8 (fun k e e2 => ?_), HO.out.2.kp hk8 (fun k e => by have := HlR.out; omega), ?_⟩⟩
      · exact own_not_bkC HKc.out.1 HO.out.1 (by decide) k e e2
      · refine ((HKc.out.2.1.trans' hk8 fun k e => .inr (by omega)).cutNew fun k e => ?_)
        rcases e with e | e
        · exact .inl e
        · have := Hcb.out; exact .inr (by omega)
  · by_cases hx1 : x = 1
    · subst hx1
      have hD := HD.out
      rw [if_neg (by decide), if_pos rfl] at hD
      clear HD hx0
      subst hD
      have y2 : w5.cell? ⟨cb, 2, none⟩ = some (.bool false) := HK5.out.2.2.cell 2
      have yf := HK5.out.2.2.frozen 2
      obtain ⟨wc, hwc⟩ : ∃ wc, wc = w5.setCell ⟨cb, 2, none⟩ (.bool true) := ⟨_, rfl⟩
      have hkc : Kp (fun k => k = cb) w5 wc := by rw [hwc]; exact Kp.set_ (F := fun k => k = cb) (p := ⟨cb, 2, none⟩) rfl _
      have HKc : Hid (Bk wc w.heap.size 64 #[.int .u64 0, .int .u64 0, .bool false, .slice none 0 0] ∧ Kp (fun k => k = R ∨ k = cb) w wc ∧ Bk wc cb 64 #[.int .u64 (id : Int), .int .u64 (num : Int), .bool true, .slice none 0 0]) := Lib.hid
        ⟨HK5.out.1.kp hkc (by have := Hcb.out; omega), (HK5.out.2.1.mono fun k e => .inl e).trans (hkc.mono fun k e => .inr e), by rw [hwc]; exact HK5.out.2.2.set_ 2 _⟩
      have HO : Hid (wc.ownsRow w.heap.size 5 1 (.slice none 0 0) ([] : List UInt8).length (u8s []) ∧ BRx wc R r3 e3) := Lib.hid ⟨World.ownsRow_nil _ _ _ _, HB5.out.kp hkc fun k e => by have := Hcb.out; omega⟩
      have HWc := Lib.hid hwc
      clear HB5 HK5 hkc hwc
      go_upto_region 8 with (fail)
      rw [← HWc.out]
      clear y2 yf HWc
      have hbc := HKc.out.2.2
      have c0 : wc.cell? ⟨cb, 0, none⟩ = some (.int .u64 (id : Int)) := hbc.cell 0
      have c1 : wc.cell? ⟨cb, 1, none⟩ = some (.int .u64 (num : Int)) := hbc.cell 1
      have c2 : wc.cell? ⟨cb, 2, none⟩ = some (.bool true) := hbc.cell 2
      have c3 : wc.cell? ⟨cb, 3, none⟩ = some (.slice none 0 0) := hbc.cell 3
      have hbr := HKc.out.1
      have b0 : wc.cell? ⟨w.heap.size, 0, none⟩ = some (.int .u64 0) := hbr.cell 0
      have b1 : wc.cell? ⟨w.heap.size, 1, none⟩ = some (.int .u64 0) := hbr.cell 1
      have b2 : wc.cell? ⟨w.heap.size, 2, none⟩ = some (.bool false) := hbr.cell 2
      have b3 : wc.cell? ⟨w.heap.size, 3, none⟩ = some (.slice none 0 0) := hbr.cell 3
      have f0 := hbr.frozen 0
      have f1 := hbr.frozen 1
      have f2 := hbr.frozen 2
      have f3 := hbr.frozen 3
      have hset : ((((wc.setCell ⟨w.heap.size, 0, none⟩ (.int .u64 (id : Int))).setCell ⟨w.heap.size, 1, none⟩ (.int .u64 (num : Int))).setCell ⟨w.heap.size, 2, none⟩ (.bool true)).setCell ⟨w.heap.size, 3, none⟩ (.slice none 0 0)).cell? ⟨cb, 1, none⟩ = some (.int .u64 (num : Int)) :=
        cell_kp (p := ⟨cb, 1, none⟩) c1 (st4C wc w.heap.size _ _ _ _) (by have := Hcb.out; show cb ≠ w.heap.size; omega)
      have HF : Hid (∀ W2, W2 = ((((wc.setCell ⟨w.heap.size, 0, none⟩ (.int .u64 (id : Int))).setCell ⟨w.heap.size, 1, none⟩ (.int .u64 (num : Int))).setCell ⟨w.heap.size, 2, none⟩ (.bool true)).setCell ⟨w.heap.size, 3, none⟩ (.slice none 0 0)).drew →
          W2.cell? ⟨w.heap.size, 0, none⟩ = some (.int .u64 (id : Int)) ∧ W2.cell? ⟨w.heap.size, 1, none⟩ = some (.int .u64 (num : Int)) ∧ W2.cell? ⟨w.heap.size, 2, none⟩ = some (.bool true) ∧ W2.cell? ⟨w.heap.size, 3, none⟩ = some (.slice none 0 0) ∧ Kp (fun k => k = w.heap.size) wc W2) := Lib.hid fun W2 e => by
        subst e
        have h4 := ((((hbr.set_ 0 (.int .u64 (id : Int))).set_ 1 (.int .u64 (num : Int))).set_ 2 (.bool true)).set_ 3 (.slice none 0 0)).kp (F := fun _ => False) (Kp.drew _ _) (fun h => h)
        exact ⟨h4.cell 0, h4.cell 1, h4.cell 2, h4.cell 3, (st4C wc w.heap.size _ _ _ _).trans (Kp.drew _ _)⟩
      go_wp2_with fail
      go_region
      all_goals
        obtain ⟨w8, hw8⟩ : ∃ w8, w8 = ((((wc.setCell ⟨w.heap.size, 0, none⟩ (.int .u64 (id : Int))).setCell ⟨w.heap.size, 1, none⟩ (.int .u64 (num : Int))).setCell ⟨w.heap.size, 2, none⟩ (.bool true)).setCell ⟨w.heap.size, 3, none⟩ (.slice none 0 0)).drew := ⟨_, rfl⟩
        obtain ⟨j0, j1, j2, j3, hk8⟩ := HF.out w8 hw8
        rw [← hw8]
        go_wp2_with fail
        clear hw8 c0 c1 c2 c3 b0 b1 b2 b3 f0 f1 f2 f3 hset hbc hbr HF
        refine bodyPost_ret (by simp [results, Try.results45, go_sem, j0, j1, j2, j3]; try rfl) rfl ?_
        refine ⟨(none, 0, 0), rfl, Lib.hid ⟨own_kp HO.out.1 hk8 (fun k e e2 => ?_), HO.out.2.kp hk8 (fun k e => by have := HlR.out; omega), ?_⟩⟩
        · cases e
        · refine ((HKc.out.2.1.trans' hk8 fun k e => .inr (by omega)).cutNew fun k e => ?_)
          rcases e with e | e
          · exact .inl e
          · have := Hcb.out; exact .inr (by omega)
    · have hD := HD.out
      rw [if_neg hx0, if_neg hx1] at hD
      clear HD
      subst hD
      have n1 : ((x : Int) == 0) = false := by simp; omega
      have n2 : ((x : Int) == 1) = false := by simp; omega
      have n3 : ¬ (x : Int) = 0 := by omega
      have n4 : ¬ (x : Int) = 1 := by omega
      have hbr := HK5.out.1
      have b0 : w5.cell? ⟨w.heap.size, 0, none⟩ = some (.int .u64 0) := hbr.cell 0
      have b1 : w5.cell? ⟨w.heap.size, 1, none⟩ = some (.int .u64 0) := hbr.cell 1
      have b2 : w5.cell? ⟨w.heap.size, 2, none⟩ = some (.bool false) := hbr.cell 2
      have b3 : w5.cell? ⟨w.heap.size, 3, none⟩ = some (.slice none 0 0) := hbr.cell 3
      have f0 := hbr.frozen 0
      have f1 := hbr.frozen 1
      have f2 := hbr.frozen 2
      have f3 := hbr.frozen 3
      clear hx0 hx1
      go_wp2_with fail
      have h4 := (((hbr.set_ 0 (.int .u64 0)).set_ 1 (.int .u64 0)).set_ 2 (.bool false)).set_ 3 (.slice none 0 0)
      have hk4 := st4C w5 w.heap.size (.int .u64 0) (.int .u64 0) (.bool false) (.slice none 0 0)
      generalize ((((w5.setCell ⟨w.heap.size, 0, none⟩ (.int .u64 0)).setCell ⟨w.heap.size, 1, none⟩ (.int .u64 0)).setCell ⟨w.heap.size, 2, none⟩ (.bool false)).setCell ⟨w.heap.size, 3, none⟩ (.slice none 0 0)) = w8 at *
      have j0 : w8.cell? ⟨w.heap.size, 0, none⟩ = some (.int .u64 0) := h4.cell 0
      have j1 : w8.cell? ⟨w.heap.size, 1, none⟩ = some (.int .u64 0) := h4.cell 1
      have j2 : w8.cell? ⟨w.heap.size, 2, none⟩ = some (.bool false) := h4.cell 2
      have j3 : w8.cell? ⟨w.heap.size, 3, none⟩ = some (.slice none 0 0) := h4.cell 3
      refine bodyPost_ret (by simp [results, Try.results45, go_sem, j0, j1, j2, j3]; try rfl) rfl ?_
      exact ⟨(none, 0, 0), rfl, Lib.hid ⟨World.ownsRow_nil _ _ _ _, HB5.out.kp hk4 (fun k e => by have := HlR.out; omega), HK5.out.2.1.trans' hk4 fun k e => .inr (by omega)⟩⟩
end
end Go.Proofs.Ytgippbbbfpkhhaa

/- Layer 13, the program's Load. -/
namespace Go.Proofs.Ytgippbbbfpkhhaa
open Go.RowKit Go.Maps

theorem decCl_id (rem : List UInt8) (err : Nat) : (decCl rem err).1.id < 18446744073709551616 := by
  have h1 := nextU_lt' rem err
  unfold decCl
  dsimp only
  split
  · exact h1
  · split
    · exact h1
    · exact (by decide : (0 : Nat) < 18446744073709551616)
/-- What is made of what was read. -/
def finT (M : Nat) : Option (List Cl × List UInt8 × Nat) → Option Tb
  | none => none
  | some (row, r, e) => if e ≠ 0 ∨ 0 < r.length then none else some ⟨M, row, 0, 0⟩
theorem loadT_eq (b : List UInt8) {M N e1 e2 : Nat} {r1 r2 : List UInt8} (h1 : nextU b 0 = (M, r1, e1)) (h2 : nextU r1 e1 = (N, r2, e2)) : loadT b = if 64 < M ∨ M < N then none else if M < 1 then none else finT M (loadN r2 e2 [] N) := by
  unfold loadT
  rw [h1]
  dsimp only
  rw [h2]
  dsimp only
  split
  · rfl
  · split
    · rfl
    · cases loadN r2 e2 [] N <;> rfl
theorem loadN_no {rem : List UInt8} {err k : Nat} {row : List Cl} (h : (decCl rem err).2.1 = false ∨ (findC (decCl rem err).1.id row).isSome = true) : loadN rem err row (k + 1) = none := by
  unfold loadN
  rw [if_pos h]
theorem loadN_yes {rem : List UInt8} {err k : Nat} {row : List Cl} (h1 : (decCl rem err).2.1 = true) (h2 : findC (decCl rem err).1.id row = none) : loadN rem err row (k + 1) = loadN (decCl rem err).2.2.1 (decCl rem err).2.2.2 (row ++ [(decCl rem err).1]) k := by
  unfold loadN
  rw [if_neg (by rw [h1, h2]; simp)]
  cases k <;> rfl
/-- What Load answers. -/
def LoadE (w : World) (r : Option Tb) (e : Ending) (w' : World) : Prop :=
  (r = none ∧ e = .returned (.tuple #[.pointer none, .int .i64 11]) ∧ Hid (Below w.heap.size w w')) ∨
  ∃ t g F, r = some t ∧ e = .returned (.tuple #[.pointer (some ⟨g, 0, none⟩), .int .i64 0]) ∧ Hid (PT w' F g t ∧ (∀ k, F k → w.heap.size ≤ k) ∧ Below w.heap.size w w')
/-- Ahead of a round. -/
structure LoI (w : World) (R g M k : Nat) (rem : List UInt8) (err : Nat) (row : List Cl) (F : Nat → Prop) (wr : World) : Prop where
  p : PT wr F g ⟨M, row, 0, 0⟩
  ok : Tb.Ok ⟨M, row, 0, 0⟩
  len : row.length = k
  new : ∀ j, F j → R < j ∧ w.heap.size ≤ j
  rd : BRx wr R rem err
  rem : rem.length ≤ 1000000
  bel : Below w.heap.size w wr
set_option maxRecDepth 100000 in
set_option maxHeartbeats 8000000 in
theorem cload_any (A : Option Addr) (n c : Nat) (l : List UInt8) (w : World) (hn : n ≤ 1000000) (h : Rd w w.heap.size A n l) : Calls Try.prog 23 #[.slice A n c] w (LoadE w (loadT l)) := by
  have hl := h.1
  have HNr := Lib.hid (newR13 A n c l w (by omega) h)
  rcases hu : nextU l 0 with ⟨M, r1, e1⟩
  rcases hv : nextU r1 e1 with ⟨N, r2, e2⟩
  have q1 := nextU_rest l 0
  have q2 := nextU_rest r1 e1
  have hM64 := nextU_lt' l 0
  have hN64 := nextU_lt' r1 e1
  rw [hu] at q1 hM64
  rw [hv] at q2 hN64
  dsimp only at q1 q2 hM64 hN64
  have hT := loadT_eq l hu hv
  have HU1 : Hid (∀ W R, BRx W R l 0 → Calls Try.prog 44 #[.pointer (some ⟨R, 0, none⟩)] W fun e w' => e = .returned (.int .u64 (M : Int)) ∧ Hid (BRx w' R r1 e1 ∧ Kp (fun k => k = R) W w')) := Lib.hid fun W R hb => by have := hb.uint; rwa [hu] at this
  have HU2 : Hid (∀ W R, BRx W R r1 e1 → Calls Try.prog 44 #[.pointer (some ⟨R, 0, none⟩)] W fun e w' => e = .returned (.int .u64 (N : Int)) ∧ Hid (BRx w' R r2 e2 ∧ Kp (fun k => k = R) W w')) := Lib.hid fun W R hb => by have := hb.uint; rwa [hv] at this
  obtain ⟨r, hr⟩ : ∃ r, r = loadT l := ⟨_, rfl⟩
  rw [← hr] at hT ⊢
  have HT := Lib.hid hT
  have hr2 : r2.length ≤ 1000000 := by omega
  clear h hu hv hT hr q1 q2 hl
  go_enter Try.func23, Try.ntmps23
  go_wp2_with fail
  refine HNr.out.mono ?_
  clear HNr
  rintro e w1 ⟨R, rfl, HX1⟩
  have HC1 := Lib.hid (HU1.out w1 R (by obtain ⟨_, _, ⟨A', n', c', hb⟩, _⟩ := HX1.out; exact ⟨A', n', c', hb⟩))
  have HK1 : Hid (w.heap.size ≤ R ∧ w1.heap.size = R + 1 ∧ Below w.heap.size w w1) := Lib.hid ⟨HX1.out.1, HX1.out.2.1, HX1.out.2.2.2⟩
  clear HX1 HU1
  go_wp2_with fail
  refine HC1.out.mono ?_
  clear HC1
  rintro e w2 ⟨rfl, HX2⟩
  have HC2 := Lib.hid (HU2.out w2 R HX2.out.1)
  have HK2 : Hid (w.heap.size ≤ R ∧ R + 1 ≤ w2.heap.size ∧ Below w.heap.size w w2) := Lib.hid ⟨HK1.out.1, by have := HX2.out.2.size; have := HK1.out.2.1; omega, HK1.out.2.2.trans (HX2.out.2.below (fun k e => e ▸ HK1.out.1) HK1.out.2.2.size)⟩
  clear HX2 HU2 HK1
  go_wp2_with fail
  refine HC2.out.mono ?_
  clear HC2
  rintro e w3 ⟨rfl, HX3⟩
  have HK3 : Hid (w.heap.size ≤ R ∧ R + 1 ≤ w3.heap.size ∧ Below w.heap.size w w3) := Lib.hid ⟨HK2.out.1, by have := HX3.out.2.size; have := HK2.out.2.1; omega, HK2.out.2.2.trans (HX3.out.2.below (fun k e => e ▸ HK2.out.1) HK2.out.2.2.size)⟩
  have HB3 := Lib.hid HX3.out.1
  clear HX3 HK2
  by_cases hM : 64 < M
  · have m1 : (M : Int) > 64 := by omega
    have hrn : r = none := by rw [HT.out, if_pos (.inl hM)]
    clear HT HB3
    go_wp2
    refine bodyPost_ret (by simp [results, Try.results23, go_sem]; try rfl) rfl ?_
    exact .inl ⟨hrn, rfl, Lib.hid HK3.out.2.2⟩
  have m1 : ¬ (M : Int) > 64 := by omega
  by_cases hN : M < N
  · have m2 : (N : Int) > (M : Int) := by omega
    have hrn : r = none := by rw [HT.out, if_pos (.inr hN)]
    clear HT HB3
    go_wp2
    refine bodyPost_ret (by simp [results, Try.results23, go_sem]; try rfl) rfl ?_
    exact .inl ⟨hrn, rfl, Lib.hid HK3.out.2.2⟩
  have m2 : ¬ (N : Int) > (M : Int) := by omega
  have e0 : IntKind.i64.wrap (M : Int) = (M : Int) := by rw [IntKind.wrap_i64]; omega
  by_cases hM1 : M < 1
  · have hrn : r = none := by rw [HT.out, if_neg (by omega), if_pos hM1]
    have HNw := Lib.hid (cnew_bad (M : Int) w3 (by omega))
    clear HT HB3
    go_wp2_with fail
    refine HNw.out.mono ?_
    rintro e w4 ⟨rfl, rfl⟩
    go_wp2
    refine bodyPost_ret (by simp [results, Try.results23, go_sem]; try rfl) rfl ?_
    exact .inl ⟨hrn, rfl, Lib.hid HK3.out.2.2⟩
  have HNw := Lib.hid (cnew_any M w3 (by omega))
  have HR : Hid (r = finT M (loadN r2 e2 [] N)) := Lib.hid (by rw [HT.out, if_neg (by omega), if_neg hM1])
  clear HT
  go_wp2_with fail
  refine HNw.out.mono ?_
  clear HNw
  rintro e w4 ⟨g, F, rfl, HX4⟩
  have HI0 : Hid (LoI w R g M 0 r2 e2 [] F w4) := Lib.hid ⟨HX4.out.1, Tb.Ok.new ⟨by omega, by omega⟩, rfl, fun j hj => by have := HX4.out.2.1 j hj; have := HK3.out; omega, HB3.out.below HX4.out.2.2, hr2, HK3.out.2.2.trans (HX4.out.2.2.mono (by have := HK3.out; omega))⟩
  have HRl := Lib.hid HK3.out.1
  clear HX4 HB3 HK3 e0
  go_wp2_with fail
  go_loopg [35] N (fun gk a wr => ∃ (k : Nat) (rem : List UInt8) (err : Nat) (row : List Cl) (F : Nat → Prop), a = .int .u64 (k : Int) ∧ k + gk = N ∧ Hid (r = finT M (loadN rem err row gk)) ∧ Hid (LoI w R g M k rem err row F wr))
  case atStart => exact ⟨0, r2, e2, [], F, rfl, by omega, HR, HI0⟩
  case round =>
    obtain ⟨k, rem, err, row, F, rfl, hkg, HRk, HI⟩ := hrel
    clear HR HI0 hr2
    by_cases hkN : k < N
    · obtain ⟨j, rfl⟩ : ∃ j, gk = j + 1 := ⟨gk - 1, by omega⟩
      have m3 : (k : Int) < (N : Int) := by omega
      have e5 : IntKind.u64.wrap ((k : Int) + 1) = ((k + 1 : Nat) : Int) := by rw [IntKind.wrap_u64]; omega
      have HLd := Lib.hid (loadC_any HI.out.rd HI.out.rem)
      have hid' := decCl_id rem err
      have hok' := decCl_ok rem err
      have hrest := decCl_rest rem err
      have hno := fun h => loadN_no (k := j) (row := row) (rem := rem) (err := err) h
      have hyes := fun h1 h2 => loadN_yes (k := j) (row := row) (rem := rem) (err := err) h1 h2
      rcases hd : decCl rem err with ⟨⟨id, num, busy, rep⟩, ok, rem', err'⟩
      rw [hd] at HLd hid' hok' hrest hno hyes
      dsimp only at hid' hok' hrest hno hyes
      have Hno := Lib.hid hno
      have Hyes := Lib.hid hyes
      have Hok := Lib.hid hok'
      have hrem' : rem'.length ≤ 1000000 := by have := HI.out.rem; omega
      clear hd hno hyes hok' hrest
      go_wp2_with fail
      refine HLd.out.mono ?_
      clear HLd
      rintro e w5 ⟨⟨sA, sN, sC⟩, rfl, HX5⟩
      unfold clV s3W
      dsimp only
      have hX5 := HX5.out
      dsimp only at hX5
      have hlt5 : R < w5.heap.size := by have := hX5.2.1.lt; exact this
      obtain ⟨w6, hw6⟩ : ∃ w6, w6 = w5.alloc (.cells #[.int .u64 (id : Int), .int .u64 (num : Int), .bool busy, .slice sA sN sC] 64) := ⟨_, rfl⟩
      obtain ⟨cb, hcb⟩ : ∃ cb, cb = w5.heap.size := ⟨_, rfl⟩
      have hb6 : Below w5.heap.size w5 w6 := by rw [hw6]; exact bel1N _ _
      have hk6 : Bk w6 cb 64 #[.int .u64 (id : Int), .int .u64 (num : Int), .bool busy, .slice sA sN sC] := by rw [hw6, hcb]; exact Bk.new w5 _ _
      have hp6 : PT w6 F g ⟨M, row, 0, 0⟩ := (HI.out.p.kp hX5.2.2 (fun k h e => by have := (HI.out.new k h).1; omega)).below hb6
      have ho6 : w6.ownsRow wr.heap.size 5 1 (.slice sA sN sC) rep.length (u8s rep) := own_below hX5.1 hb6 (fun k e => (hX5.1.lt k e).2)
      have hr6 := hX5.2.1.below hb6
      have hbel6 : Below w.heap.size w w6 := (HI.out.bel.trans (hX5.2.2.below (fun k e => e ▸ HRl.out) HI.out.bel.size)).trans (hb6.mono (by have := HI.out.bel.size; have := hX5.2.2.size; omega))
      have hlt6 := hp6.lt
      have hgc : cb ≠ g := by have h1 := HI.out.p.lt _ HI.out.p.fg; have h2 := hX5.2.2.size; omega
      obtain ⟨A0, n0, c0, es, dn, mp, hp6⟩ := hp6
      have HFd := find_any hp6 HI.out.ok.sure id hid'
      have HBk6 := Lib.hid hp6.bk
      have c0' : w6.cell? ⟨cb, 0, none⟩ = some (.int .u64 (id : Int)) := hk6.cell 0
      have HO6 := Lib.hid (And.intro ho6 (And.intro hr6 (And.intro hbel6 hk6)))
      have HW6 := Lib.hid hw6
      have HCB := Lib.hid hcb
      have hwrz : w.heap.size ≤ wr.heap.size := HI.out.bel.size
      have hRwr : R < wr.heap.size := HI.out.rd.lt
      have Hgc := Lib.hid (And.intro hgc (And.intro hwrz hRwr))
      clear HX5 hX5 hlt5 hw6 hcb hb6 hk6 hp6 ho6 hr6 hbel6 hlt6 hgc hwrz hRwr
      have hnot : ∀ (x : Bool) (w : World), (Op.unary .not (.bool x)).run Try.prog w = .ok (.bool (!x)) w := fun _ _ => rfl
      cases hf : findC id row with
      | some kk =>
        have hrn : r = none := by rw [HRk.out, Hno.out (.inr (by rw [hf]; rfl))]; rfl
        have HFd2 : Hid (Calls Try.prog 30 #[.pointer (some ⟨g, 0, none⟩), .int .u64 (id : Int)] w6 fun e w7 => e = .returned (.tuple #[.int .i64 (kk : Int), .bool true]) ∧ Hid (DoneE w6 F g ⟨M, row, 0, 0⟩ A0 n0 c0 es w7)) := Lib.hid (by
          have h := HFd
          dsimp only at h
          rw [hf] at h
          exact h)
        clear HFd hf HRk Hno Hyes Hok
        go_upto_region 12 with (fail)
        rw [← HW6.out]
        try rw [← HCB.out]
        go_wp2_with fail
        refine HFd2.out.mono ?_
        clear HFd2
        rintro e w7 ⟨rfl, HX7⟩
        have HB7 : Hid (Below w.heap.size w w7) := Lib.hid (by
          obtain ⟨F', b, _, hm, hk⟩ := HX7.out
          exact HO6.out.2.2.1.trans (hk.below (fun k e => by rw [e]; exact (HI.out.new g HI.out.p.fg).2) HO6.out.2.2.1.size))
        clear HX7
        cases ok <;>
        · go_wp2
          refine bodyPost_ret (by simp [results, Try.results23, go_sem]; try rfl) rfl ?_
          exact .inl ⟨hrn, rfl, HB7⟩
      | none =>
        have HFd2 : Hid (Calls Try.prog 30 #[.pointer (some ⟨g, 0, none⟩), .int .u64 (id : Int)] w6 fun e w7 => e = .returned (.tuple #[.int .i64 0, .bool false]) ∧ Hid (DoneE w6 F g ⟨M, row, 0, 0⟩ A0 n0 c0 es w7)) := Lib.hid (by
          have h := HFd
          dsimp only at h
          rw [hf] at h
          exact h)
        have Hf := Lib.hid hf
        clear HFd hf
        go_upto_region 12 with (fail)
        rw [← HW6.out]
        try rw [← HCB.out]
        go_wp2_with fail
        refine HFd2.out.mono ?_
        clear HFd2
        rintro e w7 ⟨rfl, HX7⟩
        obtain ⟨F1, b1, hp7, hm7, hk7⟩ := HX7.out
        cases ok with
        | false =>
          have hrn : r = none := by rw [HRk.out, Hno.out (.inl rfl)]; rfl
          have HB7 : Hid (Below w.heap.size w w7) := Lib.hid (HO6.out.2.2.1.trans (hk7.below (fun k e => by rw [e]; exact (HI.out.new g HI.out.p.fg).2) HO6.out.2.2.1.size))
          clear HX7 hp7 hm7 hk7 HRk Hno Hyes Hok
          go_wp2
          refine bodyPost_ret (by simp [results, Try.results23, go_sem]; try rfl) rfl ?_
          exact .inl ⟨hrn, rfl, HB7⟩
        | true =>
          have hcOk : Cl.Ok ⟨id, num, busy, rep⟩ := Hok.out rfl
          have hRn : r = finT M (loadN rem' err' (row ++ [⟨id, num, busy, rep⟩]) j) := by rw [HRk.out, Hyes.out rfl Hf.out]
          have ho7 : w7.ownsRow wr.heap.size 5 1 (.slice sA sN sC) rep.length (u8s rep) := own_kp HO6.out.1 hk7 (fun k e => own_not_bkC HBk6.out HO6.out.1 (by decide) k e)
          have hp7' : PTm w7 (fun k => F1 k ∨ (Value.slice sA sN sC).ownBlock = some k) g ⟨M, row, 0, 0⟩ A0 n0 c0 es true (some b1) := hp7.mono (fun k e => .inl e) (by
            rintro k (e | e)
            · exact hp7.lt k e
            · exact (ho7.lt k e).2)
          have hn0 : n0 ≤ 200 := by have h1 := hp7.len; have h2 := HI.out.ok.len; have h3 := HI.out.ok.most; dsimp only at h1 h2 h3; omega
          have HAd := add_any hp7' hn0 ⟨id, num, busy, rep⟩ (sA, sN, sC) (own_mono ho7 (Nat.zero_le _)) (fun k e => .inr e)
          unfold clV s3W at HAd
          dsimp only at HAd
          have HAd := Lib.hid HAd
          have hk67 := HO6.out.2.2.2.kp hk7 Hgc.out.1
          have b0 : w7.cell? ⟨cb, 0, none⟩ = some (.int .u64 (id : Int)) := hk67.cell 0
          have b1' : w7.cell? ⟨cb, 1, none⟩ = some (.int .u64 (num : Int)) := hk67.cell 1
          have b2 : w7.cell? ⟨cb, 2, none⟩ = some (.bool busy) := hk67.cell 2
          have b3 : w7.cell? ⟨cb, 3, none⟩ = some (.slice sA sN sC) := hk67.cell 3
          have hF1 : ∀ k, (F1 k ∨ (Value.slice sA sN sC).ownBlock = some k) → R < k ∧ w.heap.size ≤ k := by
            have hz6 := HO6.out.2.2.1.size
            rintro k (e | e)
            · rcases hm7.new k e with h' | h'
              · exact HI.out.new k h'
              · have h1 := HO6.out.2.1.lt
                exact ⟨by omega, by omega⟩
            · have := (ho7.lt k e).1; have := Hgc.out; exact ⟨by omega, by omega⟩
          have HN : Hid (∀ w8 F', PT w8 F' g ⟨M, row ++ [⟨id, num, busy, rep⟩], 0, 0⟩ → Mv (fun k => F1 k ∨ (Value.slice sA sN sC).ownBlock = some k) F' w7 w8 → LoI w R g M (k + 1) rem' err' (row ++ [⟨id, num, busy, rep⟩]) F' w8) := Lib.hid fun w8 F' hp8 hm8 => by
            have hr7 := HO6.out.2.1.kp hk7 (fun j e => by rw [e]; exact (HI.out.new g HI.out.p.fg).1)
            have hbel7 : Below w.heap.size w w7 := HO6.out.2.2.1.trans (hk7.below (fun j e => by rw [e]; exact (HI.out.new g HI.out.p.fg).2) HO6.out.2.2.1.size)
            have hlen := HI.out.len
            have hmo := HI.out.ok.most
            refine ⟨hp8, ⟨hmo, ?_, push_nodup HI.out.ok.ids (findC_none Hf.out), fun c hc => ?_, HI.out.ok.nb, HI.out.ok.na⟩, by rw [List.length_append, hlen]; rfl, fun j hj => ?_, hr7.kp hm8.kp (fun j e => (hF1 j e).1), hrem', hbel7.trans (hm8.kp.below (fun j e => (hF1 j e).2) hbel7.size)⟩
            · show (row ++ [_]).length ≤ M
              rw [List.length_append, hlen]
              show k + 1 ≤ M
              omega
            · rcases List.mem_append.1 hc with hc | hc
              · exact HI.out.ok.each c hc
              · rw [List.mem_singleton.1 hc]; exact hcOk
            · rcases hm8.new j hj with h' | h'
              · exact hF1 j h'
              · have h1 := hr7.lt; have h2 := hbel7.size; exact ⟨by omega, by omega⟩
          have HRn := Lib.hid hRn
          clear HX7 hp7 hm7 hk7 HRk Hno Hyes Hok Hf hp7' ho7 hk67 hF1 hRn hcOk
          go_wp2_with fail
          refine HAd.out.mono ?_
          clear HAd
          rintro e w8 ⟨rfl, HY⟩
          have HM : Hid (∃ F', LoI w R g M (k + 1) rem' err' (row ++ [⟨id, num, busy, rep⟩]) F' w8) := Lib.hid (by
            obtain ⟨F', hp8, hm8⟩ := HY.out
            exact ⟨F', HN.out w8 F' hp8 hm8⟩)
          clear HY HN
          obtain ⟨F8, hM8⟩ := HM.out
          have HM8 := Lib.hid hM8
          clear hM8 HM
          go_wp2
          go_roundg j
          case measure => omega
          case rel => exact ⟨k + 1, rem', err', _, F8, by go_num, by omega, HRn, HM8⟩
    · obtain rfl : k = N := by omega
      obtain rfl : gk = 0 := by omega
      have m3 : ¬ (k : Int) < (k : Int) := by omega
      obtain ⟨A5, n5, c5, hbr⟩ := HI.out.rd
      have hnl : rem.length = n5 := hbr.rd.1
      have hRk : r = if err ≠ 0 ∨ 0 < rem.length then none else some ⟨M, row, 0, 0⟩ := HRk.out
      have HEr := Lib.hid (err_any R _ err wr hbr.blk)
      have HLf := Lib.hid (left_any R A5 n5 c5 _ wr hbr.blk)
      have HZ : Hid (PT wr F g ⟨M, row, 0, 0⟩ ∧ (∀ k, F k → w.heap.size ≤ k) ∧ Below w.heap.size w wr) := Lib.hid ⟨HI.out.p, fun j hj => (HI.out.new j hj).2, HI.out.bel⟩
      clear HI HRk hbr
      by_cases herr : err = 0
      · subst herr
        by_cases hrem : 0 < rem.length
        · have hrn : r = none := by rw [hRk, if_pos (.inr hrem)]
          have m4 : (n5 : Int) > 0 := by omega
          clear hRk hrem
          go_wp2_with (first
            | (go_at_call 46; refine HEr.out.mono ?_; rintro e w' ⟨rfl, rfl⟩)
            | (go_at_call 47; refine HLf.out.mono ?_; rintro e w' ⟨rfl, rfl⟩))
          refine bodyPost_ret (by simp [results, Try.results23, go_sem]; try rfl) rfl ?_
          exact .inl ⟨hrn, rfl, Lib.hid HZ.out.2.2⟩
        · have hrn : r = some ⟨M, row, 0, 0⟩ := by rw [hRk, if_neg (by omega)]
          have m4 : ¬ (n5 : Int) > 0 := by omega
          clear hRk hrem
          go_wp2_with (first
            | (go_at_call 46; refine HEr.out.mono ?_; rintro e w' ⟨rfl, rfl⟩)
            | (go_at_call 47; refine HLf.out.mono ?_; rintro e w' ⟨rfl, rfl⟩))
          refine bodyPost_ret (by simp [results, Try.results23, go_sem]; try rfl) rfl ?_
          exact .inr ⟨_, g, F, hrn, rfl, HZ⟩
      · have hrn : r = none := by rw [hRk, if_pos (.inl herr)]
        have m4 : ((err : Int) != 0) = true := by simp; omega
        have m5 : ¬ (err : Int) = 0 := by omega
        clear hRk herr
        go_wp2_with (first
          | (go_at_call 46; refine HEr.out.mono ?_; rintro e w' ⟨rfl, rfl⟩)
          | (go_at_call 47; refine HLf.out.mono ?_; rintro e w' ⟨rfl, rfl⟩))
        refine bodyPost_ret (by simp [results, Try.results23, go_sem]; try rfl) rfl ?_
        exact .inl ⟨hrn, rfl, Lib.hid HZ.out.2.2⟩
end Go.Proofs.Ytgippbbbfpkhhaa
