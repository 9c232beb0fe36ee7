/- Layer 12, the program's row: an entry is put in. -/
import Derived.Test.YtnomddhgcdoifaaRlE
import Derived.Lib.Overlaps
import Derived.Lib.AppendZerosOnto
import Derived.Laws.LoneSync
namespace Go.Proofs.Ytnomddhgcdoifaa
open Go.RowKit

theorem append_types {P : Program} (w : World) (t t2 ty e e2 : TypeId) (ti : TypeInfo) (ht : P.underlying t = some (.slice e)) (ht2 : P.underlying t2 = some (.slice e2)) (hi : P.info? e = some ti) (A : Option Addr) (n c : Nat) (x : Value) : (Builtin.append_ #[t, t2] ty #[.slice A n c, x]).run P w = (Builtin.append_ #[t, t] ty #[.slice A n c, x]).run P w := by
  simp [Builtin.append_, run_underlying ht, run_underlying ht2, sizeOf, typeInfo, hi]
theorem run_copy_sized {P : Program} (w : World) (dT sT ty elem : TypeId) (b o dLen dCap : Nat) (a : Addr) (sLen sCap k size : Nat) (i : TypeInfo) (cs : List Value)
    (hu : P.underlying dT = some (.slice elem)) (hi : P.info? elem = some i) (hs : i.size = size) (hk : Nat.min sLen dLen = k) (hn : cs.length = k * size)
    (hsrc : ∀ j v, cs[j]? = some v → w.cell? (a.add j) = some v) (ht : w.there b o cs.length) (h1 : ∀ v ∈ cs, v.oneCell' = true) :
    (Builtin.copy_ #[dT, sT] ty #[.slice (some ⟨b, o, none⟩) dLen dCap, .slice (some a) sLen sCap]).run P w = .ok (goInt k) (w.setCells b o cs) := by
  have hl := run_loadCells_list (P := P) w a cs hsrc
  have hst := run_storeCells_cells (P := P) b o cs 0 w (fun j hj => by simpa using (ht j hj).1) (fun j hj => by simpa using (ht j hj).2) h1
  simp [Builtin.copy_, run_underlying hu, Builtin.lenOf, Builtin.firstCells, sizeOf, typeInfo, hi, hs, hk, ← hn, hl, hst]
theorem run_copy_sized0 {P : Program} (w : World) (dT sT ty elem : TypeId) (d a : Option Addr) (dLen dCap sLen sCap : Nat) (i : TypeInfo)
    (hu : P.underlying dT = some (.slice elem)) (hi : P.info? elem = some i) (hk : Nat.min sLen dLen = 0) :
    (Builtin.copy_ #[dT, sT] ty #[.slice d dLen dCap, .slice a sLen sCap]).run P w = .ok (goInt 0) w := by
  have hl : ∀ (x : Addr), (loadCells x 0).run P w = .ok #[] w := fun x => by simpa using run_loadCells_list (P := P) w x [] (by simp)
  cases d <;> cases a <;> simp [Builtin.copy_, run_underlying hu, Builtin.lenOf, Builtin.firstCells, sizeOf, typeInfo, hi, hk, storeCells, hl]
/-- One element more of the same block. -/
theorem own_longer {w : World} {base e size n cap g : Nat} {xs : List Value} (h : w.ownsRow base e size (.slice (some ⟨g, 0, none⟩) n cap) n xs) (hk : n + 1 ≤ cap) :
    ∃ zs, zs.length = size ∧ w.ownsRow base e size (.slice (some ⟨g, 0, none⟩) (n + 1) cap) (n + 1) (xs ++ zs) := by
  rcases h.2 with ⟨h', _⟩ | ⟨g', cap', cur, hv, hb, hh, hnc, hcm, hcs, ht⟩
  · cases h'
  · injection hv with h1 _ h3
    injection h1 with h1
    injection h1 with h1
    subst h1 h3
    have hle : (n + 1) * size ≤ cap * size := Nat.mul_le_mul_right _ hk
    have hsz : cur.toList.length = cap * size := by simpa using hcs
    rw [Nat.add_mul, Nat.one_mul] at hle
    refine ⟨(cur.toList.drop (n * size)).take size, by rw [List.length_take, List.length_drop]; omega, ?_, .inr ⟨g, cap, cur, rfl, hb, hh, hk, hcm, hcs, ?_⟩⟩
    · rw [List.length_append, h.1, List.length_take, List.length_drop, Nat.add_mul, Nat.one_mul]; omega
    · rw [Nat.add_mul, Nat.one_mul, List.take_add, ht]
theorem ins_get (xs vs : List Value) (i j : Nat) (hi : i * 2 ≤ xs.length) (hv : vs.length = 2) : (xs.take (i * 2) ++ (vs ++ xs.drop (i * 2)))[j]? = if j < i * 2 then xs[j]? else if j < i * 2 + 2 then vs[j - i * 2]? else xs[j - 2]? := by
  have ht : (xs.take (i * 2)).length = i * 2 := by rw [List.length_take]; omega
  by_cases h1 : j < i * 2
  · rw [if_pos h1, List.getElem?_append_left (by omega), List.getElem?_take_of_lt h1]
  · rw [if_neg h1, List.getElem?_append_right (by omega), ht]
    by_cases h2 : j < i * 2 + 2
    · rw [if_pos h2, List.getElem?_append_left (by omega)]
    · rw [if_neg h2, List.getElem?_append_right (by omega), hv, List.getElem?_drop]
      congr 1
      omega
theorem ins_in (xs vs zs : List Value) (n i : Nat) (hx : xs.length = n * 2) (hi : i ≤ n) (hv : vs.length = 2) (hz : zs.length = 2) :
    over (over (xs ++ zs) ((i + 1) * 2) (xs.drop (i * 2))) (i * 2) vs = xs.take (i * 2) ++ (vs ++ xs.drop (i * 2)) := by
  have hd : (xs.drop (i * 2)).length = n * 2 - i * 2 := by rw [List.length_drop, hx]
  have hl1 : (i + 1) * 2 + (xs.drop (i * 2)).length ≤ (xs ++ zs).length := by rw [hd, List.length_append, hx, hz]; omega
  have hl2 : i * 2 + vs.length ≤ (over (xs ++ zs) ((i + 1) * 2) (xs.drop (i * 2))).length := by rw [over_len _ _ _ hl1, List.length_append]; omega
  apply List.ext_getElem?
  intro j
  rw [over_get _ _ _ hl2, over_get _ _ _ hl1, ins_get xs vs i j (by omega) hv]
  by_cases h1 : j < i * 2
  · rw [if_neg (by omega), if_neg (by omega), if_pos h1, List.getElem?_append_left (by omega)]
  · rw [if_neg h1]
    by_cases h2 : j < i * 2 + 2
    · rw [if_pos (by omega), if_pos h2]
    · rw [if_neg (by omega), if_neg h2]
      by_cases h3 : j < n * 2 + 2
      · rw [if_pos (by omega), List.getElem?_drop]; congr 1; omega
      · rw [if_neg (by omega), List.getElem?_eq_none (by rw [List.length_append]; omega), List.getElem?_eq_none (by omega)]
theorem ins_new (xs vs zs : List Value) (n i : Nat) (hx : xs.length = n * 2) (hi : i ≤ n) (hv : vs.length = 2) (hz : zs.length = (n + 1 - i) * 2) :
    over (over (xs.take (i * 2) ++ zs) (i * 2) vs) ((i + 1) * 2) (xs.drop (i * 2)) = xs.take (i * 2) ++ (vs ++ xs.drop (i * 2)) := by
  have hd : (xs.drop (i * 2)).length = n * 2 - i * 2 := by rw [List.length_drop, hx]
  have ht : (xs.take (i * 2)).length = i * 2 := by rw [List.length_take]; omega
  have hl1 : i * 2 + vs.length ≤ (xs.take (i * 2) ++ zs).length := by rw [List.length_append]; omega
  have hl2 : (i + 1) * 2 + (xs.drop (i * 2)).length ≤ (over (xs.take (i * 2) ++ zs) (i * 2) vs).length := by rw [over_len _ _ _ hl1, List.length_append]; omega
  apply List.ext_getElem?
  intro j
  rw [over_get _ _ _ hl2, over_get _ _ _ hl1, ins_get xs vs i j (by omega) hv]
  by_cases h1 : j < i * 2
  · rw [if_neg (by omega), if_neg (by omega), if_pos h1, List.getElem?_append_left (by omega), List.getElem?_take_of_lt h1]
  · rw [if_neg h1]
    by_cases h2 : j < i * 2 + 2
    · rw [if_neg (by omega), if_pos (by omega), if_pos h2]
    · rw [if_neg h2]
      by_cases h3 : j < n * 2 + 2
      · rw [if_pos (by omega), List.getElem?_drop]; congr 1; omega
      · rw [if_neg (by omega), if_neg (by omega), List.getElem?_eq_none (by rw [List.length_append]; omega), List.getElem?_eq_none (by omega)]
/-- What an Insert of one entry leaves. -/
def InsE (w : World) (A : Option Addr) (n c : Nat) (xs : List Value) (e : Ending) (w' : World) : Prop :=
  ∃ A' c', e = .returned (.slice A' (n + 1) c') ∧ w'.ownsRow 0 45 2 (.slice A' (n + 1) c') (n + 1) xs ∧ Kp (fun j => (Value.slice A n c).ownBlock = some j) w w' ∧ (∀ k, (Value.slice A' (n + 1) c').ownBlock = some k → (Value.slice A n c).ownBlock = some k ∨ w.heap.size ≤ k)
section
variable {w : World} {A : Option Addr} {n c vb : Nat} {xs vs : List Value}
set_option maxHeartbeats 4000000 in
set_option maxRecDepth 100000 in
/-- At the end. -/
theorem einsEnd_any (h : w.ownsRow 0 45 2 (.slice A n c) n xs) (hn : n ≤ 1000000) (hnc : n ≤ c) (hA : A = none → c = 0) (hv : Bk w vb 45 vs.toArray) (hv2 : vs.length = 2) (h1 : ∀ v ∈ vs, v.oneCell' = true) :
    Calls Try.prog 36 #[.slice A n c, .int .i64 (n : Int), .slice (some ⟨vb, 0, none⟩) 1 1] w (InsE w A n c (xs ++ vs)) := by
  obtain ⟨iw, hiw, hzw, hsw, hbw⟩ := info_parts Try.infoEntry
  obtain ⟨v', w', hrun, ha⟩ := run_append_app (P := Try.prog) w 0 49 49 45 iw _ 2 32 Try.underlying49 hiw hzw hsw hbw rfl (.slice A n c) n xs h (some ⟨vb, 0, none⟩) 1 1 vs hv2 (by intro e; cases e) (by
    intro a e j u hu
    injection e with e
    subst e
    rw [Addr.add_lit, Nat.zero_add, hv.cell]
    simpa using hu) h1 (by unfold maxLen; omega) (by omega) (Nat.zero_le _)
  have hrun2 : ∀ ty, (Builtin.append_ #[49, 29] ty #[.slice A n c, .slice (some ⟨vb, 0, none⟩) 1 1]).run Try.prog w = .ok v' w' := fun ty => by
    rw [append_types w 49 29 ty _ _ iw Try.underlying49 Try.underlying29 hiw]
    exact hrun
  obtain ⟨A', c', rfl, _⟩ := own_shape ha.own
  have hE : InsE w A n c (xs ++ vs) (.returned (.slice A' (n + 1) c')) w' := ⟨A', c', rfl, ha.own, Kp.of_row ha.grow fun g e => e, fun k e => by
    rcases ha.block with h' | h'
    · exact .inl (h' ▸ e)
    · rw [h'] at e; injection e with e; exact .inr (by omega)⟩
  have HE := Lib.hid hE
  clear hE hrun ha hv h h1
  have hle : (n : Int) ≤ (n : Int) := Int.le_refl _
  go_enter Try.func36, Try.ntmps36
  cases A with
  | none =>
    obtain rfl := hA rfl
    obtain rfl : n = 0 := by omega
    go_wp2_with (at_builtin; refine Lib.wpList_append_run _ rfl _ _ _ _ rfl _ _ rfl rfl _ _ (hrun2 _) ?_)
    go_ret
    exact HE.out
  | some a =>
    obtain ⟨ab, ao, asp⟩ := a
    go_wp2_with (at_builtin; refine Lib.wpList_append_run _ rfl _ _ _ _ rfl _ _ rfl rfl _ _ (hrun2 _) ?_)
    all_goals
      go_ret
      exact HE.out
end
end Go.Proofs.Ytnomddhgcdoifaa
