/- Of the proofs of layer 4, merged: QuT, QuV, QuX. -/
import Derived.Test.YtjapmolmgfaocaaMQuM
import Derived.Lib.OwnBridge

/- Layer 8: the nodes of each row, column or site. -/
namespace Go.Proofs.Ytjapmolmgfaocaa
open Go.RowKit Go.Lib Go.Shelf Go.Sort

def u32s (l : List Nat) : List Value := l.map fun x : Nat => Value.int .u32 (x : Int)
/-- A slice of length n at A reads as the numbers l. -/
def RdU (w : World) (B : Nat) (A : Option Addr) (n : Nat) (l : List Nat) : Prop :=
  l.length = n ∧ (0 < n → ∃ b o, A = some ⟨b, o, none⟩ ∧ b < B ∧ ∀ j (h : j < l.length), w.cell? ⟨b, o + j, none⟩ = some (.int .u32 (l[j] : Int)))
section
variable {w w' : World} {B B' n : Nat} {A : Option Addr} {l : List Nat}
theorem RdU.nil (w : World) (B : Nat) (A : Option Addr) : RdU w B A 0 [] := ⟨rfl, fun h => absurd h (by omega)⟩
theorem RdU.keep (h : RdU w B A n l) (hk : ∀ p : Addr, p.block < B → w'.cell? p = w.cell? p) : RdU w' B A n l :=
  ⟨h.1, fun hn => by obtain ⟨b, o, e, hb, hc⟩ := h.2 hn; exact ⟨b, o, e, hb, fun j hj => (hk _ hb).trans (hc j hj)⟩⟩
theorem RdU.more (h : RdU w B A n l) (hB : B ≤ B') : RdU w B' A n l :=
  ⟨h.1, fun hn => by obtain ⟨b, o, e, hb, hc⟩ := h.2 hn; exact ⟨b, o, e, by omega, hc⟩⟩
theorem RdU.below (h : RdU w B A n l) (hb : Below B w w') : RdU w' B A n l := h.keep fun _ hp => hb.cell hp
theorem RdU.up (h : RdU w w.heap.size A n l) (hb : Below w.heap.size w w') : RdU w' w'.heap.size A n l := (h.below hb).more hb.size
end
def rowA (l : List Nat) : Array Value := (u32s l).toArray

set_option maxRecDepth 100000 in
set_option maxHeartbeats 400000 in
theorem isNought_any (x : Nat) (W : World) : Calls Try.prog 80 #[.int .u32 (x : Int)] W fun e w' => e = .returned (.bool (decide (x = 0))) ∧ W = w' := by
  go_enter Try.func80, Try.ntmps80
  go_wp2
  go_ret
  exact ⟨ret_bool (by rw [Bool.eq_iff_iff]; simp), rfl⟩

abbrev encU (x : Nat) : Value := .int .u32 (x : Int)
theorem RdU.of_holds {W : World} {g o : Nat} {l : List Nat} (h : Holds encU W g o l.toArray) (hg : g < W.heap.size) : RdU W W.heap.size (some ⟨g, o, none⟩) l.length l :=
  ⟨rfl, fun _ => ⟨g, o, rfl, hg, fun j hj => by rw [(h j (by simpa using hj)).1, getElem!_pos l.toArray j (by simpa using hj)]; simp⟩⟩
/-- slices.DeleteFunc of what is nought, of a row of twelve. -/
theorem delNought_any (l : List Nat) (g : Nat) (W : World) (hl : l.length = 12) (hb : Bk W g 135 (rowA l)) :
    Calls Try.prog 79 #[.slice (some ⟨g, 0, none⟩) 12 12, .func (.func 80) #[] #[]] W fun e w' =>
      e = .returned (.slice (some ⟨g, 0, none⟩) (l.filter fun x => !(decide (x = 0))).length 12) ∧ Holds encU w' g 0 (l.filter fun x => !(decide (x = 0))).toArray ∧ RowKit.Below g W w' := by
  have hsz : l.toArray.size = 12 := by simpa using hl
  have hH : Holds encU W g 0 l.toArray := fun j hj => by
    have hj' : j < l.length := by simpa using hj
    rw [Nat.zero_add, hb.cell j, hb.frozen j, getElem!_pos l.toArray j (by simpa using hj)]
    refine ⟨?_, rfl⟩
    unfold rowA u32s
    rw [List.getElem?_toArray, List.getElem?_map, List.getElem?_eq_getElem hj']
    simp
  have hg : ∀ (x : Nat) (W' : World), FnGives Try.prog 80 #[] #[encU x] (.bool (decide (x = 0))) W' := fun x W' => by
    show Calls Try.prog 80 #[.int .u32 (x : Int)] W' _
    refine (isNought_any x W').mono ?_
    rintro e w' ⟨rfl, rfl⟩
    exact ⟨rfl, 0, rfl⟩
  have H := AnyE.slices_DeleteFunc layDf encU (fun _ => rfl) (fun x => decide (x = 0)) 80 #[] (enters_of Try.func80 (by kernel_rfl) rfl) 0 Try.zeroValue106 g 0 12 l.toArray W
    (fun W' x _ => hg x W') (fun n os dk x _ => hg x _) hH (by omega) (by omega)
  rw [hsz] at H
  refine Calls.mono (show Calls Try.prog 79 _ _ _ from H) ?_
  rintro e w' ⟨rfl, q, rfl⟩
  have hfl := List.length_filter_le (fun x => !(decide (x = 0))) l
  rw [hl] at hfl
  refine ⟨by simp, ?_, below_putRow (Below.refl _ _) (Nat.le_refl _)⟩
  have hH2 := holds_putRow encU (Sort.ahead W q) g 0 l.toArray ((l.toArray.toList.filter fun x => !(decide (x = 0))) ++ List.replicate (12 - (l.toArray.toList.filter fun x => !(decide (x = 0))).length) 0).toArray hH (by simp; omega)
  intro j hj
  have hj' : j < (l.filter fun x => !(decide (x = 0))).length := by simpa using hj
  have h2 := hH2 j (by simp; omega)
  rw [getElem!_pos _ j (by simp; omega)] at h2
  rw [getElem!_pos _ j (by simpa using hj)]
  simpa [List.getElem_append_left hj'] using h2

theorem wrap_bit (m : Nat) (hm : m ≤ 12) : IntKind.u32.wrap ((2 : Int) ^ m) = ((2 ^ m : Nat) : Int) := by
  rw [IntKind.wrap_u32]
  have h2 : 2 ^ m ≤ 2 ^ 12 := Nat.pow_le_pow_right (by decide) hm
  have e : (2 : Int) ^ m = ((2 ^ m : Nat) : Int) := by simp
  rw [e]
  generalize 2 ^ m = x at *
  omega
set_option maxRecDepth 100000 in
set_option maxHeartbeats 4000000 in
theorem partsOf_any (q : Qm) (second : Bool) (A : Option Addr) (n c : Nat) (w : World) (hq : Qi w q A n c) (hr : q.right = 0) (hk : q.kind ≠ 1) :
    Calls Try.prog 76 #[qV q (.slice A n c), .bool second] w fun e w' => ∃ b cap, e = .returned (.slice (some ⟨b, 0, none⟩) (q.parts second).length cap) ∧ (q.parts second).length ≤ cap ∧ cap ≤ 12 ∧
      RdU w' w'.heap.size (some ⟨b, 0, none⟩) (q.parts second).length (q.parts second) ∧ w.heap.size ≤ b ∧ Below w.heap.size w w' := by
  obtain ⟨hn1, hn2, _⟩ := q.right_cases hr
  have hnn : q.nodes = (q.n : Int) := by unfold Qm.n; omega
  have hn12 : q.n ≤ 12 := by omega
  obtain ⟨w1, HW1, HB1, HK1⟩ := boxed q.kind q.nodes q.one q.two A n c w
  have HQ := Lib.hid hq
  have HR := Lib.hid hr
  have HKN := Lib.hid hk
  unfold qV
  have HNN := Lib.hid hnn
  rw [hnn]
  obtain ⟨N, hN⟩ : ∃ N, N = q.n := ⟨_, rfl⟩
  rw [← hN] at hn12 ⊢
  have HN := Lib.hid hN
  obtain ⟨w2, hw2⟩ : ∃ w2, w2 = w1.alloc (.cells (rowA (q.row second 0)) 135) := ⟨_, rfl⟩
  have hb2 : RowKit.Below w1.heap.size w1 w2 := by rw [hw2]; exact (Below.refl _ _).alloc (Nat.le_refl _) _
  have hs1 : w1.heap.size = w.heap.size + 1 := by rw [HW1.out]; simp
  have HK2 : Hid (QB q.kind q.nodes q.one q.two A n c w2 w.heap.size) := Lib.hid (HK1.out.below hb2 HK1.out.lt)
  have HR2 : Hid (Bk w2 (w.heap.size + 1) 135 (rowA (q.row second 0))) := Lib.hid (by rw [← hs1, hw2]; exact Bk.new w1 _ _)
  have HB2 := Lib.hid (below_then HB1.out hb2)
  have hw2' : w2 = (w.alloc (.cells #[.int .i64 q.kind, .int .i64 (N : Int), .int .i64 q.one, .int .i64 q.two, .slice A n c] 24)).alloc (.cells #[.int .u32 0, .int .u32 0, .int .u32 0, .int .u32 0, .int .u32 0, .int .u32 0, .int .u32 0, .int .u32 0, .int .u32 0, .int .u32 0, .int .u32 0, .int .u32 0] 135) := by
    rw [hw2, HW1.out, hnn, ← hN]
    rfl
  have HW2 := Lib.hid hw2'
  have hpl := q.parts_len second
  obtain ⟨r, hrr⟩ : ∃ r, r = q.parts second := ⟨_, rfl⟩
  rw [← hrr] at hpl ⊢
  have HRR := Lib.hid hrr
  clear hq hr hk hnn hw2 hw2' hb2 hs1 hN hrr
  go_enter Try.func76, Try.ntmps76
  go_wp2
  rw [← HW2.out]
  go_loopg [9] N (fun g i wr => ∃ k : Nat, i = .int .i64 (k : Int) ∧ k + g = N ∧ Hid (RowKit.Below w.heap.size w wr ∧ QB q.kind q.nodes q.one q.two A n c wr w.heap.size ∧ Bk wr (w.heap.size + 1) 135 (rowA (q.row second k))))
  case atStart => exact ⟨0, rfl, by omega, Lib.hid ⟨HB2.out, HK2.out, HR2.out⟩⟩
  case round =>
    obtain ⟨k, rfl, hkg, HH⟩ := hrel
    by_cases hkn : k < N
    · have hlt := q.part_lt HR.out second k (by rw [← HN.out]; exact hkn) HKN.out
      have hnext := Lib.hid (q.row_next second k)
      have hml := q.mask_lt' second k (q.part second k) (by omega)
      have HPO : Hid (∀ W, RowKit.Below w.heap.size w W → Calls Try.prog 78 #[.agg #[.int .i64 q.kind, .int .i64 (N : Int), .int .i64 q.one, .int .i64 q.two, .slice A n c], .bool second, .int .i64 (k : Int)] W fun e w' => e = .returned (.int .i64 (q.part second k : Int)) ∧ RowKit.Below W.heap.size W w') := Lib.hid fun W hb => by
        have h := partOf_any q second k A n c W (HQ.out.up hb) HR.out HKN.out (by rw [← HN.out]; exact hkn)
        unfold qV at h
        rw [HNN.out, ← HN.out] at h
        exact h
      obtain ⟨hb, hkb, hrb⟩ := HH.out
      have c0 := hrb.cell (q.part second k)
      have c1 : (rowA (q.row second k))[q.part second k]? = some (.int .u32 (q.mask second k (q.part second k) : Int)) := by
        unfold rowA u32s
        rw [List.getElem?_toArray, List.getElem?_map, q.row_at second k _ hlt]
        rfl
      rw [c1] at c0
      have f0 := hrb.frozen (q.part second k)
      have HSet : Hid (∀ W, Bk W (w.heap.size + 1) 135 (rowA (q.row second k)) → Bk (W.setCell ⟨w.heap.size + 1, q.part second k, none⟩ (.int .u32 ((q.mask second k (q.part second k) ||| 2 ^ k : Nat) : Int))) (w.heap.size + 1) 135 (rowA (q.row second (k + 1)))) := Lib.hid fun W h => by
        have h2 := h.set_ (q.part second k) (.int .u32 ((q.mask second k (q.part second k) ||| 2 ^ k : Nat) : Int))
        rw [hnext.out]
        unfold rowA u32s at h2 ⊢
        rw [List.map_set]
        simpa using h2
      have hB : 2 ^ k ≤ 2 ^ 12 := Nat.pow_le_pow_right (by decide) (by omega)
      have e2 := wrap_bit k (by omega)
      have hor := u32_or_nat (q.mask second k (q.part second k)) (2 ^ k) (by omega) (by omega)
      obtain ⟨P, hP⟩ : ∃ P, P = q.part second k := ⟨_, rfl⟩
      obtain ⟨M, hM⟩ : ∃ M, M = q.mask second k (q.part second k) := ⟨_, rfl⟩
      obtain ⟨T, hT⟩ : ∃ T, T = 2 ^ k := ⟨_, rfl⟩
      rw [← hM, ← hP, ← hT] at HSet
      rw [← hM, ← hP] at c0
      rw [← hP] at HPO hlt f0
      rw [← hM, ← hT] at hor
      rw [← hT] at e2
      obtain ⟨k0, k1, k2, k3, k4⟩ := QB.cells q.kind q.nodes q.one q.two A n c hkb
      rw [HNN.out, ← HN.out] at k1
      have p1 : (P : Int) < 12 := by omega
      have p2 : (0 : Int) ≤ (P : Int) := by omega
      have hkN : (k : Int) < (N : Int) := by omega
      have HKB := Lib.hid hkb
      have HRB := Lib.hid hrb
      have HBB := Lib.hid hb
      clear hb hkb hrb hnext hml hB hP hM hT c1 HH
      go_wp2_with fail
      have HQB : Hid (∀ W3, RowKit.Below wr.heap.size wr W3 → RowKit.Below w.heap.size w W3 ∧ QB q.kind q.nodes q.one q.two A n c W3 w.heap.size ∧ Bk W3 (w.heap.size + 1) 135 (rowA (q.row second k)) ∧ W3.cell? ⟨w.heap.size + 1, P, none⟩ = some (.int .u32 (M : Int)) ∧ W3.frozen? ⟨w.heap.size + 1, P, none⟩ = false) := Lib.hid fun W3 hb3 =>
        ⟨below_then HBB.out hb3, HKB.out.below hb3 HKB.out.lt, HRB.out.below hb3 HRB.out.lt, (hb3.cell (p := ⟨w.heap.size + 1, P, none⟩) HRB.out.lt).trans c0, (HRB.out.below hb3 HRB.out.lt).frozen P⟩
      clear c0 f0
      go_region_law (go_simp; go_at_call 78; (with_reducible refine (HPO.out _ ?_).mono ?_); (first | exact HBB.out | exact HBB.out.drew); rintro e W3 ⟨rfl, hb3⟩; (obtain ⟨hb4, hk4, hr4, c0, f0⟩ := HQB.out W3 (by first | exact hb3 | exact (Below.refl _ _).drew.trans hb3)); (have HB4 := Lib.hid hb4); (have HK4 := Lib.hid hk4); (have HR4 := Lib.hid hr4); clear hb3 hb4 hk4 hr4)
      all_goals
        have HN3 := Lib.hid (HSet.out W3 HR4.out)
        have HB5 := Lib.hid (HB4.out.setCell (p := ⟨w.heap.size + 1, P, none⟩) (by simp) (.int .u32 ((M ||| T : Nat) : Int)))
        have HK5 : Hid (QB q.kind q.nodes q.one q.two A n c (W3.setCell ⟨w.heap.size + 1, P, none⟩ (.int .u32 ((M ||| T : Nat) : Int))) w.heap.size) := Lib.hid (Bk.below HK4.out (B := w.heap.size + 1) ((Below.refl _ _).setCell (p := ⟨w.heap.size + 1, P, none⟩) (Nat.le_refl _) _) (by omega))
        clear e2 hor c0 f0 HSet
        go_wp2
        go_roundg (gk - 1)
        case rel => exact ⟨k + 1, by go_num, by omega, Lib.hid ⟨HB5.out, HK5.out, HN3.out⟩⟩
        case measure => omega
    · obtain rfl : k = N := by omega
      have HD := Lib.hid (delNought_any (q.row second k) (w.heap.size + 1) wr (q.row_len second k) HH.out.2.2)
      have HB := Lib.hid HH.out.1
      have hlt := HH.out.2.2.lt
      have HL := Lib.hid hlt
      have hp : r = (q.row second k).filter fun x => !(decide (x = 0)) := by rw [HRR.out]; unfold Qm.parts; rw [← HN.out]
      rw [← hp] at HD
      clear HH hp hlt
      go_wp2_with fail
      refine HD.out.mono ?_
      rintro e w3 ⟨rfl, hh, hb⟩
      have HHo := Lib.hid hh
      have HB3 := Lib.hid (HB.out.trans (hb.mono (by omega)))
      have HS3 := Lib.hid (Nat.lt_of_lt_of_le HL.out hb.size)
      clear hh hb
      go_wp2
      go_ret
      exact ⟨w.heap.size + 1, 12, rfl, hpl, Nat.le_refl _, RdU.of_holds HHo.out HS3.out, by omega, HB3.out⟩
end Go.Proofs.Ytjapmolmgfaocaa

/- Layer 8: is it a quorum? -/
namespace Go.Proofs.Ytjapmolmgfaocaa
open Go.RowKit Go.Lib Go.Shelf

theorem any_upto {p : Nat → Bool} {l : List Nat} (h : ∀ j (hj : j < l.length), p l[j] = false) : l.any p = false := by
  rw [Bool.eq_false_iff]
  intro e
  obtain ⟨x, hx, hp⟩ := List.any_eq_true.1 e
  obtain ⟨j, hj, rfl⟩ := List.getElem_of_mem hx
  rw [h j hj] at hp
  cases hp
theorem all_upto {p : Nat → Bool} {l : List Nat} (h : ∀ j (hj : j < l.length), p l[j] = true) : l.all p = true := by
  rw [List.all_eq_true]
  intro x hx
  obtain ⟨j, hj, rfl⟩ := List.getElem_of_mem hx
  exact h j hj
section
variable (s n c : Nat) (A : Option Addr) (l : List Nat) (w : World)
set_option maxRecDepth 100000 in
set_option maxHeartbeats 1000000 in
theorem hasWhole_any (hs : s < 4294967296) (hn : n ≤ 4096) (hl : ∀ x ∈ l, x < 4294967296) (hr : RdU w w.heap.size A n l) :
    Calls Try.prog 77 #[.int .u32 (s : Int), .slice A n c] w fun e w' => e = .returned (.bool (wholeL s l)) ∧ w = w' := by
  have hln := hr.1
  have HR := Lib.hid hr
  have HL := Lib.hid hl
  have Hln := Lib.hid hln
  clear hr hl hln
  go_enter Try.func77, Try.ntmps77
  go_wp2
  go_loopg [9] n (fun g i wr => ∃ k : Nat, i = .int .i64 (k : Int) ∧ k + g = n ∧ w = wr ∧ Hid (∀ j (hj : j < l.length), j < k → decide (s &&& l[j] = l[j]) = false))
  case atStart => exact ⟨0, rfl, by omega, rfl, Lib.hid fun j _ h => absurd h (by omega)⟩
  case round =>
    obtain ⟨k, rfl, hkg, rfl, HH⟩ := hrel
    by_cases hkn : k < n
    · have hkl : k < l.length := by rw [Hln.out]; exact hkn
      obtain ⟨b, o, hA, hb, hc⟩ := HR.out.2 (by omega)
      subst hA
      have hcell := hc k hkl
      have hx := HL.out l[k] (List.getElem_mem hkl)
      have hand := u32_and_nat s l[k] hs hx
      obtain ⟨x, hx2⟩ : ∃ x, x = l[k] := ⟨_, rfl⟩
      rw [← hx2] at hcell hand hx
      have HX := Lib.hid hx2
      have hkn' : (k : Int) < (n : Int) := by omega
      clear hc hx2
      by_cases hd : s &&& x = x
      · have hd' : ((s &&& x : Nat) : Int) = (x : Int) := by rw [hd]
        rw [hd] at hand
        go_wp2
        go_ret
        refine ⟨ret_bool ?_, rfl⟩
        symm
        unfold wholeL
        rw [List.any_eq_true]
        exact ⟨l[k], List.getElem_mem hkl, by rw [← HX.out]; exact decide_eq_true hd⟩
      · obtain ⟨y, hy⟩ : ∃ y, y = s &&& x := ⟨_, rfl⟩
        rw [← hy] at hd hand
        have hd' : ¬ (y : Int) = (x : Int) := by omega
        have HY := Lib.hid hy
        clear hy
        go_wp2
        go_roundg (gk - 1)
        case rel => exact ⟨k + 1, by go_num, by omega, rfl, Lib.hid fun j hj hjk => by
          by_cases e : j = k
          · subst e; rw [← HX.out, ← HY.out]; exact decide_eq_false hd
          · exact HH.out j hj (by omega)⟩
        case measure => omega
    · obtain rfl : k = n := by omega
      go_wp2
      go_ret
      exact ⟨ret_bool (any_upto fun j hj => HH.out j hj (by rw [← Hln.out]; exact hj)).symm, rfl⟩
set_option maxRecDepth 100000 in
set_option maxHeartbeats 1000000 in
theorem meetsEach_any (hs : s < 4294967296) (hn : n ≤ 4096) (hl : ∀ x ∈ l, x < 4294967296) (hr : RdU w w.heap.size A n l) :
    Calls Try.prog 75 #[.int .u32 (s : Int), .slice A n c] w fun e w' => e = .returned (.bool (meetsL s l)) ∧ w = w' := by
  have hln := hr.1
  have HR := Lib.hid hr
  have HL := Lib.hid hl
  have Hln := Lib.hid hln
  clear hr hl hln
  go_enter Try.func75, Try.ntmps75
  go_wp2
  go_loopg [9] n (fun g i wr => ∃ k : Nat, i = .int .i64 (k : Int) ∧ k + g = n ∧ w = wr ∧ Hid (∀ j (hj : j < l.length), j < k → (!(decide (s &&& l[j] = 0))) = true))
  case atStart => exact ⟨0, rfl, by omega, rfl, Lib.hid fun j _ h => absurd h (by omega)⟩
  case round =>
    obtain ⟨k, rfl, hkg, rfl, HH⟩ := hrel
    by_cases hkn : k < n
    · have hkl : k < l.length := by rw [Hln.out]; exact hkn
      obtain ⟨b, o, hA, hb, hc⟩ := HR.out.2 (by omega)
      subst hA
      have hcell := hc k hkl
      have hx := HL.out l[k] (List.getElem_mem hkl)
      have hand := u32_and_nat s l[k] hs hx
      obtain ⟨x, hx2⟩ : ∃ x, x = l[k] := ⟨_, rfl⟩
      rw [← hx2] at hcell hand hx
      have HX := Lib.hid hx2
      have hkn' : (k : Int) < (n : Int) := by omega
      clear hc hx2
      by_cases hd : s &&& x = 0
      · rw [hd] at hand
        have hand : bits .and .u32 (s : Int) (x : Int) = 0 := hand
        go_wp2
        go_ret
        refine ⟨ret_bool ?_, rfl⟩
        symm
        unfold meetsL
        rw [Bool.eq_false_iff]
        intro e
        have := (List.all_eq_true.1 e) l[k] (List.getElem_mem hkl)
        rw [← HX.out, hd] at this
        simp at this
      · obtain ⟨y, hy⟩ : ∃ y, y = s &&& x := ⟨_, rfl⟩
        rw [← hy] at hd hand
        have hd' : ¬ (y : Int) = 0 := by omega
        have HY := Lib.hid hy
        clear hy
        go_wp2
        go_roundg (gk - 1)
        case rel => exact ⟨k + 1, by go_num, by omega, rfl, Lib.hid fun j hj hjk => by
          by_cases e : j = k
          · subst e; rw [← HX.out, ← HY.out, decide_eq_false hd]; rfl
          · exact HH.out j hj (by omega)⟩
        case measure => omega
    · obtain rfl : k = n := by omega
      go_wp2
      go_ret
      exact ⟨ret_bool (all_upto fun j hj => HH.out j hj (by rw [← Hln.out]; exact hj)).symm, rfl⟩
end
end Go.Proofs.Ytjapmolmgfaocaa

/- Layer 8: quorums of the phases. -/
namespace Go.Proofs.Ytjapmolmgfaocaa
open Go.RowKit Go.Lib Go.Shelf

/-- A system by its cells. -/
theorem qV_mk (q : Qm) (v : Value) : qV q v = .agg #[.int .i64 q.kind, .int .i64 q.nodes, .int .i64 q.one, .int .i64 q.two, v] := rfl
theorem Qm.n_cast (q : Qm) (h : q.right = 0) : q.nodes = (q.n : Int) ∧ q.n ≤ 12 ∧ 1 ≤ q.n := by
  have := q.right_cases h
  unfold Qm.n
  omega
theorem and_all_lt (q : Qm) (h : q.right = 0) (s : Nat) : s &&& q.all < 4096 := by
  have := q.all_lt (q.n_cast h).2.1
  exact Nat.and_lt_two_pow (n := 12) _ this

set_option maxRecDepth 100000 in
set_option maxHeartbeats 1000000 in
theorem isQuorum_bad (q : Qm) (second : Bool) (s : Nat) (A : Option Addr) (n c : Nat) (w : World) (hq : Qi w q A n c) (hr : q.right ≠ 0) :
    Calls Try.prog 70 #[qV q (.slice A n c), .bool second, .int .u32 (s : Int)] w fun e w' => e = .returned (.bool false) ∧ Below w.heap.size w w' := by
  obtain ⟨w1, HW1, HB1, HK1⟩ := boxed q.kind q.nodes q.one q.two A n c w
  have HRT := Lib.hid (right_any q A n c w1 (hq.up HB1.out))
  unfold qV at *
  obtain ⟨k0, k1, k2, k3, k4⟩ := HK1.out.cells
  rw [HW1.out] at k0 k1 k2 k3 k4
  clear hq
  generalize q.right = r at *
  go_enter Try.func70, Try.ntmps70
  go_wp2_with fail
  rw [← HW1.out]
  refine HRT.out.mono ?_
  rintro e w2 ⟨rfl, hb2⟩
  have HB2 := Lib.hid (below_then HB1.out hb2)
  clear hb2 k0 k1 k2 k3 k4
  go_wp2
  go_ret
  exact ⟨rfl, HB2.out⟩
set_option maxRecDepth 100000 in
set_option maxHeartbeats 4000000 in
theorem isQuorum_counts (q : Qm) (second : Bool) (s : Nat) (hs : s < 4294967296) (A : Option Addr) (n c : Nat) (w : World) (hq : Qi w q A n c) (hr : q.right = 0) (hk1 : q.kind = 1) :
    Calls Try.prog 70 #[qV q (.slice A n c), .bool second, .int .u32 (s : Int)] w fun e w' => e = .returned (.bool (q.isQ' second s)) ∧ Below w.heap.size w w' := by
  have hq' : q.isQ' second s = decide ((if second then q.two else q.one) ≤ (Lib.onesCount (s &&& q.all) : Int)) := by unfold Qm.isQ'; rw [if_pos hk1]; rfl
  rw [hq']
  clear hq'
  obtain ⟨hnc, hn12, hn1⟩ := q.n_cast hr
  have hal := q.all_lt hn12
  have hand := u32_and_nat s q.all hs (by omega)
  have HON := Lib.hid (fun W => ones_any W (s &&& q.all) (and_all_lt q hr s))
  obtain ⟨kd, nd, on, tw, l⟩ := q
  have hk1 : kd = 1 := hk1
  subst hk1
  obtain ⟨w1, HW1, HB1, HK1⟩ := boxed 1 nd on tw A n c w
  have HRT := Lib.hid (right_any ⟨1, nd, on, tw, l⟩ A n c w1 (hq.up HB1.out))
  rw [hr] at HRT
  unfold qV at *
  dsimp only at *
  obtain ⟨k0, k1, k2, k3, k4⟩ := HK1.out.cells
  rw [HW1.out] at k0 k1 k2 k3 k4
  have HCells : Hid (∀ W2, Below w1.heap.size w1 W2 → W2.cell? ⟨w.heap.size, 0, none⟩ = some (.int .i64 1) ∧ W2.cell? ⟨w.heap.size, 1, none⟩ = some (.int .i64 nd) ∧ W2.cell? ⟨w.heap.size, 2, none⟩ = some (.int .i64 on) ∧ W2.cell? ⟨w.heap.size, 3, none⟩ = some (.int .i64 tw) ∧ W2.cell? ⟨w.heap.size, 4, none⟩ = some (.slice A n c)) :=
    Lib.hid fun W2 hb => QB.cells 1 nd on tw A n c (HK1.out.below hb HK1.out.lt)
  have HAL := Lib.hid (fun W => all_any 1 nd on tw A n c W _ hnc hn12)
  have HCN := Lib.hid (fun W => count_any 1 nd on tw A n c W second)
  have hall : 2 ^ (Qm.n ⟨1, nd, on, tw, l⟩) - 1 = Qm.all ⟨1, nd, on, tw, l⟩ := rfl
  rw [hall] at HAL
  obtain ⟨x, hx⟩ : ∃ x, x = (if second then tw else on) := ⟨_, rfl⟩
  rw [← hx] at HCN ⊢
  generalize s &&& (Qm.all ⟨1, nd, on, tw, l⟩) = y at *
  generalize Qm.all ⟨1, nd, on, tw, l⟩ = al at *
  clear hall hal hx hr hq hnc hn12 hn1
  go_enter Try.func70, Try.ntmps70
  go_wp2_with fail
  rw [← HW1.out]
  refine HRT.out.mono ?_
  rintro e w2 ⟨rfl, hb2⟩
  obtain ⟨j0, j1, j2, j3, j4⟩ := HCells.out w2 hb2
  have HB2 := Lib.hid (below_then HB1.out hb2)
  have HC : Hid (∀ W, Below w2.heap.size w2 W → (W.cell? ⟨w.heap.size, 0, none⟩ = some (.int .i64 1) ∧ W.cell? ⟨w.heap.size, 1, none⟩ = some (.int .i64 nd) ∧ W.cell? ⟨w.heap.size, 2, none⟩ = some (.int .i64 on) ∧ W.cell? ⟨w.heap.size, 3, none⟩ = some (.int .i64 tw) ∧ W.cell? ⟨w.heap.size, 4, none⟩ = some (.slice A n c)) ∧ Below w2.heap.size w2 W) := Lib.hid fun W hb => ⟨HCells.out W (below_then hb2 hb), hb⟩
  clear hb2 k0 k1 k2 k3 k4
  go_wp2_with fail
  go_region_held3 (fun W => (W.cell? ⟨w.heap.size, 0, none⟩ = some (.int .i64 1) ∧ W.cell? ⟨w.heap.size, 1, none⟩ = some (.int .i64 nd) ∧ W.cell? ⟨w.heap.size, 2, none⟩ = some (.int .i64 on) ∧ W.cell? ⟨w.heap.size, 3, none⟩ = some (.int .i64 tw) ∧ W.cell? ⟨w.heap.size, 4, none⟩ = some (.slice A n c)) ∧ Below w2.heap.size w2 W) (first | (refine HC.out _ ?_; (repeat' (first | assumption | exact Below.refl _ _ | exact Nat.le_refl _ | apply Below.drew)); done) | go_keep)
    (first
    | (go_at_call 73; (with_reducible refine (HAL.out _).mono ?_); rintro e W3 ⟨rfl, hb3⟩; have hd3 : Below w2.heap.size w2 W3 := below_then (by (repeat' (first | assumption | exact Below.refl _ _ | apply Below.drew))) hb3; have hk3 := HC.out W3 hd3)
    | (go_at_call 74; (with_reducible refine (HCN.out _).mono ?_); rintro e W4 ⟨rfl, hb4⟩; have hd4 : Below w2.heap.size w2 W4 := below_then (by (repeat' (first | assumption | exact Below.refl _ _ | apply Below.drew))) hb4; have hk4 := HC.out W4 hd4)
    | (go_at_call 72; (with_reducible refine (HON.out _).mono ?_); rintro e W5 ⟨rfl, hb5⟩; have hd5 : Below w2.heap.size w2 W5 := below_then (by (repeat' (first | assumption | exact Below.refl _ _ | apply Below.drew))) hb5; have hk5 := HC.out W5 hd5))
  all_goals
    rename_i hH
    obtain ⟨_, hbW⟩ := hH
    have HF := Lib.hid (below_then HB2.out hbW)
    clear hbW hk3 hk4 hk5 hd3 hd4 hd5 hb3 hb4 hb5 HC HCells j0 j1 j2 j3 j4
    go_wp2
    go_ret
    exact ⟨rfl, HF.out⟩
set_option maxRecDepth 100000 in
set_option maxHeartbeats 4000000 in
theorem isQuorum_parts (q : Qm) (second : Bool) (s : Nat) (hs : s < 4294967296) (A : Option Addr) (n c : Nat) (w : World) (hq : Qi w q A n c) (hr : q.right = 0) (hk1 : q.kind ≠ 1) :
    Calls Try.prog 70 #[qV q (.slice A n c), .bool second, .int .u32 (s : Int)] w fun e w' => e = .returned (.bool (q.isQ' second s)) ∧ Below w.heap.size w w' := by
  obtain ⟨hnc, hn12, hn1⟩ := q.n_cast hr
  obtain ⟨w1, HW1, HB1, HK1⟩ := boxed q.kind q.nodes q.one q.two A n c w
  have HRT := Lib.hid (right_any q A n c w1 (hq.up HB1.out))
  rw [hr] at HRT
  have HPO := Lib.hid (fun W (hb : Below w1.heap.size w1 W) => partsOf_any q second A n c W (hq.up (below_then HB1.out hb)) hr hk1)
  have hpl := q.parts_lt second hn12
  have hpn := q.parts_len second
  have HM := Lib.hid (fun b cap W (h : RdU W W.heap.size (some ⟨b, 0, none⟩) (q.parts second).length (q.parts second)) => meetsEach_any s (q.parts second).length cap (some ⟨b, 0, none⟩) (q.parts second) W hs (by omega) (fun x hx => by have := (hpl x hx).1; omega) h)
  have HH := Lib.hid (fun b cap W (h : RdU W W.heap.size (some ⟨b, 0, none⟩) (q.parts second).length (q.parts second)) => hasWhole_any s (q.parts second).length cap (some ⟨b, 0, none⟩) (q.parts second) W hs (by omega) (fun x hx => by have := (hpl x hx).1; omega) h)
  have hq' : q.isQ' second s = if q.kind = 3 ∧ second = false then meetsL s (q.parts second) else wholeL s (q.parts second) := by unfold Qm.isQ'; rw [if_neg hk1]
  rw [hq']
  have hcs : q.kind = 2 ∨ q.kind = 3 := by rcases (q.right_cases hr).2.2 with ⟨h, _⟩ | ⟨h, _⟩ | ⟨h, _⟩ <;> omega
  clear hq' hpl hpn hr hk1 hnc hn12 hn1 hq
  unfold qV at *
  generalize meetsL s (q.parts second) = rm at *
  generalize wholeL s (q.parts second) = rw' at *
  generalize q.parts second = r at *
  obtain ⟨kd, nd, on, tw, l⟩ := q
  dsimp only at *
  obtain ⟨k0, k1, k2, k3, k4⟩ := HK1.out.cells
  rw [HW1.out] at k0 k1 k2 k3 k4
  have HCells : Hid (∀ W2, Below w1.heap.size w1 W2 → W2.cell? ⟨w.heap.size, 0, none⟩ = some (.int .i64 kd) ∧ W2.cell? ⟨w.heap.size, 1, none⟩ = some (.int .i64 nd) ∧ W2.cell? ⟨w.heap.size, 2, none⟩ = some (.int .i64 on) ∧ W2.cell? ⟨w.heap.size, 3, none⟩ = some (.int .i64 tw) ∧ W2.cell? ⟨w.heap.size, 4, none⟩ = some (.slice A n c)) :=
    Lib.hid fun W2 hb => QB.cells kd nd on tw A n c (HK1.out.below hb HK1.out.lt)
  rcases hcs with rfl | rfl
  · rw [if_neg (by simp)]
    go_enter Try.func70, Try.ntmps70
    go_wp2_with fail
    rw [← HW1.out]
    refine HRT.out.mono ?_
    rintro e w2 ⟨rfl, hb2⟩
    obtain ⟨j0, j1, j2, j3, j4⟩ := HCells.out w2 hb2
    have HB12 := Lib.hid hb2
    clear hb2 k0 k1 k2 k3 k4
    go_wp2_with fail
    refine (HPO.out _ HB12.out).mono ?_
    rintro e w3 ⟨b, cap, rfl, _, _, hrd, _, hb3⟩
    have HB3 := Lib.hid (below_then HB1.out (below_then HB12.out hb3))
    have HRD := Lib.hid hrd
    clear hrd hb3
    go_wp2_with fail
    refine (HH.out _ _ _ HRD.out).mono ?_
    rintro e w4 ⟨rfl, rfl⟩
    go_wp2
    go_ret
    exact ⟨rfl, HB3.out⟩
  · cases second with
    | true =>
      rw [if_neg (by simp)]
      go_enter Try.func70, Try.ntmps70
      go_wp2_with fail
      rw [← HW1.out]
      refine HRT.out.mono ?_
      rintro e w2 ⟨rfl, hb2⟩
      obtain ⟨j0, j1, j2, j3, j4⟩ := HCells.out w2 hb2
      have HB12 := Lib.hid hb2
      clear hb2 k0 k1 k2 k3 k4
      go_wp2_with fail
      refine (HPO.out _ HB12.out).mono ?_
      rintro e w3 ⟨b, cap, rfl, _, _, hrd, _, hb3⟩
      have HB3 := Lib.hid (below_then HB1.out (below_then HB12.out hb3))
      have HRD := Lib.hid hrd
      clear hrd hb3
      go_wp2_with fail
      refine (HH.out _ _ _ HRD.out).mono ?_
      rintro e w4 ⟨rfl, rfl⟩
      go_wp2
      go_ret
      exact ⟨rfl, HB3.out⟩
    | false =>
      rw [if_pos (by simp)]
      go_enter Try.func70, Try.ntmps70
      go_wp2_with fail
      rw [← HW1.out]
      refine HRT.out.mono ?_
      rintro e w2 ⟨rfl, hb2⟩
      obtain ⟨j0, j1, j2, j3, j4⟩ := HCells.out w2 hb2
      have HB12 := Lib.hid hb2
      clear hb2 k0 k1 k2 k3 k4
      go_wp2_with fail
      refine (HPO.out _ HB12.out).mono ?_
      rintro e w3 ⟨b, cap, rfl, _, _, hrd, _, hb3⟩
      have HB3 := Lib.hid (below_then HB1.out (below_then HB12.out hb3))
      have HRD := Lib.hid hrd
      clear hrd hb3
      go_wp2_with fail
      refine (HM.out _ _ _ HRD.out).mono ?_
      rintro e w4 ⟨rfl, rfl⟩
      go_wp2
      go_ret
      exact ⟨rfl, HB3.out⟩
theorem isQuorum_any (q : Qm) (second : Bool) (s : Nat) (hs : s < 4294967296) (A : Option Addr) (n c : Nat) (w : World) (hq : Qi w q A n c) :
    Calls Try.prog 70 #[qV q (.slice A n c), .bool second, .int .u32 (s : Int)] w fun e w' => e = .returned (.bool (q.isQ second s)) ∧ Below w.heap.size w w' := by
  unfold Qm.isQ
  split
  · rename_i hr
    by_cases hk : q.kind = 1
    · exact isQuorum_counts q second s hs A n c w hq hr hk
    · exact isQuorum_parts q second s hs A n c w hq hr hk
  · rename_i hr
    exact isQuorum_bad q second s A n c w hq hr
end Go.Proofs.Ytjapmolmgfaocaa
