/- Layer 8: the nodes of each row, column or site. -/
import Derived.Test.YthkkkldkpdkabaaQuS
import Derived.Lib.OwnBridge
namespace Go.Proofs.Ythkkkldkpdkabaa
open Go.RowKit Go.Lib Go.Shelf Go.Sort

def u32s (l : List Nat) : List Value := l.map fun x : Nat => Value.int .u32 (x : Int)
/-- A slice of length n at A reads as the numbers l. -/
def RdU (w : World) (B : Nat) (A : Option Addr) (n : Nat) (l : List Nat) : Prop :=
  l.length = n ∧ (0 < n → ∃ b o, A = some ⟨b, o, none⟩ ∧ b < B ∧ ∀ j (h : j < l.length), w.cell? ⟨b, o + j, none⟩ = some (.int .u32 (l[j] : Int)))
section
variable {w w' : World} {B B' n : Nat} {A : Option Addr} {l : List Nat}
theorem RdU.nil (w : World) (B : Nat) (A : Option Addr) : RdU w B A 0 [] := ⟨rfl, fun h => absurd h (by omega)⟩
theorem RdU.keep (h : RdU w B A n l) (hk : ∀ p : Addr, p.block < B → w'.cell? p = w.cell? p) : RdU w' B A n l :=
  ⟨h.1, fun hn => by obtain ⟨b, o, e, hb, hc⟩ := h.2 hn; exact ⟨b, o, e, hb, fun j hj => (hk _ hb).trans (hc j hj)⟩⟩
theorem RdU.more (h : RdU w B A n l) (hB : B ≤ B') : RdU w B' A n l :=
  ⟨h.1, fun hn => by obtain ⟨b, o, e, hb, hc⟩ := h.2 hn; exact ⟨b, o, e, by omega, hc⟩⟩
theorem RdU.below (h : RdU w B A n l) (hb : Below B w w') : RdU w' B A n l := h.keep fun _ hp => hb.cell hp
theorem RdU.up (h : RdU w w.heap.size A n l) (hb : Below w.heap.size w w') : RdU w' w'.heap.size A n l := (h.below hb).more hb.size
end
def rowA (l : List Nat) : Array Value := (u32s l).toArray

set_option maxRecDepth 100000 in
set_option maxHeartbeats 400000 in
theorem isNought_any (x : Nat) (W : World) : Calls Try.prog 78 #[.int .u32 (x : Int)] W fun e w' => e = .returned (.bool (decide (x = 0))) ∧ W = w' := by
  go_enter Try.func78, Try.ntmps78
  go_wp2
  go_ret
  exact ⟨ret_bool (by rw [Bool.eq_iff_iff]; simp), rfl⟩

abbrev encU (x : Nat) : Value := .int .u32 (x : Int)
theorem RdU.of_holds {W : World} {g o : Nat} {l : List Nat} (h : Holds encU W g o l.toArray) (hg : g < W.heap.size) : RdU W W.heap.size (some ⟨g, o, none⟩) l.length l :=
  ⟨rfl, fun _ => ⟨g, o, rfl, hg, fun j hj => by rw [(h j (by simpa using hj)).1, getElem!_pos l.toArray j (by simpa using hj)]; simp⟩⟩
/-- slices.DeleteFunc of what is nought, of a row of twelve. -/
theorem delNought_any (l : List Nat) (g : Nat) (W : World) (hl : l.length = 12) (hb : Bk W g 123 (rowA l)) :
    Calls Try.prog 77 #[.slice (some ⟨g, 0, none⟩) 12 12, .func (.func 78) #[] #[]] W fun e w' =>
      e = .returned (.slice (some ⟨g, 0, none⟩) (l.filter fun x => !(decide (x = 0))).length 12) ∧ Holds encU w' g 0 (l.filter fun x => !(decide (x = 0))).toArray ∧ RowKit.Below g W w' := by
  have hsz : l.toArray.size = 12 := by simpa using hl
  have hH : Holds encU W g 0 l.toArray := fun j hj => by
    have hj' : j < l.length := by simpa using hj
    rw [Nat.zero_add, hb.cell j, hb.frozen j, getElem!_pos l.toArray j (by simpa using hj)]
    refine ⟨?_, rfl⟩
    unfold rowA u32s
    rw [List.getElem?_toArray, List.getElem?_map, List.getElem?_eq_getElem hj']
    simp
  have hg : ∀ (x : Nat) (W' : World), FnGives Try.prog 78 #[] #[encU x] (.bool (decide (x = 0))) W' := fun x W' => by
    show Calls Try.prog 78 #[.int .u32 (x : Int)] W' _
    refine (isNought_any x W').mono ?_
    rintro e w' ⟨rfl, rfl⟩
    exact ⟨rfl, 0, rfl⟩
  have H := AnyE.slices_DeleteFunc layDf encU (fun _ => rfl) (fun x => decide (x = 0)) 78 #[] (enters_of Try.func78 (by kernel_rfl) rfl) 0 Try.zeroValue62 g 0 12 l.toArray W
    (fun W' x _ => hg x W') (fun n os dk x _ => hg x _) hH (by omega) (by omega)
  rw [hsz] at H
  refine Calls.mono (show Calls Try.prog 77 _ _ _ from H) ?_
  rintro e w' ⟨rfl, q, rfl⟩
  have hfl := List.length_filter_le (fun x => !(decide (x = 0))) l
  rw [hl] at hfl
  refine ⟨by simp, ?_, below_putRow (Below.refl _ _) (Nat.le_refl _)⟩
  have hH2 := holds_putRow encU (Sort.ahead W q) g 0 l.toArray ((l.toArray.toList.filter fun x => !(decide (x = 0))) ++ List.replicate (12 - (l.toArray.toList.filter fun x => !(decide (x = 0))).length) 0).toArray hH (by simp; omega)
  intro j hj
  have hj' : j < (l.filter fun x => !(decide (x = 0))).length := by simpa using hj
  have h2 := hH2 j (by simp; omega)
  rw [getElem!_pos _ j (by simp; omega)] at h2
  rw [getElem!_pos _ j (by simpa using hj)]
  simpa [List.getElem_append_left hj'] using h2

theorem wrap_bit (m : Nat) (hm : m ≤ 12) : IntKind.u32.wrap ((2 : Int) ^ m) = ((2 ^ m : Nat) : Int) := by
  rw [IntKind.wrap_u32]
  have h2 : 2 ^ m ≤ 2 ^ 12 := Nat.pow_le_pow_right (by decide) hm
  have e : (2 : Int) ^ m = ((2 ^ m : Nat) : Int) := by simp
  rw [e]
  generalize 2 ^ m = x at *
  omega
set_option maxRecDepth 100000 in
set_option maxHeartbeats 4000000 in
theorem partsOf_any (q : Qm) (second : Bool) (A : Option Addr) (n c : Nat) (w : World) (hq : Qi w q A n c) (hr : q.right = 0) (hk : q.kind ≠ 1) :
    Calls Try.prog 73 #[qV q (.slice A n c), .bool second] w fun e w' => ∃ b cap, e = .returned (.slice (some ⟨b, 0, none⟩) (q.parts second).length cap) ∧ (q.parts second).length ≤ cap ∧ cap ≤ 12 ∧
      RdU w' w'.heap.size (some ⟨b, 0, none⟩) (q.parts second).length (q.parts second) ∧ w.heap.size ≤ b ∧ Below w.heap.size w w' := by
  obtain ⟨hn1, hn2, _⟩ := q.right_cases hr
  have hnn : q.nodes = (q.n : Int) := by unfold Qm.n; omega
  have hn12 : q.n ≤ 12 := by omega
  obtain ⟨w1, HW1, HB1, HK1⟩ := boxed q.kind q.nodes q.one q.two A n c w
  have HQ := Lib.hid hq
  have HR := Lib.hid hr
  have HKN := Lib.hid hk
  unfold qV
  have HNN := Lib.hid hnn
  rw [hnn]
  obtain ⟨N, hN⟩ : ∃ N, N = q.n := ⟨_, rfl⟩
  rw [← hN] at hn12 ⊢
  have HN := Lib.hid hN
  obtain ⟨w2, hw2⟩ : ∃ w2, w2 = w1.alloc (.cells (rowA (q.row second 0)) 123) := ⟨_, rfl⟩
  have hb2 : RowKit.Below w1.heap.size w1 w2 := by rw [hw2]; exact (Below.refl _ _).alloc (Nat.le_refl _) _
  have hs1 : w1.heap.size = w.heap.size + 1 := by rw [HW1.out]; simp
  have HK2 : Hid (QB q.kind q.nodes q.one q.two A n c w2 w.heap.size) := Lib.hid (HK1.out.below hb2 HK1.out.lt)
  have HR2 : Hid (Bk w2 (w.heap.size + 1) 123 (rowA (q.row second 0))) := Lib.hid (by rw [← hs1, hw2]; exact Bk.new w1 _ _)
  have HB2 := Lib.hid (below_then HB1.out hb2)
  have hw2' : w2 = (w.alloc (.cells #[.int .i64 q.kind, .int .i64 (N : Int), .int .i64 q.one, .int .i64 q.two, .slice A n c] 24)).alloc (.cells #[.int .u32 0, .int .u32 0, .int .u32 0, .int .u32 0, .int .u32 0, .int .u32 0, .int .u32 0, .int .u32 0, .int .u32 0, .int .u32 0, .int .u32 0, .int .u32 0] 123) := by
    rw [hw2, HW1.out, hnn, ← hN]
    rfl
  have HW2 := Lib.hid hw2'
  have hpl := q.parts_len second
  obtain ⟨r, hrr⟩ : ∃ r, r = q.parts second := ⟨_, rfl⟩
  rw [← hrr] at hpl ⊢
  have HRR := Lib.hid hrr
  clear hq hr hk hnn hw2 hw2' hb2 hs1 hN hrr
  go_enter Try.func73, Try.ntmps73
  go_wp2
  rw [← HW2.out]
  go_loopg [9] N (fun g i wr => ∃ k : Nat, i = .int .i64 (k : Int) ∧ k + g = N ∧ Hid (RowKit.Below w.heap.size w wr ∧ QB q.kind q.nodes q.one q.two A n c wr w.heap.size ∧ Bk wr (w.heap.size + 1) 123 (rowA (q.row second k))))
  case atStart => exact ⟨0, rfl, by omega, Lib.hid ⟨HB2.out, HK2.out, HR2.out⟩⟩
  case round =>
    obtain ⟨k, rfl, hkg, HH⟩ := hrel
    by_cases hkn : k < N
    · have hlt := q.part_lt HR.out second k (by rw [← HN.out]; exact hkn) HKN.out
      have hnext := Lib.hid (q.row_next second k)
      have hml := q.mask_lt' second k (q.part second k) (by omega)
      have HPO : Hid (∀ W, RowKit.Below w.heap.size w W → Calls Try.prog 76 #[.agg #[.int .i64 q.kind, .int .i64 (N : Int), .int .i64 q.one, .int .i64 q.two, .slice A n c], .bool second, .int .i64 (k : Int)] W fun e w' => e = .returned (.int .i64 (q.part second k : Int)) ∧ RowKit.Below W.heap.size W w') := Lib.hid fun W hb => by
        have h := partOf_any q second k A n c W (HQ.out.up hb) HR.out HKN.out (by rw [← HN.out]; exact hkn)
        unfold qV at h
        rw [HNN.out, ← HN.out] at h
        exact h
      obtain ⟨hb, hkb, hrb⟩ := HH.out
      have c0 := hrb.cell (q.part second k)
      have c1 : (rowA (q.row second k))[q.part second k]? = some (.int .u32 (q.mask second k (q.part second k) : Int)) := by
        unfold rowA u32s
        rw [List.getElem?_toArray, List.getElem?_map, q.row_at second k _ hlt]
        rfl
      rw [c1] at c0
      have f0 := hrb.frozen (q.part second k)
      have HSet : Hid (∀ W, Bk W (w.heap.size + 1) 123 (rowA (q.row second k)) → Bk (W.setCell ⟨w.heap.size + 1, q.part second k, none⟩ (.int .u32 ((q.mask second k (q.part second k) ||| 2 ^ k : Nat) : Int))) (w.heap.size + 1) 123 (rowA (q.row second (k + 1)))) := Lib.hid fun W h => by
        have h2 := h.set_ (q.part second k) (.int .u32 ((q.mask second k (q.part second k) ||| 2 ^ k : Nat) : Int))
        rw [hnext.out]
        unfold rowA u32s at h2 ⊢
        rw [List.map_set]
        simpa using h2
      have hB : 2 ^ k ≤ 2 ^ 12 := Nat.pow_le_pow_right (by decide) (by omega)
      have e2 := wrap_bit k (by omega)
      have hor := u32_or_nat (q.mask second k (q.part second k)) (2 ^ k) (by omega) (by omega)
      obtain ⟨P, hP⟩ : ∃ P, P = q.part second k := ⟨_, rfl⟩
      obtain ⟨M, hM⟩ : ∃ M, M = q.mask second k (q.part second k) := ⟨_, rfl⟩
      obtain ⟨T, hT⟩ : ∃ T, T = 2 ^ k := ⟨_, rfl⟩
      rw [← hM, ← hP, ← hT] at HSet
      rw [← hM, ← hP] at c0
      rw [← hP] at HPO hlt f0
      rw [← hM, ← hT] at hor
      rw [← hT] at e2
      obtain ⟨k0, k1, k2, k3, k4⟩ := QB.cells q.kind q.nodes q.one q.two A n c hkb
      rw [HNN.out, ← HN.out] at k1
      have p1 : (P : Int) < 12 := by omega
      have p2 : (0 : Int) ≤ (P : Int) := by omega
      have hkN : (k : Int) < (N : Int) := by omega
      have HKB := Lib.hid hkb
      have HRB := Lib.hid hrb
      have HBB := Lib.hid hb
      clear hb hkb hrb hnext hml hB hP hM hT c1 HH
      go_wp2_with fail
      have HQB : Hid (∀ W3, RowKit.Below wr.heap.size wr W3 → RowKit.Below w.heap.size w W3 ∧ QB q.kind q.nodes q.one q.two A n c W3 w.heap.size ∧ Bk W3 (w.heap.size + 1) 123 (rowA (q.row second k)) ∧ W3.cell? ⟨w.heap.size + 1, P, none⟩ = some (.int .u32 (M : Int)) ∧ W3.frozen? ⟨w.heap.size + 1, P, none⟩ = false) := Lib.hid fun W3 hb3 =>
        ⟨below_then HBB.out hb3, HKB.out.below hb3 HKB.out.lt, HRB.out.below hb3 HRB.out.lt, (hb3.cell (p := ⟨w.heap.size + 1, P, none⟩) HRB.out.lt).trans c0, (HRB.out.below hb3 HRB.out.lt).frozen P⟩
      clear c0 f0
      go_region_law (go_simp; go_at_call 76; (with_reducible refine (HPO.out _ ?_).mono ?_); (first | exact HBB.out | exact HBB.out.drew); rintro e W3 ⟨rfl, hb3⟩; (obtain ⟨hb4, hk4, hr4, c0, f0⟩ := HQB.out W3 (by first | exact hb3 | exact (Below.refl _ _).drew.trans hb3)); (have HB4 := Lib.hid hb4); (have HK4 := Lib.hid hk4); (have HR4 := Lib.hid hr4); clear hb3 hb4 hk4 hr4)
      all_goals
        have HN3 := Lib.hid (HSet.out W3 HR4.out)
        have HB5 := Lib.hid (HB4.out.setCell (p := ⟨w.heap.size + 1, P, none⟩) (by simp) (.int .u32 ((M ||| T : Nat) : Int)))
        have HK5 : Hid (QB q.kind q.nodes q.one q.two A n c (W3.setCell ⟨w.heap.size + 1, P, none⟩ (.int .u32 ((M ||| T : Nat) : Int))) w.heap.size) := Lib.hid (Bk.below HK4.out (B := w.heap.size + 1) ((Below.refl _ _).setCell (p := ⟨w.heap.size + 1, P, none⟩) (Nat.le_refl _) _) (by omega))
        clear e2 hor c0 f0 HSet
        go_wp2
        go_roundg (gk - 1)
        case rel => exact ⟨k + 1, by go_num, by omega, Lib.hid ⟨HB5.out, HK5.out, HN3.out⟩⟩
        case measure => omega
    · obtain rfl : k = N := by omega
      have HD := Lib.hid (delNought_any (q.row second k) (w.heap.size + 1) wr (q.row_len second k) HH.out.2.2)
      have HB := Lib.hid HH.out.1
      have hlt := HH.out.2.2.lt
      have HL := Lib.hid hlt
      have hp : r = (q.row second k).filter fun x => !(decide (x = 0)) := by rw [HRR.out]; unfold Qm.parts; rw [← HN.out]
      rw [← hp] at HD
      clear HH hp hlt
      go_wp2_with fail
      refine HD.out.mono ?_
      rintro e w3 ⟨rfl, hh, hb⟩
      have HHo := Lib.hid hh
      have HB3 := Lib.hid (HB.out.trans (hb.mono (by omega)))
      have HS3 := Lib.hid (Nat.lt_of_lt_of_le HL.out hb.size)
      clear hh hb
      go_wp2
      go_ret
      exact ⟨w.heap.size + 1, 12, rfl, hpl, Nat.le_refl _, RdU.of_holds HHo.out HS3.out, by omega, HB3.out⟩
end Go.Proofs.Ythkkkldkpdkabaa
