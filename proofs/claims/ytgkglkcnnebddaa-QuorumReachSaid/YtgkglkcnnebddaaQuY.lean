/- Layer 8: First, Second, Can; the sets of so many nodes. -/
import Derived.Test.YtgkglkcnnebddaaQuX
import Derived.Test.YtgkglkcnnebddaaAppend2
import Derived.Test.YtgkglkcnnebddaaFoot
namespace Go.Proofs.Ytgkglkcnnebddaa
open Go.RowKit Go.Lib Go.Shelf

section
variable (q : Qm) (s : Nat) (hs : s < 4294967296) (A : Option Addr) (n c : Nat) (w : World) (hq : Qi w q A n c)
include hs hq
set_option maxRecDepth 100000 in
set_option maxHeartbeats 1000000 in
theorem first_any : Calls Try.prog 15 #[qV q (.slice A n c), .int .u32 (s : Int)] w fun e w' => e = .returned (.bool (q.isQ false s)) ∧ Below w.heap.size w w' := by
  obtain ⟨w1, HW1, HB1, HK1⟩ := boxed q.kind q.nodes q.one q.two A n c w
  have HI := Lib.hid (isQuorum_any q false s hs A n c w1 (hq.up HB1.out))
  unfold qV at *
  clear hq hs
  obtain ⟨k0, k1, k2, k3, k4⟩ := HK1.out.cells
  rw [HW1.out] at k0 k1 k2 k3 k4
  go_enter Try.func15, Try.ntmps15
  go_wp2_with fail
  rw [← HW1.out]
  refine HI.out.mono ?_
  rintro e w2 ⟨rfl, hb2⟩
  have HB2 := Lib.hid (below_then HB1.out hb2)
  clear hb2 k0 k1 k2 k3 k4
  go_wp2
  go_ret
  exact ⟨rfl, HB2.out⟩
set_option maxRecDepth 100000 in
set_option maxHeartbeats 1000000 in
theorem second_any : Calls Try.prog 16 #[qV q (.slice A n c), .int .u32 (s : Int)] w fun e w' => e = .returned (.bool (q.isQ true s)) ∧ Below w.heap.size w w' := by
  obtain ⟨w1, HW1, HB1, HK1⟩ := boxed q.kind q.nodes q.one q.two A n c w
  have HI := Lib.hid (isQuorum_any q true s hs A n c w1 (hq.up HB1.out))
  unfold qV at *
  clear hq hs
  obtain ⟨k0, k1, k2, k3, k4⟩ := HK1.out.cells
  rw [HW1.out] at k0 k1 k2 k3 k4
  go_enter Try.func16, Try.ntmps16
  go_wp2_with fail
  rw [← HW1.out]
  refine HI.out.mono ?_
  rintro e w2 ⟨rfl, hb2⟩
  have HB2 := Lib.hid (below_then HB1.out hb2)
  clear hb2 k0 k1 k2 k3 k4
  go_wp2
  go_ret
  exact ⟨rfl, HB2.out⟩
set_option maxRecDepth 100000 in
set_option maxHeartbeats 1000000 in
theorem can_any : Calls Try.prog 19 #[qV q (.slice A n c), .int .u32 (s : Int)] w fun e w' => e = .returned (.bool (q.can s)) ∧ Below w.heap.size w w' := by
  obtain ⟨w1, HW1, HB1, HK1⟩ := boxed q.kind q.nodes q.one q.two A n c w
  have H1 := Lib.hid (first_any q s hs A n c w1 (hq.up HB1.out))
  have H2 := Lib.hid (fun W (hb : Below w1.heap.size w1 W) => second_any q s hs A n c W (hq.up (below_then HB1.out hb)))
  have HCells : Hid (∀ W2, Below w1.heap.size w1 W2 → _) := Lib.hid fun W2 hb => QB.cells q.kind q.nodes q.one q.two A n c (HK1.out.below hb HK1.out.lt)
  unfold Qm.can
  unfold qV at *
  clear hq hs
  obtain ⟨k0, k1, k2, k3, k4⟩ := HK1.out.cells
  rw [HW1.out] at k0 k1 k2 k3 k4
  cases hf : q.isQ false s with
  | false =>
    rw [hf] at H1
    clear hf
    go_enter Try.func19, Try.ntmps19
    go_wp2_with fail
    rw [← HW1.out]
    refine H1.out.mono ?_
    rintro e w2 ⟨rfl, hb2⟩
    have HB2 := Lib.hid (below_then HB1.out hb2)
    clear hb2 k0 k1 k2 k3 k4
    go_wp2
    go_ret
    exact ⟨rfl, HB2.out⟩
  | true =>
    rw [hf] at H1
    clear hf
    generalize q.isQ true s = r at *
    go_enter Try.func19, Try.ntmps19
    go_wp2_with fail
    rw [← HW1.out]
    refine H1.out.mono ?_
    rintro e w2 ⟨rfl, hb2⟩
    obtain ⟨j0, j1, j2, j3, j4⟩ := HCells.out w2 hb2
    have HB12 := Lib.hid hb2
    clear hb2 k0 k1 k2 k3 k4
    go_wp2_with fail
    refine (H2.out _ HB12.out).mono ?_
    rintro e w3 ⟨rfl, hb3⟩
    have HB3 := Lib.hid (below_then HB1.out (below_then HB12.out hb3))
    clear hb3 j0 j1 j2 j3 j4
    go_wp2
    go_ret
    exact ⟨ret_bool (by simp), HB3.out⟩
end

/-- The sets of fewer than k. -/
def cntL (m : Int) (k : Nat) : List Nat := (List.range k).filter (fun s => decide ((Lib.onesCount s : Int) = m))
theorem cntL_yes {m : Int} {k : Nat} (h : (Lib.onesCount k : Int) = m) : cntL m (k + 1) = cntL m k ++ [k] := by
  unfold cntL
  rw [List.range_succ, List.filter_append]
  simp [h]
theorem cntL_no {m : Int} {k : Nat} (h : ¬ (Lib.onesCount k : Int) = m) : cntL m (k + 1) = cntL m k := by
  unfold cntL
  rw [List.range_succ, List.filter_append]
  simp [h]
theorem cntL_len (m : Int) (k : Nat) : (cntL m k).length ≤ k := by
  have := List.length_filter_le (fun s => decide ((Lib.onesCount s : Int) = m)) (List.range k)
  rw [List.length_range] at this
  exact this
theorem u32s_append (l : List Nat) (x : Nat) : u32s (l ++ [x]) = u32s l ++ [.int .u32 (x : Int)] := by simp [u32s]
theorem own_up {w w' : World} {base e size n : Nat} {v : Value} {xs : List Value} (h : w.ownsRow base e size v n xs) (hb : Below w.heap.size w w') : w'.ownsRow base e size v n xs := own_kp h (Kp.of_below (F := fun _ => False) hb) (fun _ _ hf => hf)
theorem infoU32s : (Try.prog.info? 29).map (fun i => (i.zero, i.size, i.bytes)) = some (some (.int .u32 0), 1, 4) := by kernel_rfl
set_option maxRecDepth 100000 in
set_option maxHeartbeats 4000000 in
theorem ofCount_any (q : Qm) (m : Int) (A : Option Addr) (n c : Nat) (w : World) (hr : q.right = 0) :
    Calls Try.prog 20 #[qV q (.slice A n c), .int .i64 m] w fun e w' => ∃ v, e = .returned v ∧ w'.ownsRow w.heap.size 29 1 v (q.ofCount m).length (u32s (q.ofCount m)) ∧ Below w.heap.size w w' := by
  obtain ⟨hnc, hn12, hn1⟩ := q.n_cast hr
  have hal := q.all_lt hn12
  have hof : q.ofCount m = cntL m (q.all + 1) := rfl
  rw [hof]
  obtain ⟨w1, HW1, HB1, HK1⟩ := boxed q.kind q.nodes q.one q.two A n c w
  have HAL : Hid (∀ W, Calls Try.prog 28 #[aggQ q.kind q.nodes q.one q.two A n c] W fun e w' => e = .returned (.int .u32 (q.all : Int)) ∧ Below W.heap.size W w') := Lib.hid (fun W => all_any q.kind q.nodes q.one q.two A n c W _ hnc hn12)
  obtain ⟨i0, hi0, hz0, hz1, hz2⟩ := info_parts infoU32s
  unfold qV
  generalize q.all = al at *
  clear hof hnc hn12 hn1 hr
  obtain ⟨k0, k1, k2, k3, k4⟩ := HK1.out.cells
  rw [HW1.out] at k0 k1 k2 k3 k4
  go_enter Try.func20, Try.ntmps20
  go_wp2_with fail
  rw [← HW1.out]
  refine (HAL.out _).mono ?_
  rintro e w2 ⟨rfl, hb2⟩
  have HB2 := Lib.hid (below_then HB1.out hb2)
  clear hb2 k0 k1 k2 k3 k4
  go_wp2_with fail
  go_loopg [5, 10] (al + 1) (fun g l i wr => ∃ (k : Nat) (V : Value), l = V ∧ i = .int .u32 (k : Int) ∧ k + g = al + 1 ∧ Hid (wr.ownsRow w.heap.size 29 1 V (cntL m k).length (u32s (cntL m k)) ∧ Below w.heap.size w wr))
  case atStart => exact ⟨0, _, rfl, rfl, by omega, Lib.hid ⟨World.ownsRow_nil _ _ _ _, HB2.out⟩⟩
  case round =>
    obtain ⟨k, V, rfl, rfl, hkg, HH⟩ := hrel
    obtain ⟨AV, cV, rfl, _⟩ := own_shape HH.out.1
    by_cases hk : k < al + 1
    · have HON := Lib.hid (ones_any wr k (by omega))
      have hkl : (k : Int) < (al : Int) + 1 := by omega
      by_cases hm : (onesCount k : Int) = m
      · have hlen := cntL_len m k
        have hnx := cntL_yes hm
        have HNX := Lib.hid hnx
        generalize onesCount k = oc at *
        subst hm
        go_wp2_with fail
        refine HON.out.mono ?_
        rintro e w3 ⟨rfl, hb3⟩
        have HB3 := Lib.hid (HH.out.2.trans (hb3.mono HH.out.2.size))
        have HO3 := Lib.hid (own_up HH.out.1 hb3)
        clear hb3 HH
        go_wp2_with (at_builtin; go_loud (refine wpList_append_app _ rfl _ _ 27 rfl w.heap.size 29 i0 (.int .u32 0) 1 4 Try.underlying27 hi0 hz0 hz1 hz2 rfl _ _ _ rfl (HO3.out.alloc _) (some ⟨w3.heap.size, 0, none⟩) 1 1 [.int .u32 (k : Int)] rfl rfl (by intro e; cases e) (one_new _ _ _ rfl) (by intro u hu; simp at hu; subst hu; rfl) (by unfold maxLen; omega) (by omega) (by have := HB3.out.size; simp; omega) ?_))
        intro v2 w4 ha
        have HN4 : Hid (w4.ownsRow w.heap.size 29 1 v2 (cntL (oc : Int) (k + 1)).length (u32s (cntL (oc : Int) (k + 1)))) := Lib.hid (by rw [HNX.out, u32s_append, List.length_append]; exact ha.own)
        have HB4 : Hid (Below w.heap.size w w4) := Lib.hid (ha.below (HB3.out.alloc HB3.out.size _) (by have := HB3.out.size; simp; omega) (own_block_ge HO3.out))
        clear ha HO3 HB3
        go_wp2
        go_roundg (gk - 1)
        case measure => omega
        case rel => exact ⟨k + 1, v2, rfl, by go_num, by omega, Lib.hid ⟨HN4.out, HB4.out⟩⟩
      · have HNX := Lib.hid (cntL_no hm)
        generalize onesCount k = oc at *
        go_wp2_with fail
        refine HON.out.mono ?_
        rintro e w3 ⟨rfl, hb3⟩
        have HB3 := Lib.hid (HH.out.2.trans (hb3.mono HH.out.2.size))
        have HO3 := Lib.hid (own_up HH.out.1 hb3)
        clear hb3 HH
        go_wp2
        go_roundg (gk - 1)
        case measure => omega
        case rel => exact ⟨k + 1, _, rfl, by go_num, by omega, Lib.hid ⟨by rw [HNX.out]; exact HO3.out, HB3.out⟩⟩
    · obtain rfl : k = al + 1 := by omega
      go_wp2
      go_ret
      exact ⟨_, rfl, HH.out.1, HH.out.2⟩
end Go.Proofs.Ytgkglkcnnebddaa
