/- Of the proofs of layer 4, merged: QuY. -/
import Derived.Test.YtjapmolmgfaocaaMQuT
import Derived.Test.YtjapmolmgfaocaaM1Append2
import Derived.Test.YtjapmolmgfaocaaMFoot

/- Layer 8: First, Second, Can; the sets of so many nodes. -/
namespace Go.Proofs.Ytjapmolmgfaocaa
open Go.RowKit Go.Lib Go.Shelf

section
variable (q : Qm) (s : Nat) (hs : s < 4294967296) (A : Option Addr) (n c : Nat) (w : World) (hq : Qi w q A n c)
include hs hq
set_option maxRecDepth 100000 in
set_option maxHeartbeats 1000000 in
theorem first_any : Calls Try.prog 63 #[qV q (.slice A n c), .int .u32 (s : Int)] w fun e w' => e = .returned (.bool (q.isQ false s)) ∧ Below w.heap.size w w' := by
  obtain ⟨w1, HW1, HB1, HK1⟩ := boxed q.kind q.nodes q.one q.two A n c w
  have HI := Lib.hid (isQuorum_any q false s hs A n c w1 (hq.up HB1.out))
  unfold qV at *
  clear hq hs
  obtain ⟨k0, k1, k2, k3, k4⟩ := HK1.out.cells
  rw [HW1.out] at k0 k1 k2 k3 k4
  go_enter Try.func63, Try.ntmps63
  go_wp2_with fail
  rw [← HW1.out]
  refine HI.out.mono ?_
  rintro e w2 ⟨rfl, hb2⟩
  have HB2 := Lib.hid (below_then HB1.out hb2)
  clear hb2 k0 k1 k2 k3 k4
  go_wp2
  go_ret
  exact ⟨rfl, HB2.out⟩
set_option maxRecDepth 100000 in
set_option maxHeartbeats 1000000 in
theorem second_any : Calls Try.prog 71 #[qV q (.slice A n c), .int .u32 (s : Int)] w fun e w' => e = .returned (.bool (q.isQ true s)) ∧ Below w.heap.size w w' := by
  obtain ⟨w1, HW1, HB1, HK1⟩ := boxed q.kind q.nodes q.one q.two A n c w
  have HI := Lib.hid (isQuorum_any q true s hs A n c w1 (hq.up HB1.out))
  unfold qV at *
  clear hq hs
  obtain ⟨k0, k1, k2, k3, k4⟩ := HK1.out.cells
  rw [HW1.out] at k0 k1 k2 k3 k4
  go_enter Try.func71, Try.ntmps71
  go_wp2_with fail
  rw [← HW1.out]
  refine HI.out.mono ?_
  rintro e w2 ⟨rfl, hb2⟩
  have HB2 := Lib.hid (below_then HB1.out hb2)
  clear hb2 k0 k1 k2 k3 k4
  go_wp2
  go_ret
  exact ⟨rfl, HB2.out⟩
end

/-- The sets of fewer than k. -/
def cntL (m : Int) (k : Nat) : List Nat := (List.range k).filter (fun s => decide ((Lib.onesCount s : Int) = m))
theorem cntL_yes {m : Int} {k : Nat} (h : (Lib.onesCount k : Int) = m) : cntL m (k + 1) = cntL m k ++ [k] := by
  unfold cntL
  rw [List.range_succ, List.filter_append]
  simp [h]
theorem cntL_no {m : Int} {k : Nat} (h : ¬ (Lib.onesCount k : Int) = m) : cntL m (k + 1) = cntL m k := by
  unfold cntL
  rw [List.range_succ, List.filter_append]
  simp [h]
theorem cntL_len (m : Int) (k : Nat) : (cntL m k).length ≤ k := by
  have := List.length_filter_le (fun s => decide ((Lib.onesCount s : Int) = m)) (List.range k)
  rw [List.length_range] at this
  exact this
theorem u32s_append (l : List Nat) (x : Nat) : u32s (l ++ [x]) = u32s l ++ [.int .u32 (x : Int)] := by simp [u32s]
theorem own_up {w w' : World} {base e size n : Nat} {v : Value} {xs : List Value} (h : w.ownsRow base e size v n xs) (hb : Below w.heap.size w w') : w'.ownsRow base e size v n xs := own_kp h (Kp.of_below (F := fun _ => False) hb) (fun _ _ hf => hf)
theorem infoU32s : (Try.prog.info? 106).map (fun i => (i.zero, i.size, i.bytes)) = some (some (.int .u32 0), 1, 4) := by kernel_rfl
end Go.Proofs.Ytjapmolmgfaocaa
