/- NetCounts is true at every acts, if Back does as the chapter says. -/
import Derived.Test.YtfghbhjljbdlmaaNetB
import Derived.Test.YtfghbhjljbdlmaaNetGv
import Derived.Deep.LoopGhost
import Derived.Deep.RegionHeld3
import Derived.BigQuiet
import Derived.Deep.QuietTactic
namespace Go.Proofs.Ytfghbhjljbdlmaa
open Go.ChangeShapes Go.WideShapes Go.ChangeAt Go.RowKit

theorem send_cases {s : Nt} (h : s.Ok) (p : Pk) : (s.parted p.frm p.dst = true ∧ s.send p = (0, s)) ∨ (s.parted p.frm p.dst = false ∧ s.send p = (0, { s with row := s.row ++ [p] })) ∨ s.send p = (2, s) ∨ s.send p = (3, s) ∨ (s.row.length = 256 ∧ s.send p = (5, s)) := by
  unfold Nt.send
  split
  · exact .inr (.inr (.inl rfl))
  split
  · exact .inr (.inr (.inr (.inl rfl)))
  split
  · have := h.len
    exact .inr (.inr (.inr (.inr ⟨by omega, rfl⟩)))
  split
  · rename_i hp
    exact .inl ⟨hp, rfl⟩
  · rename_i hp
    exact .inr (.inl ⟨by simpa using hp, rfl⟩)
theorem take_cases (s : Nt) (a : Int) : (s.there a = true ∧ (s.take a).row.length + 1 = s.row.length) ∨ (s.there a = false ∧ s.take a = s) := by
  unfold Nt.take
  cases ht : s.there a with
  | false => exact .inr ⟨rfl, by simp⟩
  | true =>
    refine .inl ⟨rfl, ?_⟩
    have := (Nt.there_lt ht).2
    simp only [if_pos]
    unfold Nt.cut
    simp only [List.length_eraseIdx_of_lt this]
    omega
theorem look_there (s : Nt) (a : Int) : (s.look a).2 = s.there a := by
  unfold Nt.look
  cases ht : s.there a <;> simp
theorem twice_cases (s : Nt) (a : Int) : ((s.twice a).1 = true ∧ (s.twice a).2.row.length = s.row.length + 1) ∨ ((s.twice a).1 = false ∧ (s.twice a).2 = s) := by
  unfold Nt.twice
  split
  · exact .inl ⟨rfl, by simp⟩
  · exact .inr ⟨rfl, rfl⟩
theorem back_len (s : Nt) (a : Int) : (s.back a).row.length = s.row.length := by
  unfold Nt.back
  split
  · rename_i h
    have := (Nt.there_lt h).2
    simp only [List.length_append, List.length_eraseIdx_of_lt this, List.length_singleton]
    omega
  · rfl
theorem set_row (s : Nt) (a b : Int) (x : Bool) : (s.set a b x).2.row = s.row := by
  unfold Nt.set
  split <;> rfl
theorem set_r (s : Nt) (a b : Int) (x : Bool) : (s.set a b x).1 = 0 ∨ (s.set a b x).1 = 2 := by
  unfold Nt.set
  split
  · exact .inr rfl
  · exact .inl rfl

set_option maxHeartbeats 8000000 in
set_option maxRecDepth 100000 in
theorem netCounts_walk (hB : BackSaid) (A : Option Addr) (n c : Nat) (f : Nat → Ac6) (w : World) (_hc : n ≤ c) (_hm : c ≤ 9223372036854775807) (hA : Acts6 w w.heap.size A n f) :
    Calls Try.prog 5 #[.slice A n c] w fun e w' => e = .returned (.bool true) ∧ Below w.heap.size w w' := by
  have HKn := Lib.hid (nknown_any hB)
  have HBk := Lib.hid hB
  have HA := Lib.hid hA
  have HN : Hid (Calls Try.prog 15 #[.int .i64 3] w fun e w' => ∃ g F, e = .returned (.tuple #[.pointer (some ⟨g, 0, none⟩), .int .i64 0]) ∧ NN w w' F g (Nt.new 3)) := by
    exact Lib.hid (nn_new 3 w (by decide) (by decide))
  clear hB hA
  go_enter Try.func5, Try.ntmps5
  go_wp2_with fail
  refine HN.out.mono ?_
  clear HN
  rintro x w1 ⟨g, F0, rfl, h1⟩
  have HI0 : Hid (∃ F s, NN w w1 F g s ∧ s.row.length = 0) := Lib.hid ⟨F0, Nt.new 3, h1, rfl⟩
  clear h1
  go_wp2_with fail
  go_loopg [5, 6] n (fun q cv iv wr => ∃ k N : Nat, iv = .int .i64 k ∧ cv = .int .i64 N ∧ k + q = n ∧ Hid (∃ F s, NN w wr F g s ∧ s.row.length = N))
  case atStart => exact ⟨0, 0, rfl, rfl, by omega, HI0⟩
  case round =>
    obtain ⟨k, N, rfl, rfl, hk, HI⟩ := hrel
    have hcase : (k < n ∧ k < 400) ∨ (k < n ∧ ¬ k < 400) ∨ ¬ k < n := by omega
    obtain ⟨F, s, hI, hN⟩ := HI.out
    rcases hcase with ⟨hkn, hk2⟩ | hx
    · have hb0 := hI.2.2
      have hN256 : N ≤ 256 := by have := hI.1.ok.len; omega
      obtain ⟨b, o, rfl, hlt, hcells⟩ := (HA.out.below hb0) (by omega)
      obtain ⟨hok, c0, c1, c2, c3, c4, c5⟩ := hcells k hkn
      have hok0 : (f k).Ok w w.heap.size := by
        obtain ⟨_, _, e, _, h9⟩ := HA.out (by omega)
        exact (h9 k hkn).1
      generalize hG : f k = G at *
      obtain ⟨kd, xa, xb, ⟨fr, dt, l⟩, GA, gn, gc⟩ := G
      simp only at c0 c1 c2 c3 c4 c5
      obtain ⟨W2, hW2⟩ : ∃ W2, W2 = wr.alloc (.cells #[.int .i64 kd, .int .i64 xa, .int .i64 xb, .int .i64 fr, .int .i64 dt, .slice GA gn gc] 36) := ⟨_, rfl⟩
      have hbl2 : Below wr.heap.size wr W2 := by rw [hW2]; exact (Below.refl _ _).alloc (Nat.le_refl _) _
      have hkP : Bk W2 wr.heap.size 36 #[.int .i64 kd, .int .i64 xa, .int .i64 xb, .int .i64 fr, .int .i64 dt, .slice GA gn gc] := by rw [hW2]; exact Bk.new wr _ _
      have hI2 := hI.below hbl2
      have hAp : Apt W2 F wr.heap.size := ⟨hkP.lt, fun hf => by have := hI.lt _ hf; omega⟩
      have HLo := nlong_any ⟨fr, dt, l⟩ GA gn gc W2
      generalize hP : wr.heap.size = P at *
      have HW2 := Lib.hid hW2
      have HkP := Lib.hid hkP
      have HI2 := Lib.hid hI2
      have HAp := Lib.hid hAp
      have Hok0 := Lib.hid hok0
      replace HLo := Lib.hid HLo
      have n1 : (0 : Int) ≤ (k : Int) := by omega
      have n2 : (k : Int) < (n : Int) := by omega
      have n3 : (k : Int) < 400 := by omega
      have HP := Lib.hid hP
      clear hW2 hkP hI2 hAp hok hok0 hI hbl2 hcells hlt hP hb0 HI hG
      unfold pkV at HLo
      go_wp2_with fail
      rw [← HW2.out, HP.out]
      refine HLo.out.mono ?_
      rintro e W3 ⟨rfl, hb3⟩
      have hk3 := HkP.out.below hb3 HAp.out.lt
      have d0 : W3.cell? ⟨P, 0, none⟩ = some (.int .i64 kd) := hk3.cell 0
      have d1 : W3.cell? ⟨P, 1, none⟩ = some (.int .i64 xa) := hk3.cell 1
      have d2 : W3.cell? ⟨P, 2, none⟩ = some (.int .i64 xb) := hk3.cell 2
      have d3 : W3.cell? ⟨P, 3, none⟩ = some (.int .i64 fr) := hk3.cell 3
      have d4 : W3.cell? ⟨P, 4, none⟩ = some (.int .i64 dt) := hk3.cell 4
      have d5 : W3.cell? ⟨P, 5, none⟩ = some (.slice GA gn gc) := hk3.cell 5
      have HI3 := Lib.hid (HI2.out.below hb3)
      have HAp3 := Lib.hid (HAp.out.mv (Mv.below hb3))
      have HkP3 := Lib.hid hk3
      have hrd := Lib.hid ((Hok0.out.g.body.below HI3.out.2.2).more HI3.out.2.2.size)
      clear hk3 hb3 HLo HW2 HkP HI2 HAp HP c0 c1 c2 c3 c4 c5
      by_cases h3000 : 3000 < gn
      · rw [decide_eq_true h3000]
        go_wp2_with fail
        refine (HKn.out _).mono ?_
        rintro e w4 ⟨rfl, hb4⟩
        have Hb4 := Lib.hid (HI3.out.2.2.trans (hb4.mono HI3.out.2.2.size))
        clear hb4
        go_wp2
        go_ret
        exact ⟨rfl, Hb4.out⟩
      · rw [decide_eq_false h3000]
        have hkd : (kd = 0 ∨ kd = 1) ∨ kd = 2 ∨ kd = 3 ∨ kd = 4 ∨ kd = 5 ∨ kd = 7 ∨ kd = 8 ∨ (¬ kd = 0 ∧ ¬ kd = 1 ∧ ¬ kd = 2 ∧ ¬ kd = 3 ∧ ¬ kd = 4 ∧ ¬ kd = 5 ∧ ¬ kd = 7 ∧ ¬ kd = 8) := by omega
        rcases hkd with hkd | rfl | rfl | rfl | rfl | rfl | rfl | ⟨e0, e1, e2, e3, e4, e5, e7, e8⟩
        · have hPt := nParted_any HI3.out.1 fr dt
          have hS := HI3.out.acted (nSend_any g ⟨fr, dt, l⟩ GA gn gc s F W3 hrd.out HI3.out.1)
          unfold pkV at hS
          have hE : kd = 0 ∨ kd = 1 := hkd
          rcases send_cases HI3.out.1.ok ⟨fr, dt, l⟩ with ⟨s1, s2⟩ | ⟨s1, s2⟩ | s2 | s2 | ⟨s1, s2⟩
          · rw [s2] at hS
            replace hS := Lib.hid hS
            have s1 : s.parted fr dt = true := s1
            rw [s1] at hPt
            replace hPt := Lib.hid hPt
            clear s2
            rcases hE with rfl | rfl
            all_goals
              go_wp2_with fail
              refine hPt.out.mono ?_
              rintro e w0 ⟨rfl, rfl⟩
              go_wp2_with fail
              refine hS.out.mono ?_
              rintro e W4 ⟨rfl, F4, hn4, hm4⟩
              have hk4 := HkP3.out.mv HAp3.out hm4
              clear d0 d1 d2 d3 d4 d5
              have HN4 := Lib.hid hn4
              clear hm4 hn4 hS hPt
              have hcn : ((s).row.length : Int) = (N : Int) := by omega
              have hle : ¬ (256 : Int) < (N : Int) := by have := HN4.out.1.ok.len; omega
              have HL9 := HN4.out.len
              rw [hcn] at HL9
              replace HL9 := Lib.hid HL9
              have HLN : Hid ((s).row.length = N) := Lib.hid (by omega)
              clear hcn
              go_wp2_with fail
              refine HL9.out.mono ?_
              rintro e w9 ⟨rfl, rfl⟩
              clear HL9
              go_wp2
              go_roundg (gk - 1)
              case measure => omega
              case rel => exact ⟨k + 1, N, by go_num, by first | rfl | exact congrArg (Value.int IntKind.i64) (by omega), by omega, Lib.hid ⟨_, _, HN4.out, HLN.out⟩⟩
          · rw [s2] at hS
            replace hS := Lib.hid hS
            have s1 : s.parted fr dt = false := s1
            rw [s1] at hPt
            replace hPt := Lib.hid hPt
            clear s2
            rcases hE with rfl | rfl
            all_goals
              go_wp2_with fail
              refine hPt.out.mono ?_
              rintro e w0 ⟨rfl, rfl⟩
              go_wp2_with fail
              refine hS.out.mono ?_
              rintro e W4 ⟨rfl, F4, hn4, hm4⟩
              have hk4 := HkP3.out.mv HAp3.out hm4
              clear d0 d1 d2 d3 d4 d5
              have HN4 := Lib.hid hn4
              clear hm4 hn4 hS hPt
              have hlen : ({ s with row := s.row ++ [(⟨fr, dt, l⟩ : Pk)] : Nt }).row.length = s.row.length + 1 := by simp
              have hcn : (({ s with row := s.row ++ [(⟨fr, dt, l⟩ : Pk)] : Nt }).row.length : Int) = (N : Int) + 1 := by omega
              have hle : ¬ (256 : Int) < (N : Int) + 1 := by have := HN4.out.1.ok.len; omega
              have HL9 := HN4.out.len
              rw [hcn] at HL9
              replace HL9 := Lib.hid HL9
              have HLN : Hid (({ s with row := s.row ++ [(⟨fr, dt, l⟩ : Pk)] : Nt }).row.length = N + 1) := Lib.hid (by omega)
              clear hcn
              go_wp2_with fail
              refine HL9.out.mono ?_
              rintro e w9 ⟨rfl, rfl⟩
              clear HL9
              go_wp2
              go_roundg (gk - 1)
              case measure => omega
              case rel => exact ⟨k + 1, N + 1, by go_num, by first | rfl | exact congrArg (Value.int IntKind.i64) (by omega), by omega, Lib.hid ⟨_, _, HN4.out, HLN.out⟩⟩
          · rw [s2] at hS
            replace hS := Lib.hid hS
            replace hPt := Lib.hid hPt
            clear s2
            rcases hE with rfl | rfl
            all_goals
              go_wp2_with fail
              refine hPt.out.mono ?_
              rintro e w0 ⟨rfl, rfl⟩
              go_wp2_with fail
              refine hS.out.mono ?_
              rintro e W4 ⟨rfl, F4, hn4, hm4⟩
              have hk4 := HkP3.out.mv HAp3.out hm4
              clear d0 d1 d2 d3 d4 d5
              have HN4 := Lib.hid hn4
              clear hm4 hn4 hS hPt
              have hcn : ((s).row.length : Int) = (N : Int) := by omega
              have hle : ¬ (256 : Int) < (N : Int) := by have := HN4.out.1.ok.len; omega
              have HL9 := HN4.out.len
              rw [hcn] at HL9
              replace HL9 := Lib.hid HL9
              have HLN : Hid ((s).row.length = N) := Lib.hid (by omega)
              clear hcn
              go_wp2_with fail
              refine HL9.out.mono ?_
              rintro e w9 ⟨rfl, rfl⟩
              clear HL9
              go_wp2
              go_roundg (gk - 1)
              case measure => omega
              case rel => exact ⟨k + 1, N, by go_num, by first | rfl | exact congrArg (Value.int IntKind.i64) (by omega), by omega, Lib.hid ⟨_, _, HN4.out, HLN.out⟩⟩
          · rw [s2] at hS
            replace hS := Lib.hid hS
            replace hPt := Lib.hid hPt
            clear s2
            rcases hE with rfl | rfl
            all_goals
              go_wp2_with fail
              refine hPt.out.mono ?_
              rintro e w0 ⟨rfl, rfl⟩
              go_wp2_with fail
              refine hS.out.mono ?_
              rintro e W4 ⟨rfl, F4, hn4, hm4⟩
              have hk4 := HkP3.out.mv HAp3.out hm4
              clear d0 d1 d2 d3 d4 d5
              have HN4 := Lib.hid hn4
              clear hm4 hn4 hS hPt
              have hcn : ((s).row.length : Int) = (N : Int) := by omega
              have hle : ¬ (256 : Int) < (N : Int) := by have := HN4.out.1.ok.len; omega
              have HL9 := HN4.out.len
              rw [hcn] at HL9
              replace HL9 := Lib.hid HL9
              have HLN : Hid ((s).row.length = N) := Lib.hid (by omega)
              clear hcn
              go_wp2_with fail
              refine HL9.out.mono ?_
              rintro e w9 ⟨rfl, rfl⟩
              clear HL9
              go_wp2
              go_roundg (gk - 1)
              case measure => omega
              case rel => exact ⟨k + 1, N, by go_num, by first | rfl | exact congrArg (Value.int IntKind.i64) (by omega), by omega, Lib.hid ⟨_, _, HN4.out, HLN.out⟩⟩
          · rw [s2] at hS
            replace hS := Lib.hid hS
            replace hPt := Lib.hid hPt
            clear s2
            rcases hE with rfl | rfl
            all_goals
              go_wp2_with fail
              refine hPt.out.mono ?_
              rintro e w0 ⟨rfl, rfl⟩
              go_wp2_with fail
              refine hS.out.mono ?_
              rintro e W4 ⟨rfl, F4, hn4, hm4⟩
              have hk4 := HkP3.out.mv HAp3.out hm4
              clear d0 d1 d2 d3 d4 d5
              have HN4 := Lib.hid hn4
              clear hm4 hn4 hS hPt
              have hN6 : (N : Int) = 256 := by omega
              have hcn : ((s).row.length : Int) = (N : Int) := by omega
              have hle : ¬ (256 : Int) < (N : Int) := by have := HN4.out.1.ok.len; omega
              have HL9 := HN4.out.len
              rw [hcn] at HL9
              replace HL9 := Lib.hid HL9
              have HLN : Hid ((s).row.length = N) := Lib.hid (by omega)
              clear hcn
              go_wp2_with fail
              refine HL9.out.mono ?_
              rintro e w9 ⟨rfl, rfl⟩
              clear HL9
              go_wp2
              go_roundg (gk - 1)
              case measure => omega
              case rel => exact ⟨k + 1, N, by go_num, by first | rfl | exact congrArg (Value.int IntKind.i64) (by omega), by omega, Lib.hid ⟨_, _, HN4.out, HLN.out⟩⟩
        · have hT := HI3.out.take xa
          rw [look_there] at hT
          have HC := take_cases s xa
          rcases HC with ⟨t1, t2⟩ | ⟨t1, t2⟩
          · rw [t1] at hT
            replace hT := Lib.hid hT
            unfold pkV at hT
            clear d2 d3 d4 d5
            go_wp2_with fail
            refine hT.out.mono ?_
            rintro e W4 ⟨bv, rfl, ho, hn4, hm4⟩
            obtain ⟨A4, c4, rfl, hc4⟩ := own_shape ho
            have HN4 := Lib.hid hn4
            clear ho hm4 hn4 hT
            have hcn : ((s.take xa).row.length : Int) = (N : Int) - 1 := by omega
            have hle : ¬ (256 : Int) < (N : Int) - 1 := by have := HN4.out.1.ok.len; omega
            have HL9 := HN4.out.len
            rw [hcn] at HL9
            replace HL9 := Lib.hid HL9
            have HLN : Hid ((s.take xa).row.length = N - 1) := Lib.hid (by omega)
            clear hcn
            go_wp2_with fail
            refine HL9.out.mono ?_
            rintro e w9 ⟨rfl, rfl⟩
            clear HL9
            go_wp2
            go_roundg (gk - 1)
            case measure => omega
            case rel => exact ⟨k + 1, N - 1, by go_num, by first | rfl | exact congrArg (Value.int IntKind.i64) (by omega), by omega, Lib.hid ⟨_, _, HN4.out, HLN.out⟩⟩
          · rw [t1, t2] at hT
            replace hT := Lib.hid hT
            unfold pkV at hT
            clear d2 d3 d4 d5
            go_wp2_with fail
            refine hT.out.mono ?_
            rintro e W4 ⟨bv, rfl, ho, hn4, hm4⟩
            obtain ⟨A4, c4, rfl, hc4⟩ := own_shape ho
            have HN4 := Lib.hid hn4
            clear ho hm4 hn4 hT
            have hcn : ((s).row.length : Int) = (N : Int) := by omega
            have hle : ¬ (256 : Int) < (N : Int) := by have := HN4.out.1.ok.len; omega
            have HL9 := HN4.out.len
            rw [hcn] at HL9
            replace HL9 := Lib.hid HL9
            have HLN : Hid ((s).row.length = N) := Lib.hid (by omega)
            clear hcn
            go_wp2_with fail
            refine HL9.out.mono ?_
            rintro e w9 ⟨rfl, rfl⟩
            clear HL9
            go_wp2
            go_roundg (gk - 1)
            case measure => omega
            case rel => exact ⟨k + 1, N, by go_num, by first | rfl | exact congrArg (Value.int IntKind.i64) (by omega), by omega, Lib.hid ⟨_, _, HN4.out, HLN.out⟩⟩
        · have hT := HI3.out.acted (nDrop_any g xa s F W3 HI3.out.1)
          have HC := take_cases s xa
          rcases HC with ⟨t1, t2⟩ | ⟨t1, t2⟩
          · rw [t1] at hT
            replace hT := Lib.hid hT
            clear d2 d3 d4 d5
            go_wp2_with fail
            refine hT.out.mono ?_
            rintro e W4 ⟨rfl, F4, hn4, hm4⟩
            have HN4 := Lib.hid hn4
            clear hm4 hn4 hT
            have hcn : ((s.take xa).row.length : Int) = (N : Int) - 1 := by omega
            have hle : ¬ (256 : Int) < (N : Int) - 1 := by have := HN4.out.1.ok.len; omega
            have HL9 := HN4.out.len
            rw [hcn] at HL9
            replace HL9 := Lib.hid HL9
            have HLN : Hid ((s.take xa).row.length = N - 1) := Lib.hid (by omega)
            clear hcn
            go_wp2_with fail
            refine HL9.out.mono ?_
            rintro e w9 ⟨rfl, rfl⟩
            clear HL9
            go_wp2
            go_roundg (gk - 1)
            case measure => omega
            case rel => exact ⟨k + 1, N - 1, by go_num, by first | rfl | exact congrArg (Value.int IntKind.i64) (by omega), by omega, Lib.hid ⟨_, _, HN4.out, HLN.out⟩⟩
          · rw [t1, t2] at hT
            replace hT := Lib.hid hT
            clear d2 d3 d4 d5
            go_wp2_with fail
            refine hT.out.mono ?_
            rintro e W4 ⟨rfl, F4, hn4, hm4⟩
            have HN4 := Lib.hid hn4
            clear hm4 hn4 hT
            have hcn : ((s).row.length : Int) = (N : Int) := by omega
            have hle : ¬ (256 : Int) < (N : Int) := by have := HN4.out.1.ok.len; omega
            have HL9 := HN4.out.len
            rw [hcn] at HL9
            replace HL9 := Lib.hid HL9
            have HLN : Hid ((s).row.length = N) := Lib.hid (by omega)
            clear hcn
            go_wp2_with fail
            refine HL9.out.mono ?_
            rintro e w9 ⟨rfl, rfl⟩
            clear HL9
            go_wp2
            go_roundg (gk - 1)
            case measure => omega
            case rel => exact ⟨k + 1, N, by go_num, by first | rfl | exact congrArg (Value.int IntKind.i64) (by omega), by omega, Lib.hid ⟨_, _, HN4.out, HLN.out⟩⟩
        · have hT := HI3.out.acted (nTwice_any g xa s F W3 HI3.out.1)
          rcases twice_cases s xa with ⟨t1, t2⟩ | ⟨t1, t2⟩
          · rw [t1] at hT
            replace hT := Lib.hid hT
            clear d2 d3 d4 d5
            go_wp2_with fail
            refine hT.out.mono ?_
            rintro e W4 ⟨rfl, F4, hn4, hm4⟩
            have HN4 := Lib.hid hn4
            clear hm4 hn4 hT
            have hcn : (((s.twice xa).2).row.length : Int) = (N : Int) + 1 := by omega
            have hle : ¬ (256 : Int) < (N : Int) + 1 := by have := HN4.out.1.ok.len; omega
            have HL9 := HN4.out.len
            rw [hcn] at HL9
            replace HL9 := Lib.hid HL9
            have HLN : Hid (((s.twice xa).2).row.length = N + 1) := Lib.hid (by omega)
            clear hcn
            go_wp2_with fail
            refine HL9.out.mono ?_
            rintro e w9 ⟨rfl, rfl⟩
            clear HL9
            go_wp2
            go_roundg (gk - 1)
            case measure => omega
            case rel => exact ⟨k + 1, N + 1, by go_num, by first | rfl | exact congrArg (Value.int IntKind.i64) (by omega), by omega, Lib.hid ⟨_, _, HN4.out, HLN.out⟩⟩
          · rw [t1, t2] at hT
            replace hT := Lib.hid hT
            clear d2 d3 d4 d5
            go_wp2_with fail
            refine hT.out.mono ?_
            rintro e W4 ⟨rfl, F4, hn4, hm4⟩
            have HN4 := Lib.hid hn4
            clear hm4 hn4 hT
            have hcn : ((s).row.length : Int) = (N : Int) := by omega
            have hle : ¬ (256 : Int) < (N : Int) := by have := HN4.out.1.ok.len; omega
            have HL9 := HN4.out.len
            rw [hcn] at HL9
            replace HL9 := Lib.hid HL9
            have HLN : Hid ((s).row.length = N) := Lib.hid (by omega)
            clear hcn
            go_wp2_with fail
            refine HL9.out.mono ?_
            rintro e w9 ⟨rfl, rfl⟩
            clear HL9
            go_wp2
            go_roundg (gk - 1)
            case measure => omega
            case rel => exact ⟨k + 1, N, by go_num, by first | rfl | exact congrArg (Value.int IntKind.i64) (by omega), by omega, Lib.hid ⟨_, _, HN4.out, HLN.out⟩⟩
        · have hT := HI3.out.acted (HBk.out g xa s F W3 HI3.out.1)
          have hlen := back_len s xa
          replace hT := Lib.hid hT
          clear d3 d4 d5
          go_wp2_with fail
          refine hT.out.mono ?_
          rintro e W4 ⟨rfl, F4, hn4, hm4⟩
          have HN4 := Lib.hid hn4
          clear hm4 hn4 hT
          have hcn : ((s.back xa).row.length : Int) = (N : Int) := by omega
          have hle : ¬ (256 : Int) < (N : Int) := by have := HN4.out.1.ok.len; omega
          have HL9 := HN4.out.len
          rw [hcn] at HL9
          replace HL9 := Lib.hid HL9
          have HLN : Hid ((s.back xa).row.length = N) := Lib.hid (by omega)
          clear hcn
          go_wp2_with fail
          refine HL9.out.mono ?_
          rintro e w9 ⟨rfl, rfl⟩
          clear HL9
          go_wp2
          go_roundg (gk - 1)
          case measure => omega
          case rel => exact ⟨k + 1, N, by go_num, by first | rfl | exact congrArg (Value.int IntKind.i64) (by omega), by omega, Lib.hid ⟨_, _, HN4.out, HLN.out⟩⟩
        · have hT := HI3.out.acted (nPart_any g xa xb s F W3 HI3.out.1)
          have hlen := congrArg List.length (set_row s xa xb true)
          replace hT := Lib.hid hT
          clear d3 d4 d5
          go_wp2_with fail
          refine hT.out.mono ?_
          rintro e W4 ⟨rfl, F4, hn4, hm4⟩
          have HN4 := Lib.hid hn4
          clear hm4 hn4 hT
          have hcn : (((s.set xa xb true).2).row.length : Int) = (N : Int) := by omega
          have hle : ¬ (256 : Int) < (N : Int) := by have := HN4.out.1.ok.len; omega
          have HL9 := HN4.out.len
          rw [hcn] at HL9
          replace HL9 := Lib.hid HL9
          have HLN : Hid (((s.set xa xb true).2).row.length = N) := Lib.hid (by omega)
          clear hcn
          go_wp2_with fail
          refine HL9.out.mono ?_
          rintro e w9 ⟨rfl, rfl⟩
          clear HL9
          go_wp2
          go_roundg (gk - 1)
          case measure => omega
          case rel => exact ⟨k + 1, N, by go_num, by first | rfl | exact congrArg (Value.int IntKind.i64) (by omega), by omega, Lib.hid ⟨_, _, HN4.out, HLN.out⟩⟩
        · have hT := HI3.out.acted (nJoin_any g xa xb s F W3 HI3.out.1)
          have hlen := congrArg List.length (set_row s xa xb false)
          replace hT := Lib.hid hT
          clear d3 d4 d5
          go_wp2_with fail
          refine hT.out.mono ?_
          rintro e W4 ⟨rfl, F4, hn4, hm4⟩
          have HN4 := Lib.hid hn4
          clear hm4 hn4 hT
          have hcn : (((s.set xa xb false).2).row.length : Int) = (N : Int) := by omega
          have hle : ¬ (256 : Int) < (N : Int) := by have := HN4.out.1.ok.len; omega
          have HL9 := HN4.out.len
          rw [hcn] at HL9
          replace HL9 := Lib.hid HL9
          have HLN : Hid (((s.set xa xb false).2).row.length = N) := Lib.hid (by omega)
          clear hcn
          go_wp2_with fail
          refine HL9.out.mono ?_
          rintro e w9 ⟨rfl, rfl⟩
          clear HL9
          go_wp2
          go_roundg (gk - 1)
          case measure => omega
          case rel => exact ⟨k + 1, N, by go_num, by first | rfl | exact congrArg (Value.int IntKind.i64) (by omega), by omega, Lib.hid ⟨_, _, HN4.out, HLN.out⟩⟩
        · clear d1 d2 d3 d4 d5
          have hcn : ((s).row.length : Int) = (N : Int) := by omega
          have hle : ¬ (256 : Int) < (N : Int) := by have := HI3.out.1.ok.len; omega
          have HL9 := HI3.out.len
          rw [hcn] at HL9
          replace HL9 := Lib.hid HL9
          have HLN : Hid ((s).row.length = N) := Lib.hid (by omega)
          clear hcn
          go_wp2_with fail
          refine HL9.out.mono ?_
          rintro e w9 ⟨rfl, rfl⟩
          clear HL9
          go_wp2
          go_roundg (gk - 1)
          case measure => omega
          case rel => exact ⟨k + 1, N, by go_num, by first | rfl | exact congrArg (Value.int IntKind.i64) (by omega), by omega, Lib.hid ⟨_, _, HI3.out, HLN.out⟩⟩
    · have hx2 : ((k : Int) < (n : Int) ∧ ¬ (k : Int) < 400) ∨ ¬ (k : Int) < (n : Int) := by omega
      have Hb0 := Lib.hid hI.2.2
      clear hI hx
      rcases hx2 with ⟨hkn, n3⟩ | hkn
      all_goals
        go_wp2_with fail
        refine (HKn.out _).mono ?_
        rintro e w4 ⟨rfl, hb4⟩
        have Hb4 := Lib.hid (Hb0.out.trans (hb4.mono Hb0.out.size))
        clear hb4
        go_wp2
        go_ret
        exact ⟨rfl, Hb4.out⟩

namespace netCounts
set_option maxRecDepth 100000 in
theorem lifted (os : Os) (started : os.Started) (H : Type) (enc : TypeId × Value → H) :
    ReturnsInHanded {} Try.checked os 5 .any (Rows.netCountsSpec.pre6 enc Try.prog Try.f5 Rows.netCountsRow.domain false) (Rows.netCountsSpec.post enc Try.prog Try.f5 false true false false) := by
  refine law_lift started (by kernel_rfl) Try.func5
    (ChangeSpec.witness6 (enc := enc) (C := Try.checked) false ⟨#[], #[.slice none 0 0], []⟩ 8 (by kernel_rfl) (by kernel_rfl) (by kernel_rfl) (by kernel_rfl))
    rfl ?_ (by kernel_rfl) (by kernel_rfl) ?_
  · intro ds h
    match ds, h with
    | [_], _ => rfl
  intro W base args ds p g
  have hA := g.trod
  have hval := g.val
  rw [Try.params5] at hA hval
  obtain ⟨v0, vs0, d0, ds0, p0, q0, hargs, rfl, rfl, h0, r0⟩ := trodAll_cons hA
  obtain ⟨rfl, rfl, rfl⟩ := trodAll_nil r0
  obtain rfl : args = #[v0] := by cases args; simp_all
  obtain ⟨A0, n0, c0, f0, rfl, hc0, hm0, hr0⟩ := given_acts6 (hval 0 22 v0 rfl rfl) h0
  exact netCounts_walk back_said A0 n0 c0 f0 W hc0 hm0 hr0

theorem over : Rows.netCountsRow.holds Try.pinned (OpenSpec.ofChange Rows.netCountsSpec) :=
  OpenClaim.holds_of_wide 5 Try.f5 rfl rfl rfl rfl rfl rfl rfl ⟨rfl, rfl, rfl, rfl, rfl⟩ rfl rfl rfl rfl rfl (by kernel_rfl) Try.func5 (by kernel_rfl)
    (of_decide_eq_true (by kernel_rfl)) (by unfold Func.isWrapper; first | (rw [if_pos (by decide +kernel)]; kernel_rfl) | (rw [if_neg (by decide +kernel)]; exact ⟨rfl, rfl⟩))
    (fun os started H enc _ => lifted os started H enc)
end netCounts

theorem NetCounts_proved : Rows.NetCountsSaid := netCounts.over
#print axioms NetCounts_proved
end Go.Proofs.Ytfghbhjljbdlmaa
