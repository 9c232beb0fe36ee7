/- Layer 12, the program's log: New, Applied, Top, Next, Trim, Install. -/
import Derived.Test.YtnomddhgcdoifaaRlC
import Derived.Test.YtnomddhgcdoifaaRlI
namespace Go.Proofs.Ytnomddhgcdoifaa
open Go.RowKit

set_option maxRecDepth 100000 in
theorem enew_any (w : World) : Calls Try.prog 6 #[] w fun e w' => ∃ g F, e = .returned (.pointer (some ⟨g, 0, none⟩)) ∧ PL w' F g Rl.new ∧ (∀ k, F k → w.heap.size ≤ k) ∧ Below w.heap.size w w' := by
  have hb := bel1L w (.cells #[.int .u64 0, .slice none 0 0] 51)
  have hk := Bk.new w 51 #[.int .u64 0, .slice none 0 0]
  go_enter Try.func6, Try.ntmps6
  go_wp2
  go_ret
  exact ⟨_, fun k => k = w.heap.size, rfl, ⟨none, 0, 0, [], hk, EnRow.nil _ _, rfl, rfl, Rl.Ok.new, rfl, fun k e => by have := hk.lt; omega⟩, fun k e => by omega, hb⟩
set_option maxRecDepth 100000 in
theorem eapplied_any {w : World} {F : Nat → Prop} {g : Nat} {p : Rl} (h : PL w F g p) : Calls Try.prog 8 #[.pointer (some ⟨g, 0, none⟩)] w fun e w' => e = .returned (.int .u64 (p.ap : Int)) ∧ w = w' := by
  have c0 := h.c0
  clear h
  go_enter Try.func8, Try.ntmps8
  go_wp2
  go_ret
  exact ⟨rfl, rfl⟩
set_option maxRecDepth 100000 in
theorem eapplied_nil (w : World) : Calls Try.prog 8 #[.pointer none] w fun e w' => e = .returned (.int .u64 0) ∧ w = w' := by
  go_enter Try.func8, Try.ntmps8
  go_wp2
  go_ret
  exact ⟨rfl, rfl⟩
set_option maxRecDepth 100000 in
theorem etop_nil (w : World) : Calls Try.prog 11 #[.pointer none] w fun e w' => e = .returned (.int .u64 0) ∧ w = w' := by
  go_enter Try.func11, Try.ntmps11
  go_wp2
  go_ret
  exact ⟨rfl, rfl⟩
set_option maxRecDepth 100000 in
theorem enext_nil (w : World) : Calls Try.prog 9 #[.pointer none] w fun e w' => e = .returned (.int .u64 0) ∧ w = w' := by
  go_enter Try.func9, Try.ntmps9
  go_wp2
  go_ret
  exact ⟨rfl, rfl⟩
set_option maxRecDepth 100000 in
theorem etrim_nil (u : Nat) (w : World) : Calls Try.prog 20 #[.pointer none, .int .u64 (u : Int)] w fun e w' => e = .returned (.int .i64 0) ∧ w = w' := by
  go_enter Try.func20, Try.ntmps20
  go_wp2
  go_ret
  exact ⟨rfl, rfl⟩
set_option maxRecDepth 100000 in
theorem einstall_nil (u : Nat) (w : World) : Calls Try.prog 27 #[.pointer none, .int .u64 (u : Int)] w fun e w' => e = .returned (.bool false) ∧ w = w' := by
  go_enter Try.func27, Try.ntmps27
  go_wp2
  go_ret
  exact ⟨rfl, rfl⟩
set_option maxRecDepth 100000 in
set_option maxHeartbeats 2000000 in
theorem etop_any {w : World} {F : Nat → Prop} {g : Nat} {p : Rl} (h : PL w F g p) : Calls Try.prog 11 #[.pointer (some ⟨g, 0, none⟩)] w fun e w' => e = .returned (.int .u64 (p.top : Int)) ∧ Below w.heap.size w w' := by
  obtain ⟨A, N, c, es, hbk, hrow, heq, hNp, hok, hFg, hlt⟩ := h
  have hel : N = es.length := by rw [hNp, ← heq, List.length_map]
  have hN4 := hok.len
  rw [← hNp] at hN4
  have c0 : w.cell? ⟨g, 0, none⟩ = some (.int .u64 (p.ap : Int)) := hbk.cell 0
  have c1 : w.cell? ⟨g, 1, none⟩ = some (.slice A N c) := hbk.cell 1
  by_cases h0 : N = 0
  · have ht : p.top = p.ap := by
      unfold Rl.top
      have : p.row = [] := List.eq_nil_of_length_eq_zero (by omega)
      rw [this]; simp
    rw [ht]
    subst h0
    clear hbk hrow heq hNp hok hFg hlt hel
    go_enter Try.func11, Try.ntmps11
    go_wp2
    go_ret
    exact ⟨rfl, Below.refl _ _⟩
  · obtain ⟨b, c', e, _, _, _, q0, q1⟩ := hrow.cell (N - 1) (by omega)
    injection e with e1 e2 e3
    subst e1
    clear e2 e3
    obtain ⟨L, hL⟩ : ∃ L, L = es[N - 1].1.slot := ⟨_, rfl⟩
    have ht : p.top = max p.ap L := by
      unfold Rl.top
      rw [← heq, List.getLast?_eq_getElem?, List.length_map, List.getElem?_map, List.getElem?_eq_getElem (by omega)]
      simp only [Option.map_some, Option.getD_some]
      rw [hL]
      congr 2
      simp only [hel]
    rw [ht]
    rw [← hL] at q0
    obtain ⟨K, hK⟩ : ∃ K, K = N - 1 := ⟨_, rfl⟩
    rw [← hK] at q0
    have e1 : IntKind.i64.wrap ((N : Int) - 1) = (K : Int) := by rw [IntKind.wrap_i64]; omega
    have a1 : (0 : Int) < (N : Int) := by omega
    have a2 : (K : Int) < (N : Int) := by omega
    have a3 : ¬ (K : Int) < 0 := by omega
    clear hbk hrow heq hNp hok hFg hlt hel q1 hL hK ht
    by_cases hm : p.ap < L
    · have m2 : (p.ap : Int) < (L : Int) := by omega
      rw [Nat.max_eq_right (by omega)]
      go_enter Try.func11, Try.ntmps11
      go_wp2_with fail
      go_quiet (fail)
      go_wp2
      go_ret
      exact ⟨rfl, bel_drewN (Below.refl _ _) _⟩
    · have m2 : ¬ (p.ap : Int) < (L : Int) := by omega
      rw [Nat.max_eq_left (by omega)]
      go_enter Try.func11, Try.ntmps11
      go_wp2_with fail
      go_quiet (fail)
      go_wp2
      go_ret
      exact ⟨rfl, bel_drewN (Below.refl _ _) _⟩
set_option maxRecDepth 100000 in
set_option maxHeartbeats 2000000 in
theorem enext_any {w : World} {F : Nat → Prop} {g : Nat} {p : Rl} (h : PL w F g p) : Calls Try.prog 9 #[.pointer (some ⟨g, 0, none⟩)] w fun e w' => e = .returned (.int .u64 (p.next : Int)) ∧ Below w.heap.size w w' := by
  obtain ⟨A, N, c, es, hbk, hrow, heq, hNp, hok, hFg, hlt⟩ := h
  have hel : N = es.length := by rw [hNp, ← heq, List.length_map]
  have hN4 := hok.len
  have hap := hok.ap
  rw [← hNp] at hN4
  have c0 : w.cell? ⟨g, 0, none⟩ = some (.int .u64 (p.ap : Int)) := hbk.cell 0
  have c1 : w.cell? ⟨g, 1, none⟩ = some (.slice A N c) := hbk.cell 1
  have HR := Lib.hid (erun_any hrow (by rw [heq]; exact hok.rise) (by omega) (fun e he => (hok.slot e.1 (by rw [← heq]; exact List.mem_map_of_mem he)).2) (p.ap + 1) (by omega) 4096 (by decide))
  rw [heq] at HR
  have hnx : p.next = p.ap + 1 + (runL (p.ap + 1) (4096 : Int).toNat (p.row.drop (findE (p.ap + 1) p.row))).length := rfl
  obtain ⟨h1, h2, h3, h4, h5⟩ := runL_facts (4096 : Int).toNat (p.ap + 1) (p.row.drop (findE (p.ap + 1) p.row))
  have hlt64 : p.ap + 1 + (runL (p.ap + 1) (4096 : Int).toNat (p.row.drop (findE (p.ap + 1) p.row))).length < 18446744073709551616 := by
    by_cases hz : (runL (p.ap + 1) (4096 : Int).toNat (p.row.drop (findE (p.ap + 1) p.row))).length = 0
    · omega
    · have h6 := h3 ((runL (p.ap + 1) (4096 : Int).toNat (p.row.drop (findE (p.ap + 1) p.row))).length - 1) (by omega) (by omega)
      have h7 := (hok.slot _ ((List.drop_sublist _ _).subset (List.getElem_mem (show (runL (p.ap + 1) (4096 : Int).toNat (p.row.drop (findE (p.ap + 1) p.row))).length - 1 < (p.row.drop (findE (p.ap + 1) p.row)).length by omega)))).2
      omega
  rw [hnx]
  clear h1 h2 h3 h4 h5 hnx
  generalize runL (p.ap + 1) (4096 : Int).toNat (p.row.drop (findE (p.ap + 1) p.row)) = rl at *
  obtain ⟨T, hT⟩ : ∃ T, T = p.ap + 1 := ⟨_, rfl⟩
  rw [← hT] at HR hlt64 ⊢
  have e1 : IntKind.u64.wrap ((p.ap : Int) + 1) = (T : Int) := by rw [IntKind.wrap_u64]; omega
  clear hbk hrow heq hNp hok hFg hlt hel hT
  go_enter Try.func9, Try.ntmps9
  go_wp2_with fail
  refine HR.out.mono ?_
  rintro e w2 ⟨A2, n2, c2, es2, rfl, hE, rfl, hb2⟩
  have hl2 := hE.len
  rw [List.length_map, hl2] at hlt64
  have HL := Lib.hid (show (es2.map (·.1)).length = n2 by rw [List.length_map, hl2])
  obtain ⟨U, hU⟩ : ∃ U, U = T + n2 := ⟨_, rfl⟩
  have HU := Lib.hid hU
  have e2 : IntKind.u64.wrap (n2 : Int) = (n2 : Int) := by rw [IntKind.wrap_u64]; omega
  have e3 : IntKind.u64.wrap ((T : Int) + (n2 : Int)) = (U : Int) := by rw [IntKind.wrap_u64]; omega
  have HB2 := Lib.hid hb2
  clear hb2 hE hU HR hl2
  go_wp2
  go_ret
  refine ⟨?_, HB2.out⟩
  rw [HL.out, ← HU.out]
  rfl
set_option maxRecDepth 100000 in
set_option maxHeartbeats 2000000 in
theorem einstall_any {w : World} {F : Nat → Prop} {g : Nat} {p : Rl} (h : PL w F g p) (u : Nat) (hu : u < 18446744073709551616) : Calls Try.prog 27 #[.pointer (some ⟨g, 0, none⟩), .int .u64 (u : Int)] w fun e w' => e = .returned (.bool (p.install u).1) ∧ PL w' F g (p.install u).2 ∧ Kp F w w' := by
  have c0 := h.c0
  by_cases h1 : u ≤ p.ap
  · have e : p.install u = (false, p) := by unfold Rl.install; rw [if_pos (.inl h1)]
    rw [e]
    have m1 : decide ((u : Int) ≤ (p.ap : Int)) = true := by rw [decide_eq_true]; omega
    have HP := Lib.hid h
    clear h
    go_enter Try.func27, Try.ntmps27
    go_wp2
    go_ret
    exact ⟨rfl, HP.out, Kp.refl _ _⟩
  have m1 : decide ((u : Int) ≤ (p.ap : Int)) = false := by rw [decide_eq_false]; omega
  by_cases h2 : u = 18446744073709551615
  · have m2 : ((u : Int) == 18446744073709551615) = true := by rw [beq_iff_eq]; omega
    have e : p.install u = (false, p) := by unfold Rl.install; rw [if_pos (.inr h2)]
    rw [e]
    clear h2 e
    have HP := Lib.hid h
    clear h
    go_enter Try.func27, Try.ntmps27
    go_wp2
    go_ret
    exact ⟨rfl, HP.out, Kp.refl _ _⟩
  have m2 : ((u : Int) == 18446744073709551615) = false := by rw [beq_eq_false_iff_ne]; omega
  have e : p.install u = (true, ⟨u, aboveE u p.row⟩) := by unfold Rl.install; rw [if_neg (by omega)]
  rw [e]
  have hs : PL (w.setCell ⟨g, 0, none⟩ (.int .u64 (u : Int))) F g ⟨u, p.row⟩ := by
    obtain ⟨A, N, c, es, hbk, hrow, heq, hNp, hok, hFg, hlt⟩ := h
    have hks : Kp (fun j => j = g) w (w.setCell ⟨g, 0, none⟩ (.int .u64 (u : Int))) := Kp.set_ (F := fun j => j = g) (p := ⟨g, 0, none⟩) rfl _
    exact ⟨A, N, c, es, hbk.set_ 0 _, hrow.keep hks (hrow.off hbk), heq, hNp, ⟨by show u < _; omega, hok.rise, hok.len, hok.slot, hok.val⟩, hFg, fun k hk => Nat.lt_of_lt_of_le (hlt k hk) hks.size⟩
  have hkF : Kp F w (w.setCell ⟨g, 0, none⟩ (.int .u64 (u : Int))) := by
    obtain ⟨A, N, c, es, hbk, hrow, heq, hNp, hok, hFg, hlt⟩ := h
    exact Kp.set_ (p := ⟨g, 0, none⟩) hFg _
  have f0 : w.frozen? ⟨g, 0, none⟩ = false := by
    obtain ⟨A, N, c, es, hbk, hrow, heq, hNp, hok, hFg, hlt⟩ := h
    exact hbk.frozen 0
  have HD : Hid (Calls Try.prog 38 #[.pointer (some ⟨g, 1, none⟩), .int .u64 (u : Int)] (w.setCell ⟨g, 0, none⟩ (.int .u64 (u : Int))) fun e w' => (∃ x, e = .returned (.int .i64 x)) ∧ Hid (PL w' F g ⟨u, aboveE u p.row⟩ ∧ Kp F w w')) := Lib.hid (by
    refine (edrop_any hs u).mono ?_
    rintro e w' ⟨rfl, h1, h2⟩
    exact ⟨⟨_, rfl⟩, Lib.hid ⟨h1, hkF.trans h2⟩⟩)
  clear h hs hkF
  go_enter Try.func27, Try.ntmps27
  go_wp2_with fail
  refine HD.out.mono ?_
  rintro e w2 ⟨⟨x, rfl⟩, HX⟩
  go_wp2
  go_ret
  exact ⟨rfl, HX.out⟩
end Go.Proofs.Ytnomddhgcdoifaa
