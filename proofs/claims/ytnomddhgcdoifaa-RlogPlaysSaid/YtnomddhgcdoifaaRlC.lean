/- Layer 12, the program's row: a run without a gap. -/
import Derived.Test.YtnomddhgcdoifaaRlB
namespace Go.Proofs.Ytnomddhgcdoifaa
open Go.RowKit

theorem EnsR.take {w : World} {F : Nat → Prop} {A : Option Addr} {n c : Nat} {es : List Ene} (h : EnsR w F A n c es) (k : Nat) (hk : k ≤ n) : EnsR w F A k c (es.take k) :=
  ⟨by rw [List.length_take, h.len]; omega, ⟨by have := h.cap; omega, h.cap.2⟩, fun h0 => by
    obtain ⟨R, o, e, hF, hR, hc⟩ := h.row (by omega)
    refine ⟨R, o, e, hF, hR, fun i hi => ?_⟩
    rw [List.length_take] at hi
    rw [List.getElem_take]
    exact hc i (by omega), fun e he => h.each e ((List.take_sublist _ _).subset he)⟩
set_option maxRecDepth 100000 in
set_option maxHeartbeats 4000000 in
theorem erun_any {w : World} {F : Nat → Prop} {A : Option Addr} {n c : Nat} {es : List Ene} (h : EnRow w F (.slice A n c) es) (hs : Rise (es.map (·.1))) (hn : es.length ≤ 1000000) (hb : ∀ e ∈ es, e.1.slot < 18446744073709551615) (s : Nat) (hs64 : s < 18446744073709551616) (m : Int) (hm : m ≤ 9223372036854775807) :
    Calls Try.prog 29 #[.slice A n c, .int .u64 (s : Int), .int .i64 m] w (RunE F (runL s m.toNat ((es.map (·.1)).drop (findE s (es.map (·.1))))) w) := by
  have HF := Lib.hid (efrom_any h hs hn s)
  have hge : ∀ e ∈ (es.map (·.1)).drop (findE s (es.map (·.1))), e.slot < 18446744073709551615 := fun e he => by
    obtain ⟨x, hx, rfl⟩ := List.mem_map.1 ((List.drop_sublist _ _).subset he)
    exact hb x hx
  have hlen : ((es.map (·.1)).drop (findE s (es.map (·.1)))).length ≤ 1000000 := by rw [List.length_drop, List.length_map]; omega
  generalize (es.map (·.1)).drop (findE s (es.map (·.1))) = l at *
  clear h hs hn hb
  obtain ⟨f1, f2, f3, f4, f5⟩ := runL_facts m.toNat s l
  have Hf4 := Lib.hid f4
  have Hf5 := Lib.hid f5
  have Hf3 := Lib.hid f3
  have Hge := Lib.hid hge
  obtain ⟨N, hN⟩ : ∃ N, N = (runL s m.toNat l).length := ⟨_, rfl⟩
  rw [← hN] at f1 f2 Hf4 Hf5 Hf3
  clear f3 f4 f5 hge hN
  go_enter Try.func29, Try.ntmps29
  go_wp2_with fail
  refine HF.out.mono ?_
  rintro e w2 ⟨A2, n2, c2, es2, rfl, hE, rfl, hb2⟩
  have hl2 := hE.len
  have hcap := hE.cap
  rw [List.length_map] at f2 hlen
  rw [hl2] at f2 hlen
  have HE := Lib.hid hE
  have HB2 := Lib.hid hb2
  have HC : Hid (∀ i (hi : i < es2.length), ∃ R o, A2 = some ⟨R, o, none⟩ ∧ w2.cell? ⟨R, o + i * 2, none⟩ = some (.int .u64 (es2[i].1.slot : Int)) ∧ w2.cell? ⟨R, o + i * 2 + 1, none⟩ = some (s3W es2[i].2)) := Lib.hid fun i hi => by
    obtain ⟨R, o, e, _, _, hc⟩ := HE.out.row (by rw [← HE.out.len]; omega)
    obtain ⟨c0, c1⟩ := hc i hi
    exact ⟨R, o, e, c0, c1⟩
  have Hl2 := Lib.hid hl2
  have hn2c : n2 ≤ c2 := hcap.1
  clear hE hb2 HF hcap hl2
  go_wp2
  go_loopg [8] N (fun gk a wr => ∃ i : Nat, a = .int .i64 (i : Int) ∧ i + gk = N ∧ Hid (wr = w2))
  case atStart => exact ⟨0, rfl, by omega, Lib.hid rfl⟩
  case round =>
    obtain ⟨i, rfl, hig, HW⟩ := hrel
    obtain rfl := HW.out
    by_cases hi : i < N
    · have hi2 : i < es2.length := by have := Hl2.out; omega
      obtain ⟨R, o, rfl, q0, q1⟩ := HC.out i hi2
      have hsl : es2[i].1.slot = s + i := by
        have := Hf3.out i (by rw [List.length_map]; exact hi2) hi
        rwa [map_at es2 i hi2] at this
      have hlt := Hge.out es2[i].1 (List.mem_map_of_mem (List.getElem_mem _))
      rw [hsl] at q0 hlt
      obtain ⟨T, hT⟩ : ∃ T : Nat, T = s + i := ⟨_, rfl⟩
      rw [← hT] at q0 hlt
      have m1 : (i : Int) < m := by omega
      have m2 : (i : Int) < (n2 : Int) := by omega
      have m0 : ¬ (i : Int) < 0 := by omega
      have e1 : IntKind.u64.wrap (i : Int) = (i : Int) := by rw [IntKind.wrap_u64]; omega
      have e2 : IntKind.u64.wrap ((s : Int) + (i : Int)) = (T : Int) := by rw [IntKind.wrap_u64]; omega
      have e5 : IntKind.i64.wrap ((i : Int) + 1) = ((i + 1 : Nat) : Int) := by rw [IntKind.wrap_i64]; omega
      have mm : (i : Int) < min m (n2 : Int) := by omega
      clear hsl hT q1
      go_wp2
      all_goals
        go_roundg (gk - 1)
        case measure => omega
        case rel => exact ⟨i + 1, rfl, by omega, Lib.hid rfl⟩
    · obtain rfl : i = N := by omega
      have hend : RunE F (runL s m.toNat (es2.map (·.1))) w (.returned (.slice A2 i c2)) wr := by
        rw [Hf5.out]
        exact ⟨A2, i, c2, es2.take i, rfl, HE.out.take i f2, by rw [List.map_take], HB2.out⟩
      have Hend := Lib.hid hend
      have h0n : (0 : Int) ≤ (i : Int) := by omega
      have hic : (i : Int) ≤ (c2 : Int) := by omega
      clear hend hi
      by_cases hmn : m ≤ (n2 : Int)
      · by_cases hmi : m ≤ (i : Int)
        · have m1 : ¬ (i : Int) < m := by omega
          go_wp2
          go_ret
          exact Hend.out
        · have m1 : (i : Int) < m := by omega
          have hi2 : i < es2.length := by have := Hl2.out; omega
          have m2 : (i : Int) < (n2 : Int) := by omega
          have hne : es2[i].1.slot ≠ s + i := by
            rcases Hf4.out with h | h | ⟨hn, h⟩
            · omega
            · rw [List.length_map] at h; omega
            · rwa [map_at es2 i hi2] at h
          obtain ⟨R, o, rfl, q0, q1⟩ := HC.out i hi2
          have hs3 : i = 0 ∨ s + i < 18446744073709551616 := by
            by_cases h0 : i = 0
            · exact .inl h0
            · refine .inr ?_
              have h1 := Hf3.out (i - 1) (by rw [List.length_map]; omega) (by omega)
              rw [map_at es2 (i - 1) (by omega)] at h1
              have h2 := Hge.out _ (List.mem_map_of_mem (List.getElem_mem (show i - 1 < es2.length by omega)))
              omega
          obtain ⟨T, hT⟩ : ∃ T : Nat, T = s + i := ⟨_, rfl⟩
          obtain ⟨U, hU⟩ : ∃ U : Nat, U = es2[i].1.slot := ⟨_, rfl⟩
          rw [← hU] at q0 hne
          have e1 : IntKind.u64.wrap (i : Int) = (i : Int) := by rw [IntKind.wrap_u64]; omega
          have e2 : IntKind.u64.wrap ((s : Int) + (i : Int)) = (T : Int) := by rw [IntKind.wrap_u64]; omega
          have m0 : ¬ (i : Int) < 0 := by omega
          have hd : ¬ (U : Int) = (T : Int) := by omega
          clear hT hU hs3 q1
          go_wp2
          go_ret
          exact Hend.out
      · have hmn2 : (n2 : Int) < m := by omega
        by_cases hi3 : i = n2
        · subst hi3
          have m2 : ¬ (i : Int) < (i : Int) := by omega
          go_wp2
          go_ret
          exact Hend.out
        · have m1 : (i : Int) < m := by omega
          have hi2 : i < es2.length := by have := Hl2.out; omega
          have m2 : (i : Int) < (n2 : Int) := by omega
          have hne : es2[i].1.slot ≠ s + i := by
            rcases Hf4.out with h | h | ⟨hn, h⟩
            · omega
            · rw [List.length_map, Hl2.out] at h; omega
            · rwa [map_at es2 i hi2] at h
          obtain ⟨R, o, rfl, q0, q1⟩ := HC.out i hi2
          have hs3 : i = 0 ∨ s + i < 18446744073709551616 := by
            by_cases h0 : i = 0
            · exact .inl h0
            · refine .inr ?_
              have h1 := Hf3.out (i - 1) (by rw [List.length_map]; omega) (by omega)
              rw [map_at es2 (i - 1) (by omega)] at h1
              have h2 := Hge.out _ (List.mem_map_of_mem (List.getElem_mem (show i - 1 < es2.length by omega)))
              omega
          obtain ⟨T, hT⟩ : ∃ T : Nat, T = s + i := ⟨_, rfl⟩
          obtain ⟨U, hU⟩ : ∃ U : Nat, U = es2[i].1.slot := ⟨_, rfl⟩
          rw [← hU] at q0 hne
          have e1 : IntKind.u64.wrap (i : Int) = (i : Int) := by rw [IntKind.wrap_u64]; omega
          have e2 : IntKind.u64.wrap ((s : Int) + (i : Int)) = (T : Int) := by rw [IntKind.wrap_u64]; omega
          have m0 : ¬ (i : Int) < 0 := by omega
          have hd : ¬ (U : Int) = (T : Int) := by omega
          clear hT hU hs3 q1
          go_wp2
          go_ret
          exact Hend.out
end Go.Proofs.Ytnomddhgcdoifaa
