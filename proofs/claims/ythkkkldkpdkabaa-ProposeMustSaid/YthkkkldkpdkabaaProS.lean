/- Layer 10's laws: long; the same votes. -/
import Derived.Test.YthkkkldkpdkabaaProGv
import Derived.Test.YthkkkldkpdkabaaProK
import Derived.Test.YthkkkldkpdkabaaSame
import Derived.Deep.LoopGhost
namespace Go.Proofs.Ythkkkldkpdkabaa
open Go.RowKit Go.Maps

def LongR (n : Nat) (f : Nat → Ac10) (w : World) (e : Ending) (w' : World) : Prop := ∃ b : Bool, e = .returned (.bool b) ∧ w = w' ∧ (b = false → ∀ i, i < n → i < 60 → (f i).on ≤ 4000 ∧ (f i).vn ≤ 4000)
theorem LongR.false_ {n : Nat} {f : Nat → Ac10} {w : World} (h : ∀ i, i < n → i < 60 → (f i).on ≤ 4000 ∧ (f i).vn ≤ 4000) : LongR n f w (.returned (.bool false)) w := ⟨false, rfl, rfl, fun _ => h⟩
theorem LongR.true_ {n : Nat} {f : Nat → Ac10} {w : World} : LongR n f w (.returned (.bool true)) w := ⟨true, rfl, rfl, fun h => by cases h⟩
set_option maxRecDepth 100000 in
set_option maxHeartbeats 4000000 in
theorem long10_any (A : Option Addr) (n c B : Nat) (f : Nat → Ac10) (w : World) (hc : n ≤ c ∧ c ≤ 9223372036854775807) (hr : Acts10 w B A n f) : Calls Try.prog 10 #[.slice A n c] w (LongR n f w) := by
  obtain ⟨M, hM⟩ : ∃ M, M = min n 60 := ⟨_, rfl⟩
  have hcm := hc.1
  have hcx := hc.2
  have HT : Hid (LongR n f w (.returned (.bool true)) w) := Lib.hid LongR.true_
  have HA : Hid (∀ k, k < n → ∃ b o, A = some ⟨b, o, none⟩ ∧ w.cell? ⟨b, o + k * 5 + 3, none⟩ = some (.slice (f k).oA (f k).on (f k).oc) ∧ w.cell? ⟨b, o + k * 5 + 4, none⟩ = some (.slice (f k).vA (f k).vn (f k).vc) ∧ (f k).Ok w B) := Lib.hid fun k hk => by
    obtain ⟨b, o, e, _, hi⟩ := hr (by omega)
    obtain ⟨k0, k1, k2, k3, k4, k5⟩ := hi k hk
    exact ⟨b, o, e, k4, k5, k0⟩
  clear hr hc
  go_enter Try.func10, Try.ntmps10
  go_wp2_with fail
  go_loopg [3] M (fun gk i wr => ∃ k : Nat, i = .int .i64 (k : Int) ∧ k + gk = M ∧ w = wr ∧ Hid (∀ i, i < n → i < k → (f i).on ≤ 4000 ∧ (f i).vn ≤ 4000))
  case atStart => exact ⟨0, rfl, by omega, rfl, Lib.hid fun i _ h => by omega⟩
  case round =>
    obtain ⟨k, rfl, hkg, rfl, HI⟩ := hrel
    by_cases hk : k < M
    · have hkn : k < n := by omega
      have hk60 : k < 60 := by omega
      obtain ⟨b, o, rfl, c3, c4, hok⟩ := HA.out k hkn
      have HN : Hid (∀ N, (f k).vn ≤ N → N ≤ 4000 → (f k).on ≤ 4000 → ∀ i, i < n → i < k + 1 → (f i).on ≤ 4000 ∧ (f i).vn ≤ 4000) := Lib.hid fun N h1 h2 h3 i hi hik => by
        by_cases he : i = k
        · subst he; exact ⟨h3, by omega⟩
        · exact HI.out i hi (by omega)
      have hoc := hok.ocap
      have hvs := hok.vs
      generalize (f k).oA = oA at *
      generalize (f k).on = on at *
      generalize (f k).oc = oc at *
      generalize (f k).vA = vA at *
      generalize (f k).vn = vn at *
      generalize (f k).vc = vc at *
      generalize (f k).es = es at *
      clear hok
      have HV : Hid (∀ j, j < vn → ∃ R p x, vA = some ⟨R, p, none⟩ ∧ w.cell? ⟨R, p + j * 4 + 3, none⟩ = some (.slice x.1 x.2.1 x.2.2) ∧ (x : Option Addr × Nat × Nat).2.1 ≤ x.2.2 ∧ x.2.2 ≤ 9223372036854775807) := Lib.hid fun j hj => by
        obtain ⟨R, p, e, _, _, hi⟩ := hvs.row (by omega)
        have hje : j < es.length := by rw [hvs.len]; exact hj
        obtain ⟨_, _, _, q3⟩ := hi j hje
        have he := hvs.each _ (List.getElem_mem hje)
        exact ⟨R, p, es[j].2, e, q3, he.1, he.2.1⟩
      have hvc := hvs.cap
      obtain ⟨hvc1, hvc2⟩ := hvc
      obtain ⟨hoc1, hoc2⟩ := hoc
      clear hvs
      go_wp2_with fail
      obtain ⟨gk1, hgk1⟩ : ∃ g, g = gk := ⟨_, rfl⟩
      subst hgk1
      go_loopg [4, 5] vn (fun gi t j w2 => ∃ (N j' : Nat), t = .int .i64 (N : Int) ∧ j = .int .i64 (j' : Int) ∧ j' + gi = vn ∧ w = w2 ∧ on + j' ≤ N ∧ N ≤ on + 9000 ∧ (4000 < on → j' = 0 ∧ N = on) ∧ (on ≤ 4000 → N ≤ 8002))
      case atStart => exact ⟨on, 0, rfl, rfl, by omega, rfl, by omega, by omega, fun _ => ⟨rfl, rfl⟩, fun h => by omega⟩
      case round =>
        obtain ⟨N, j, rfl, rfl, hjg, rfl, hN1, hN2, hN3, hN4⟩ := hrel
        by_cases hj : j < vn
        · by_cases hN : N ≤ 4000
          · have hon : on ≤ 4000 := by omega
            obtain ⟨R, p, ⟨xA, xn, xc⟩, rfl, q3, hx1, hx2⟩ := HV.out j hj
            dsimp only at q3 hx1 hx2
            have em : min (xn : Int) 4000 = ((min xn 4000 : Nat) : Int) := by omega
            have hmm : min xn 4000 ≤ 4000 := by omega
            generalize (min xn 4000 : Nat) = mm at *
            have e1 : IntKind.i64.wrap ((mm : Int) + 1) = ((mm + 1 : Nat) : Int) := by rw [IntKind.wrap_i64]; omega
            have e2 : IntKind.i64.wrap ((N : Int) + ((mm + 1 : Nat) : Int)) = ((N + (mm + 1) : Nat) : Int) := by rw [IntKind.wrap_i64]; omega
            go_wp2
            go_roundg (gk - 1)
            case measure => omega
            case rel => exact ⟨N + (mm + 1), j + 1, by go_num, by go_num, by omega, rfl, by omega, by omega, fun h => by omega, fun h => by omega⟩
          · have hN' : ¬ (N : Int) ≤ 4000 := by omega
            have hN'' : (N : Int) > 4000 := by omega
            go_wp2
            go_ret
            exact HT.out
        · by_cases hN : N ≤ 4000
          · have hN' : ¬ (N : Int) > 4000 := by omega
            have HNx := Lib.hid (HN.out N (by omega) hN (by omega))
            go_wp2
            go_roundg (gk1 - 1)
            case measure => omega
            case rel => exact ⟨k + 1, by go_num, by omega, rfl, HNx⟩
          · have hN'' : (N : Int) > 4000 := by omega
            go_wp2
            go_ret
            exact HT.out
    · have HF : Hid (LongR n f w (.returned (.bool false)) w) := Lib.hid (LongR.false_ fun i h1 h2 => HI.out i h1 (by omega))
      have hkM : k = M := by omega
      by_cases hkn : k < n
      · have hk60 : ¬ k < 60 := by omega
        go_wp2
        go_ret
        exact HF.out
      · go_wp2
        go_ret
        exact HF.out
end Go.Proofs.Ythkkkldkpdkabaa
