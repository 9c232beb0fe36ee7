/- Layer 12, the program's row: what stands from a slot on; a run without a gap. -/
import Derived.Test.YtnomddhgcdoifaaRlA
import Derived.Deep.QuietTactic
import Derived.Deep.DeepCutAuto
namespace Go.Proofs.Ytnomddhgcdoifaa
open Go.RowKit

/-- An answer that reads as these entries. -/
def RunE (F : Nat → Prop) (l : List En) (w : World) (e : Ending) (w' : World) : Prop := ∃ A n c es, e = .returned (.slice A n c) ∧ EnsR w' F A n c es ∧ es.map (·.1) = l ∧ Below w.heap.size w w'
set_option maxRecDepth 100000 in
set_option maxHeartbeats 2000000 in
theorem efrom_any {w : World} {F : Nat → Prop} {A : Option Addr} {n c : Nat} {es : List Ene} (h : EnRow w F (.slice A n c) es) (hs : Rise (es.map (·.1))) (hn : es.length ≤ 1000000) (s : Nat) :
    Calls Try.prog 33 #[.slice A n c, .int .u64 (s : Int)] w (RunE F ((es.map (·.1)).drop (findE s (es.map (·.1)))) w) := by
  have HB := Lib.hid (efind_any h hs hn s)
  have hle := findE_le s (es.map (·.1))
  rw [List.length_map] at hle
  unfold BsE at HB
  generalize findE s (es.map (·.1)) = k at *
  generalize hasE s (es.map (·.1)) = hv at *
  obtain ⟨A0, c0, e0, hnc, hcm⟩ := h.shape
  injection e0 with e1 e2 e3
  subst e1 e2 e3
  have HP := Lib.hid (h.piece k (es.length - k) (by omega))
  rw [show (es.drop k).take (es.length - k) = es.drop k from List.take_of_length_le (by rw [List.length_drop]; exact Nat.le_refl _)] at HP
  rw [← List.map_drop]
  have hkn : (k : Int) ≤ (es.length : Int) := by omega
  have hk0 : (0 : Int) ≤ (k : Int) := by omega
  have HA : Hid (∀ R, A = some R → ∃ b, R = ⟨b, 0, none⟩) := Lib.hid fun R e => by
    rcases h.own.2 with ⟨h', _⟩ | ⟨g, cap, cur, hv, _⟩
    · injection h' with h'; rw [h'] at e; cases e
    · injection hv with hv _ _; rw [hv] at e; injection e with e; exact ⟨g, e.symm⟩
  have HA0 : Hid (A = none → es.length = 0 ∧ c = 0) := Lib.hid fun e => by
    rcases h.own.2 with ⟨h', _⟩ | ⟨g, cap, cur, hv, _⟩
    · injection h' with _ h2 h3; exact ⟨h2, h3⟩
    · injection hv with hv _ _; rw [hv] at e; cases e
  clear h hs hn
  generalize es.length = N at *
  cases A with
  | none =>
    obtain ⟨rfl, rfl⟩ := HA0.out rfl
    obtain rfl : k = 0 := by omega
    go_enter Try.func33, Try.ntmps33
    go_wp2_with fail
    refine HB.out.mono ?_
    rintro e w2 ⟨rfl, hb2⟩
    have HB2 := Lib.hid hb2
    clear hb2
    go_wp2
    go_ret
    exact ⟨none, 0, 0, _, rfl, HP.out.below HB2.out, rfl, HB2.out⟩
  | some a =>
    obtain ⟨b, rfl⟩ := HA.out _ rfl
    obtain ⟨A', hA'⟩ : ∃ A', (if c = k then (some ⟨b, 0, none⟩ : Option Addr) else some ⟨b, k * 2, none⟩) = A' := ⟨_, rfl⟩
    have HP' : Hid (EnsR w F A' (N - k) (c - k) (es.drop k)) := Lib.hid (by
      have := HP.out
      rw [show (if c = k then (some ⟨b, 0, none⟩ : Option Addr) else (some ⟨b, 0, none⟩ : Option Addr).map fun a => a.add (k * 2)) = A' by
        rw [← hA']; simp [Addr.add_lit]] at this
      exact this)
    clear HP HA HA0
    go_enter Try.func33, Try.ntmps33
    go_wp2_with fail
    refine HB.out.mono ?_
    rintro e w2 ⟨rfl, hb2⟩
    have HB2 := Lib.hid hb2
    clear hb2
    go_wp2
    all_goals
      go_ret
      first
        | exact ⟨_, _, _, _, by rw [← hA']; simp_all, HP'.out.below HB2.out, rfl, HB2.out⟩
        | exact ⟨_, _, _, _, rfl, HP'.out.below HB2.out, rfl, HB2.out⟩
end Go.Proofs.Ytnomddhgcdoifaa
