/- Layer 12, the program's row: the first ones go. -/
import Derived.Test.YtnomddhgcdoifaaRlB
import Derived.Test.YtnomddhgcdoifaaCut
namespace Go.Proofs.Ytnomddhgcdoifaa
open Go.RowKit

theorem own_takeE {w : World} {base e size n cap g : Nat} {xs : List Value} (h : w.ownsRow base e size (.slice (some ⟨g, 0, none⟩) n cap) n xs) (k : Nat) (hk : k ≤ n) : w.ownsRow base e size (.slice (some ⟨g, 0, none⟩) k cap) k (xs.take (k * size)) := by
  have hx := h.1
  have hle : k * size ≤ n * size := Nat.mul_le_mul_right _ hk
  refine ⟨by rw [List.length_take]; omega, ?_⟩
  rcases h.2 with ⟨h', _⟩ | ⟨g', cap', cur, hv, hb, hh, hnc, hcm, hcs, ht⟩
  · cases h'
  · injection hv with h1 _ h3
    injection h1 with h1
    injection h1 with h1
    subst h1 h3
    refine .inr ⟨g, cap, cur, rfl, hb, hh, by omega, hcm, hcs, ?_⟩
    rw [← ht, List.take_take, Nat.min_eq_left hle]
/-- The row without its first ones. -/
theorem cutRowE {w w3 w4 : World} {b n c d : Nat} {es : List Ene} (hn : n = es.length) (hd : d ≤ n) (hnc : n ≤ c) (ha : AppIn w w3 0 45 2 b 0 (n - d) c [] (enC (es.drop d))) (r : Nat) (hr : n - d = r) (vs : List Value) (hvs : vs.length = d * 2) (hw4 : w4 = w3.setCells b (r * 2) vs) :
    w4.ownsRow 0 45 2 (.slice (some ⟨b, 0, none⟩) r c) r (enC (es.drop d)) ∧ Kp (fun j => j = b) w w4 := by
  subst hw4
  have hk1 : Kp (fun j => j = b) w w3 := Kp.of_grown ha.grow rfl
  have hk2 : Kp (fun j => j = b) w (w3.setCells b (r * 2) vs) := hk1.trans (Kp.sets (F := fun j => j = b) rfl _ _ _)
  have hown := ha.own
  rw [List.nil_append, Nat.zero_add, hr] at hown
  exact ⟨own_beyond hown _ _ (Nat.le_refl _) (by rw [hvs]; have : (r + d) * 2 ≤ c * 2 := Nat.mul_le_mul_right _ (by omega); omega), hk2⟩
set_option maxRecDepth 100000 in
set_option maxHeartbeats 4000000 in
theorem edelete_any {w : World} {b n c d : Nat} {es : List Ene} (h : w.ownsRow 0 45 2 (.slice (some ⟨b, 0, none⟩) n c) n (enC es)) (hn : n = es.length) (hd0 : 0 < d) (hd : d ≤ n) (hnc : n ≤ c) :
    Calls Try.prog 46 #[.slice (some ⟨b, 0, none⟩) n c, .int .i64 0, .int .i64 (d : Int)] w fun e w' =>
      e = .returned (.slice (some ⟨b, 0, none⟩) (n - d) c) ∧ w'.ownsRow 0 45 2 (.slice (some ⟨b, 0, none⟩) (n - d) c) (n - d) (enC (es.drop d)) ∧ Kp (fun j => j = b) w w' := by
  obtain ⟨iw, hiw, hzw, hsw, hbw⟩ := info_parts Try.infoEntry
  have HT : Hid (w.ownsRow 0 45 2 (.slice (some ⟨b, 0, none⟩) 0 c) 0 []) := Lib.hid (by have := own_takeE h 0 (Nat.zero_le _); simpa using this)
  have HNl : Hid ((enC (es.drop d)).length = (n - d) * 2) := Lib.hid (by rw [enC_len, List.length_drop, ← hn])
  have HN1 : Hid (∀ u ∈ enC (es.drop d), u.oneCell' = true) := Lib.hid fun u hu => enC_one _ u hu
  have h00 : (0 : Int) ≤ (d : Int) := by omega
  have hle : (d : Int) ≤ (n : Int) := by omega
  have hdc : d ≤ c := by omega
  have hne : ¬ ((0 : Int) = (d : Int)) := by omega
  obtain ⟨ad, had⟩ : ∃ ad, (if c = d then some (⟨b, 0, none⟩ : Addr) else some ⟨b, d * 2, none⟩) = some ad := by split <;> exact ⟨_, rfl⟩
  have HN2 : Hid (∀ j u, (enC (es.drop d))[j]? = some u → (w.drewN 1).cell? (ad.add j) = some u) := by
    refine Lib.hid fun j u hu => ?_
    by_cases hck : c = d
    · have hd0 : es.drop d = [] := List.drop_eq_nil_of_le (by omega)
      rw [hd0] at hu
      simp [enC] at hu
    · rw [if_neg hck] at had
      injection had with had
      rw [← had]
      rw [← enC_drop, List.getElem?_drop] at hu
      have := h.cells (g := b) rfl (d * 2 + j) u hu
      rw [Addr.add_lit] at this ⊢
      rwa [Nat.zero_add] at this
  have Hiw := Lib.hid hiw
  have Hsw := Lib.hid hsw
  have Hzw := Lib.hid hzw
  have Hn := Lib.hid hn
  clear h hiw hzw hsw hbw hn
  go_enter Try.func46, Try.ntmps46
  go_wp2_with fail
  go_region_law ((refine step_append_in _ rfl _ _ 49 (by rfl) 0 45 iw 2 Try.underlying49 Hiw.out Hsw.out b 0 c _ (by rfl) HT.out ad (n - d) (c - d) _ (by rfl) HNl.out HN2.out HN1.out (by omega) ?_); intro w3 ha)
  all_goals
    obtain ⟨r, hr⟩ : ∃ r, n - d = r := ⟨_, rfl⟩
    have hrn : r + d = n := by omega
    have Hr := Lib.hid hr
    have hth : w3.there b (r * 2) ((n - r) * 2) := own_there_cap ha.own _ _ (by have : n * 2 ≤ c * 2 := Nat.mul_le_mul_right _ hnc; omega)
    have Hth := Lib.hid hth
    have Ha := Lib.hid ha
    have hrn1 : r ≤ n := by omega
    have hrn2 : (r : Int) ≤ (n : Int) := by omega
    have hrc : r ≤ c := by omega
    have hcr : ¬ c = r := by omega
    have hnr := Lib.hid (show n - r = d by omega)
    clear ha hth had HT HN2 HNl HN1 h00 hle hne
    simp only [hr]
    clear hr
    have hz1 : ∀ u ∈ (Value.agg #[.int .u64 0, .slice none 0 0]).cells, u.oneCell' = true := by
      intro u hu
      simp [Value.cells] at hu
      rcases hu with rfl | rfl <;> rfl
    have hvs : (Builtin.zeroCells (Value.agg #[.int .u64 0, .slice none 0 0]).cells (n - r)).toList.length = d * 2 := by
      rw [hnr.out]; simp [Builtin.zeroCells, Value.cells]
    have Hvs := Lib.hid hvs
    have Hz1 := Lib.hid hz1
    clear hvs hz1
    obtain ⟨vs, hvv⟩ : ∃ vs, vs = (Builtin.zeroCells (Value.agg #[.int .u64 0, .slice none 0 0]).cells (n - r)).toList := ⟨_, rfl⟩
    obtain ⟨w4, hw4⟩ : ∃ w4, w4 = w3.setCells b (r * 2) vs := ⟨_, rfl⟩
    have hrow := cutRowE (w4 := w4) Hn.out hd hnc Ha.out r Hr.out vs (by rw [hvv]; exact Hvs.out) hw4
    have HR := Lib.hid hrow
    have Hvv := Lib.hid hvv
    have Hw4 := Lib.hid hw4
    clear hvv hw4 hrow
    go_wp2_with ((refine wpList_clear_in rfl _ 49 rfl 45 iw _ Try.underlying49 Hiw.out Hzw.out Hz1.out b (r * 2) (n - r) (c - r) (by omega) (by rfl) Hth.out ?_); rw [← Hvv.out, ← Hw4.out])
    go_ret
    obtain ⟨h1, h2⟩ := HR.out
    rw [Hr.out]
    exact ⟨rfl, h1, (Kp.drew _ _).trans h2⟩
set_option maxRecDepth 100000 in
theorem edel0_any {w : World} {A : Option Addr} {n c : Nat} (hn : n ≤ c) :
    Calls Try.prog 46 #[.slice A n c, .int .i64 0, .int .i64 0] w fun e w' => e = .returned (.slice A n c) ∧ w = w' := by
  go_enter Try.func46, Try.ntmps46
  go_wp2
  all_goals
    go_ret
    exact ⟨rfl, rfl⟩
end Go.Proofs.Ytnomddhgcdoifaa
