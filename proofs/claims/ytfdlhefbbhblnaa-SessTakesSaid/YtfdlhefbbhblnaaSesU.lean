/- slices.Delete of a row's first pieces. -/
import Derived.Test.YtfdlhefbbhblnaaSesT
import Derived.Test.YtfdlhefbbhblnaaCut
namespace Go.Proofs.Ytfdlhefbbhblnaa
open Go.RowKit Go.Maps

theorem pcC_drop (es : List Pce) (k : Nat) : (pcC es).drop (k * 2) = pcC (es.drop k) := flat_drop (s := 2) es (fun _ _ => rfl) k
theorem pcC_one {es : List Pce} : ∀ u ∈ pcC es, (∀ e ∈ es, e.2.oneCell' = true) → u.oneCell' = true := by
  intro u hu h
  unfold pcC at hu
  obtain ⟨e, he, hu⟩ := List.mem_flatMap.1 hu
  simp only [pcE, List.mem_cons, List.not_mem_nil, or_false] at hu
  rcases hu with rfl | rfl
  · exact h e he
  · rfl
theorem PcRow.front {w w3 w4 : World} {F : Nat → Prop} {R n c k : Nat} {es : List Pce} (h : PcRow w F (.slice (some ⟨R, 0, none⟩) n c) es) (hn : n = es.length) (hk : k ≤ n) (hnc : n ≤ c) (ha : AppIn w w3 0 84 2 R 0 (n - k) c [] (pcC (es.drop k))) (vs : List Value) (hvs : vs.length = k * 2) (hw4 : w4 = w3.setCells R ((n - k) * 2) vs) :
    PcRow w4 F (.slice (some ⟨R, 0, none⟩) (n - k) c) (es.drop k) ∧ Kp (fun j => j = R) w w4 := by
  subst hw4
  have hk1 : Kp (fun j => j = R) w w3 := Kp.of_grown ha.grow rfl
  have hk2 : Kp (fun j => j = R) w (w3.setCells R ((n - k) * 2) vs) := hk1.trans (Kp.sets (F := fun j => j = R) rfl _ _ _)
  have hl : (es.drop k).length = n - k := by rw [List.length_drop]; omega
  have hown := ha.own
  rw [Nat.zero_add, List.nil_append] at hown
  have hR : F R := h.foot R rfl
  refine ⟨⟨?_, fun e he => ?_, fun j e => by injection e with e; subst e; exact hR, fun e he => h.bods e (List.mem_of_mem_drop he)⟩, hk2⟩
  · rw [hl]
    exact own_beyond hown _ _ (Nat.le_refl _) (by rw [hvs, ← Nat.add_mul]; exact Nat.mul_le_mul_right _ (by omega))
  · have := h.each e (List.mem_of_mem_drop he)
    refine own_kp this hk2 (fun j e1 e2 => ?_)
    subst e2
    rcases own_types_ne this h.own (by decide) with h' | h'
    · rw [h'] at e1; cases e1
    · exact h' e1

set_option maxRecDepth 100000 in
set_option maxHeartbeats 4000000 in
theorem sDelete_any {w : World} {F : Nat → Prop} {R n c k : Nat} {es : List Pce} (h : PcRow w F (.slice (some ⟨R, 0, none⟩) n c) es) (hn : n = es.length) (hk1 : 1 ≤ k) (hk2 : k ≤ n) (hnc : n ≤ c) :
    Calls Try.prog 38 #[.slice (some ⟨R, 0, none⟩) n c, .int .i64 0, .int .i64 (k : Int)] w fun e w' =>
      e = .returned (.slice (some ⟨R, 0, none⟩) (n - k) c) ∧ PcRow w' F (.slice (some ⟨R, 0, none⟩) (n - k) c) (es.drop k) ∧ Kp (fun j => j = R) w w' := by
  obtain ⟨iw, hiw, hzw, hsw, hbw⟩ := info_parts Try.infoPiece
  have hone : ∀ e ∈ es, e.2.oneCell' = true := fun e he => by
    obtain ⟨A, c, e2, _⟩ := own_shape (h.each e he)
    rw [e2]; rfl
  have h3o := h.own
  rw [← hn] at h3o
  have HZ : Hid (w.drew.ownsRow 0 84 2 (.slice (some ⟨R, 0, none⟩) 0 c) 0 []) := Lib.hid (own_zero h3o)
  have HN : Hid (∀ j u, (pcC (es.drop k))[j]? = some u → w.drew.cell? ((⟨R, k * 2, none⟩ : Addr).add j) = some u) := by
    refine Lib.hid fun j u hu => ?_
    rw [← pcC_drop, List.getElem?_drop] at hu
    have := h3o.cells (g := R) rfl (k * 2 + j) u hu
    rw [Addr.add_lit] at this ⊢
    rw [Nat.zero_add] at this
    exact this
  have HNl : Hid ((pcC (es.drop k)).length = (n - k) * 2) := Lib.hid (by rw [pcC_len, List.length_drop, ← hn])
  have HN1 : Hid (∀ u ∈ pcC (es.drop k), u.oneCell' = true) := Lib.hid fun u hu => pcC_one u hu (fun e he => hone e (List.mem_of_mem_drop he))
  obtain ⟨ad, had⟩ : ∃ ad, (if c = k then some (⟨R, 0, none⟩ : Addr) else some ⟨R, k * 2, none⟩) = some ad := by split <;> exact ⟨_, rfl⟩
  have HN2 : Hid (∀ j u, (pcC (es.drop k))[j]? = some u → w.drew.cell? (ad.add j) = some u) := by
    refine Lib.hid fun j u hu => ?_
    by_cases hck : c = k
    · have hd0 : es.drop k = [] := List.drop_eq_nil_of_le (by omega)
      rw [hd0] at hu
      simp [pcC] at hu
    · rw [if_neg hck] at had
      injection had with had
      rw [← had]
      exact HN.out j u hu
  have H3 := Lib.hid h
  have Hn := Lib.hid hn
  have Hiw := Lib.hid hiw
  have Hsw := Lib.hid hsw
  have Hzw := Lib.hid hzw
  have m1 : ¬ c = 0 := by omega
  have m2 : ¬ n = 0 := by omega
  have m3 : ¬ k = 0 := by omega
  have m4 : (k : Int) ≤ (n : Int) := by omega
  have m5 : ¬ (0 : Int) = (k : Int) := by omega
  have m6 : k ≤ c := by omega
  have m7 : (n : Int) ≤ (c : Int) := by omega
  clear h hiw hzw hsw hbw hone h3o hn HN
  go_enter Try.func38, Try.ntmps38
  go_wp2_with fail
  go_region_law ((refine step_append_in _ rfl _ _ 80 (by rfl) 0 84 iw 2 Try.underlying80 Hiw.out Hsw.out R 0 c _ (by rfl) HZ.out ad (n - k) (c - k) _ (by rfl) HNl.out HN2.out HN1.out (by omega) ?_); intro w3 ha)
  all_goals
    obtain ⟨r, hr⟩ : ∃ r, n - k = r := ⟨_, rfl⟩
    have Hr := Lib.hid hr
    have hrn : r + k = n := by omega
    have hth : w3.there R (r * 2) ((n - r) * 2) := own_there_cap ha.own _ _ (by omega)
    have Hth := Lib.hid hth
    have Ha := Lib.hid ha
    have q1 : r ≤ n := by omega
    have q2 : (r : Int) ≤ (n : Int) := by omega
    have q3 : ¬ c = r := by omega
    have q4 : r ≤ c := by omega
    clear ha hth had HZ HN2 HNl HN1 m1 m2 m3 m4 m5 m6
    simp only [hr]
    clear hr
    have hz1 : ∀ u ∈ (Value.agg #[.slice none 0 0, .int .i64 0]).cells, u.oneCell' = true := by
      intro u hu
      simp [Value.cells] at hu
      rcases hu with rfl | rfl <;> rfl
    have hvs : (Builtin.zeroCells (Value.agg #[.slice none 0 0, .int .i64 0]).cells (n - r)).toList.length = k * 2 := by
      have e : n - r = k := by omega
      rw [e]; simp [Builtin.zeroCells, Value.cells]
    have Hvs := Lib.hid hvs
    have Hz1 := Lib.hid hz1
    clear hvs hz1
    obtain ⟨vs, hvv⟩ : ∃ vs, vs = (Builtin.zeroCells (Value.agg #[.slice none 0 0, .int .i64 0]).cells (n - r)).toList := ⟨_, rfl⟩
    obtain ⟨w4, hw4⟩ : ∃ w4, w4 = w3.setCells R (r * 2) vs := ⟨_, rfl⟩
    have hrow := (H3.out.kp (G := fun _ => False) (Kp.of_below ((Below.refl w.heap.size w).drew)) (fun _ _ h => h)).front (w4 := w4) Hn.out hk2 hnc Ha.out vs (by rw [hvv]; exact Hvs.out) (by rw [Hr.out]; exact hw4)
    have HR := Lib.hid hrow
    have Hvv := Lib.hid hvv
    have Hw4 := Lib.hid hw4
    clear hvv hw4 hrow
    go_wp2_with ((refine wpList_clear_in rfl _ 80 rfl 84 iw _ Try.underlying80 Hiw.out Hzw.out Hz1.out R (r * 2) (n - r) (c - r) (by omega) (by rfl) Hth.out ?_); rw [← Hvv.out, ← Hw4.out])
    go_ret
    have hR := HR.out
    rw [Hr.out] at hR ⊢
    exact ⟨rfl, hR.1, (Kp.of_below ((Below.refl _ _).drew)).trans hR.2⟩
end Go.Proofs.Ytfdlhefbbhblnaa
