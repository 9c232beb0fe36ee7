/- Layer 13, the program's table: slices.Delete of one client; reorder. -/
import Derived.Test.YtgippbbbfpkhhaaOnF
import Derived.Test.YtgippbbbfpkhhaaCut
import Derived.Test.YtgippbbbfpkhhaaAppend2
import Derived.Test.YtgippbbbfpkhhaaMid
namespace Go.Proofs.Ytgippbbbfpkhhaa
open Go.RowKit Go.Maps

theorem own_takeC {w : World} {base e size n cap g : Nat} {xs : List Value} (h : w.ownsRow base e size (.slice (some ⟨g, 0, none⟩) n cap) n xs) (k : Nat) (hk : k ≤ n) : w.ownsRow base e size (.slice (some ⟨g, 0, none⟩) k cap) k (xs.take (k * size)) := by
  have hx := h.1
  have hle : k * size ≤ n * size := Nat.mul_le_mul_right _ hk
  refine ⟨by rw [List.length_take]; omega, ?_⟩
  rcases h.2 with ⟨h', _⟩ | ⟨g', cap', cur, hv, hb, hh, hnc, hcm, hcs, ht⟩
  · cases h'
  · injection hv with h1 _ h3
    injection h1 with h1
    injection h1 with h1
    subst h1 h3
    refine .inr ⟨g, cap, cur, rfl, hb, hh, by omega, hcm, hcs, ?_⟩
    rw [← ht, List.take_take, Nat.min_eq_left hle]
/-- The row without the client at a place. -/
theorem cutRowC {w w3 w4 : World} {b n c k : Nat} {es : List Cle} (hn : n = es.length) (hk : k < n) (hnc : n ≤ c) (ha : AppIn w w3 0 64 4 b k (n - (k + 1)) c (clC (es.take k)) (clC (es.drop (k + 1)))) (r : Nat) (hr : k + (n - (k + 1)) = r) (vs : List Value) (hvs : vs.length = 4) (hw4 : w4 = w3.setCells b (r * 4) vs) :
    w4.ownsRow 0 64 4 (.slice (some ⟨b, 0, none⟩) r c) r (clC (es.eraseIdx k)) ∧ Kp (fun j => j = b) w w4 ∧ (es.eraseIdx k).length = r := by
  subst hw4
  have hk1 : Kp (fun j => j = b) w w3 := Kp.of_grown ha.grow rfl
  have hk2 : Kp (fun j => j = b) w (w3.setCells b (r * 4) vs) := hk1.trans (Kp.sets (F := fun j => j = b) rfl _ _ _)
  have hl : (es.eraseIdx k).length = r := by rw [List.length_eraseIdx_of_lt (by omega)]; omega
  have hown := ha.own
  rw [← clC_app, ← List.eraseIdx_eq_take_drop_succ, hr] at hown
  exact ⟨own_beyond hown _ _ (Nat.le_refl _) (by rw [hvs]; have : n * 4 ≤ c * 4 := Nat.mul_le_mul_right _ hnc; omega), hk2, hl⟩
set_option maxRecDepth 100000 in
set_option maxHeartbeats 4000000 in
theorem cdelete_any {w : World} {b n c k : Nat} {es : List Cle} (h : w.ownsRow 0 64 4 (.slice (some ⟨b, 0, none⟩) n c) n (clC es)) (hn : n = es.length) (hk : k < n) (hnc : n ≤ c) :
    Calls Try.prog 56 #[.slice (some ⟨b, 0, none⟩) n c, .int .i64 (k : Int), .int .i64 ((k : Int) + 1)] w fun e w' =>
      e = .returned (.slice (some ⟨b, 0, none⟩) (es.eraseIdx k).length c) ∧ w'.ownsRow 0 64 4 (.slice (some ⟨b, 0, none⟩) (es.eraseIdx k).length c) (es.eraseIdx k).length (clC (es.eraseIdx k)) ∧ Kp (fun j => j = b) w w' := by
  obtain ⟨iw, hiw, hzw, hsw, hbw⟩ := info_parts Try.infoClient
  have HT := Lib.hid ((own_takeC h k (by omega)))
  have HNl : Hid ((clC (es.drop (k + 1))).length = (n - (k + 1)) * 4) := Lib.hid (by rw [clC_len, List.length_drop, ← hn])
  have HN1 : Hid (∀ u ∈ clC (es.drop (k + 1)), u.oneCell' = true) := Lib.hid fun u hu => clC_one _ u hu
  have hto : ((k : Int) + 1).toNat = k + 1 := by omega
  have h00 : (0 : Int) ≤ (k : Int) + 1 := by omega
  have hle : (k : Int) + 1 ≤ (n : Int) := by omega
  have hkn : (k : Int) < (n : Int) := by omega
  have hkc : k ≤ c := by omega
  have hk1n : k + 1 ≤ n := by omega
  have hk1c : k + 1 ≤ c := by omega
  have hne : ¬ ((k : Int) = (k : Int) + 1) := by omega
  obtain ⟨ad, had⟩ : ∃ ad, (if c = k + 1 then some (⟨b, 0, none⟩ : Addr) else some ⟨b, (k + 1) * 4, none⟩) = some ad := by split <;> exact ⟨_, rfl⟩
  have HN2 : Hid (∀ j u, (clC (es.drop (k + 1)))[j]? = some u → (w.drewN 1).cell? (ad.add j) = some u) := by
    refine Lib.hid fun j u hu => ?_
    by_cases hck : c = k + 1
    · have hd0 : es.drop (k + 1) = [] := List.drop_eq_nil_of_le (by omega)
      rw [hd0] at hu
      simp [clC] at hu
    · rw [if_neg hck] at had
      injection had with had
      rw [← had]
      rw [← clC_drop, List.getElem?_drop] at hu
      have := h.cells (g := b) rfl ((k + 1) * 4 + j) u hu
      rw [Addr.add_lit] at this ⊢
      rwa [Nat.zero_add] at this
  have Hiw := Lib.hid hiw
  have Hsw := Lib.hid hsw
  have Hzw := Lib.hid hzw
  have Hn := Lib.hid hn
  clear h hiw hzw hsw hbw hn
  go_enter Try.func56, Try.ntmps56
  go_wp2_with fail
  go_region_law ((refine step_append_in _ rfl _ _ 47 (by rfl) 0 64 iw 4 Try.underlying47 Hiw.out Hsw.out b k c _ (by rfl) HT.out ad (n - (k + 1)) (c - (k + 1)) _ (by rfl) HNl.out HN2.out HN1.out (by omega) ?_); intro w3 ha)
  all_goals
    obtain ⟨r, hr⟩ : ∃ r, k + (n - (k + 1)) = r := ⟨_, rfl⟩
    have hrn : r + 1 = n := by omega
    have Hr := Lib.hid hr
    have ha0 := ha
    rw [clC_take] at ha0
    have hth : w3.there b (r * 4) ((n - r) * 4) := own_there_cap ha.own _ _ (by omega)
    have Hth := Lib.hid hth
    have Ha := Lib.hid ha0
    have hrn1 : r ≤ n := by omega
    have hrn2 : (r : Int) ≤ (n : Int) := by omega
    have hrc : r ≤ c := by omega
    have hcr : ¬ c = r := by omega
    clear ha ha0 hth had HT HN2 HNl HN1 hto h00 hle hkn hkc hk1n hk1c hne
    simp only [hr]
    clear hr
    have hz1 : ∀ u ∈ (Value.agg #[.int .u64 0, .int .u64 0, .bool false, .slice none 0 0]).cells, u.oneCell' = true := by
      intro u hu
      simp [Value.cells] at hu
      rcases hu with rfl | rfl | rfl <;> rfl
    have hvs : (Builtin.zeroCells (Value.agg #[.int .u64 0, .int .u64 0, .bool false, .slice none 0 0]).cells (n - r)).toList.length = 4 := by
      have e : n - r = 1 := by omega
      rw [e]; simp [Builtin.zeroCells, Value.cells]
    have Hvs := Lib.hid hvs
    have Hz1 := Lib.hid hz1
    clear hvs hz1
    obtain ⟨vs, hvv⟩ : ∃ vs, vs = (Builtin.zeroCells (Value.agg #[.int .u64 0, .int .u64 0, .bool false, .slice none 0 0]).cells (n - r)).toList := ⟨_, rfl⟩
    obtain ⟨w4, hw4⟩ : ∃ w4, w4 = w3.setCells b (r * 4) vs := ⟨_, rfl⟩
    have hrow := cutRowC (w4 := w4) Hn.out hk hnc Ha.out r Hr.out vs (by rw [hvv]; exact Hvs.out) hw4
    have HR := Lib.hid hrow
    have Hvv := Lib.hid hvv
    have Hw4 := Lib.hid hw4
    clear hvv hw4 hrow
    go_wp2_with ((refine wpList_clear_in rfl _ 47 rfl 64 iw _ Try.underlying47 Hiw.out Hzw.out Hz1.out b (r * 4) (n - r) (c - r) (by omega) (by rfl) Hth.out ?_); rw [← Hvv.out, ← Hw4.out])
    go_ret
    obtain ⟨h1, h2, h3⟩ := HR.out
    rw [h3]
    exact ⟨rfl, h1, (Kp.drew _ _).trans h2⟩
section
variable {w : World} {F : Nat → Prop} {g n c : Nat} {t : Tb} {A : Option Addr} {es : List Cle} {dn : Bool} {mp : Option Nat}
theorem st3C (w : World) (g i : Nat) (a b c : Value) : Kp (fun k => k = g) w (((w.setCell ⟨g, i, none⟩ a).setCell ⟨g, i + 1, none⟩ b).setCell ⟨g, i + 2, none⟩ c) := Kp.sets (F := fun k => k = g) rfl [a, b, c] i w
set_option maxRecDepth 100000 in
theorem reorder_any (h : PRm w F g t A n c es dn mp) : Calls Try.prog 57 #[.pointer (some ⟨g, 0, none⟩)] w fun e w' => e = .returned (.tuple #[]) ∧ Hid (PTm w' F g t A n c es false mp ∧ Kp (fun k => k = g) w w') := by
  obtain ⟨c0, c1, c2, c3, c4, c5, c6, c7⟩ := h.cells
  have f2 := h.frz 2
  have f3 := h.frz 3
  have f4 := h.frz 4
  have HH := Lib.hid h
  clear h
  go_enter Try.func57, Try.ntmps57
  go_wp2
  have hk : Kp (fun k => k = g) w (((w.setCell ⟨g, 2, none⟩ (.int .u32 0)).setCell ⟨g, 3, none⟩ (.int .i32 0)).setCell ⟨g, 4, none⟩ (.int .u32 0)) := st3C w g 2 _ _ _
  have hb : Bk (((w.setCell ⟨g, 2, none⟩ (.int .u32 0)).setCell ⟨g, 3, none⟩ (.int .i32 0)).setCell ⟨g, 4, none⟩ (.int .u32 0)) g 85 (tbC t (.slice A n c) false mp) := ((HH.out.bk.set_ 2 _).set_ 3 _).set_ 4 _
  generalize ((w.setCell ⟨g, 2, none⟩ (.int .u32 0)).setCell ⟨g, 3, none⟩ (.int .i32 0)).setCell ⟨g, 4, none⟩ (.int .u32 0) = w2 at *
  go_end0
  have h := HH.out
  exact ⟨rfl, Lib.hid ⟨⟨⟨hb, h.row.keep hk (fun k e => h.row.off h.bk (by decide) (by decide) k e), h.eq, h.len, h.fg, fun k e => Nat.lt_of_lt_of_le (h.lt k e) hk.size⟩, fun e => by cases e⟩, hk⟩⟩
end
end Go.Proofs.Ytgippbbbfpkhhaa
