/- Layer 12, the document's log: Learn. -/
import Derived.Test.YtnomddhgcdoifaaRlDe
namespace Go.Proofs.Ytnomddhgcdoifaa
open Go.RowKit

section
variable {w w1 w' w3 : World} {F G : Nat → Prop} {g n c : Nat} {p p2 : Rl} {A : Option Addr} {es es2 : List Ene} {v' : Value}
/-- What the document's Learn answers. -/
def RLe (w : World) (G : Nat → Prop) (g : Nat) (r : Int × Rl) (e : Ending) (w' : World) : Prop := e = .returned (.int .i64 r.1) ∧ Hid (∃ G', RDx w' G' g r.2 ∧ Mv G G' w w')
theorem RLe.still {x : Int} (h : RDL w G g p A n c es) (hw : ∃ q, w' = w.drewN q) : RLe w G g (x, p) (.returned (.int .i64 x)) w' := by
  obtain ⟨q, rfl⟩ := hw
  have hb : Below w.heap.size w (w.drewN q) := bel_drewN (Below.refl _ _) q
  exact ⟨rfl, Lib.hid ⟨G, ⟨_, _, _, _, h.below hb⟩, Mv.of (Kp.of_below hb)⟩⟩
set_option maxRecDepth 100000 in
set_option maxHeartbeats 8000000 in
theorem rlearn_any (h : RDL w G g p A n c es) (s : Nat) (hs : s < 18446744073709551616) {Av : Option Addr} {nv : Nat} (cv : Nat) {v : List UInt8} (hr : Rd w w.heap.size Av nv v) (hn : nv ≤ 1000000) :
    Calls Try.prog 22 #[.pointer (some ⟨g, 0, none⟩), .int .u64 (s : Int), .slice Av nv cv] w (RLe w G g (p.learn s v)) := by
  have hv := hr.1
  have hlen := h.n_len
  have HH := Lib.hid h
  obtain ⟨r, hrr⟩ : ∃ r, r = p.learn s v := ⟨_, rfl⟩
  rw [← hrr]
  unfold Rl.learn at hrr
  by_cases h0 : s = 0
  · have q1 : ((s : Int) == 0) = true := by simp [h0]
    rw [if_pos (.inl h0)] at hrr
    have HR : Hid (r = (2, p)) := Lib.hid hrr
    clear hrr h h0 hr hlen hv
    go_enter Try.func22, Try.ntmps22
    go_wp2
    go_ret
    rw [HR.out]
    exact RLe.still HH.out ⟨0, rfl⟩
  have q1 : ((s : Int) == 0) = false := by simp; omega
  have q1n : ¬ (s : Int) = 0 := by omega
  by_cases hL : s = 18446744073709551615
  · have q2 : ((s : Int) == 18446744073709551615) = true := by simp; omega
    rw [if_pos (.inr hL)] at hrr
    have HR : Hid (r = (2, p)) := Lib.hid hrr
    clear hrr h h0 hL hr hlen hv
    go_enter Try.func22, Try.ntmps22
    go_wp2
    go_ret
    rw [HR.out]
    exact RLe.still HH.out ⟨0, rfl⟩
  have q2 : ((s : Int) == 18446744073709551615) = false := by simp; omega
  have q2n : ¬ (s : Int) = 18446744073709551615 := by omega
  rw [if_neg (by omega)] at hrr
  by_cases h100 : 100 < v.length
  · have m1 : (100 : Int) < (nv : Int) := by omega
    rw [if_pos h100] at hrr
    have HR : Hid (r = (3, p)) := Lib.hid hrr
    clear hrr h hr hlen h100 hv
    go_enter Try.func22, Try.ntmps22
    go_wp2
    go_ret
    rw [HR.out]
    exact RLe.still HH.out ⟨0, rfl⟩
  have m1 : ¬ (100 : Int) < (nv : Int) := by omega
  rw [if_neg h100] at hrr
  have HA := Lib.hid (rat_any h s)
  have c0 := h.c0
  have c1 := h.c1
  have HR0 := Lib.hid hrr
  have HRd := Lib.hid hr
  have Hs := Lib.hid (And.intro h0 (And.intro hL h100))
  have hnv : nv ≤ 100 := by omega
  have hn4 := hlen.2
  have Hlen := Lib.hid hlen.1
  have Hv := Lib.hid hv
  clear hrr h hr h0 hL hlen hv h100
  go_enter Try.func22, Try.ntmps22
  go_wp2_with fail
  refine HA.out.mono ?_
  clear HA
  rintro e w' ⟨⟨x, rfl, HX⟩, hw⟩
  rw [hw]
  clear hw w'
  rcases HX.out with ⟨rfl, hno⟩ | ⟨k, rfl, hk, hsl⟩
  · -- it is not kept
    have hr1 := HR0.out
    rw [if_neg (by rw [hno]; simp)] at hr1
    by_cases hap : s ≤ p.ap
    · have m2 : (s : Int) ≤ (p.ap : Int) := by omega
      rw [if_pos hap] at hr1
      have HR : Hid (r = (0, p)) := Lib.hid hr1
      clear hr1 HR0 HX hno
      go_wp2
      go_ret
      rw [HR.out]
      exact RLe.still HH.out ⟨0, rfl⟩
    have m2 : ¬ (s : Int) ≤ (p.ap : Int) := by omega
    rw [if_neg hap] at hr1
    by_cases hfull : 4096 ≤ p.row.length
    · have m3 : (4096 : Int) ≤ (n : Int) := by have := Hlen.out; omega
      rw [if_pos hfull] at hr1
      have HR : Hid (r = (5, p)) := Lib.hid hr1
      clear hr1 HR0 HX hno
      go_wp2
      go_ret
      rw [HR.out]
      exact RLe.still HH.out ⟨0, rfl⟩
    have m3 : ¬ (4096 : Int) ≤ (n : Int) := by have := Hlen.out; omega
    rw [if_neg hfull] at hr1
    have HR : Hid (r = (0, ⟨p.ap, insE ⟨s, v⟩ p.row⟩)) := Lib.hid hr1
    have hal2 : Alike ⟨p.ap, insE ⟨s, v⟩ p.row⟩ (es.map (·.1) ++ [⟨s, v⟩]) := HH.out.al.push HH.out.ok v hno
    have hok2 : Rl.Ok ⟨p.ap, insE ⟨s, v⟩ p.row⟩ := by
      have h1 := Rl.Ok.learn HH.out.ok s (by omega) v
      rwa [learn_new Hs.out.1 (by have := Hs.out.2.1; omega) (by have := Hs.out.2.2; omega) hno (by omega) (by omega)] at h1
    have HC : Hid (∀ W, Below w.heap.size w W → Calls Try.prog 39 #[.slice Av nv cv] W fun e w' => ∃ A1 c1, e = .returned (.slice A1 nv c1) ∧ w'.ownsRow W.heap.size 5 1 (.slice A1 nv c1) nv (u8s v) ∧ Below W.heap.size W w') := Lib.hid fun W hb => by
      refine (copy_any Av nv cv w.heap.size v W (by omega) (HRd.out.below hb)).mono ?_
      rintro e w' ⟨x, rfl, ho, hb'⟩
      obtain ⟨A1, c1, rfl, _⟩ := own_shape ho
      exact ⟨A1, c1, rfl, ho, hb'⟩
    have HG : Hid (∀ w1 A1 ca, Below w.heap.size w w1 → w1.ownsRow w.heap.size 5 1 (.slice A1 nv ca) nv (u8s v) → w1.cell? ⟨g, 1, none⟩ = some (.slice A n c) ∧ (w1.alloc (.cells #[.int .u64 (s : Int), .slice A1 nv ca] 45)).cell? ⟨g, 1, none⟩ = some (.slice A n c) ∧
        Hid ((w1.alloc (.cells #[.int .u64 (s : Int), .slice A1 nv ca] 45)).ownsRow 0 45 2 (.slice A n c) n (enC es)) ∧ Hid (∀ u ∈ [Value.int .u64 (s : Int), .slice A1 nv ca], u.oneCell' = true) ∧
        Hid (∀ v' w3, App (w1.alloc (.cells #[.int .u64 (s : Int), .slice A1 nv ca] 45)) w3 0 45 2 (.slice A n c) v' n 1 (enC es) [Value.int .u64 (s : Int), .slice A1 nv ca] →
          w3.cell? ⟨g, 1, none⟩ = some (.slice A n c) ∧ w3.frozen? ⟨g, 1, none⟩ = false ∧ Hid (∃ G', RDx (w3.setCell ⟨g, 1, none⟩ v') G' g ⟨p.ap, insE ⟨s, v⟩ p.row⟩ ∧ Mv G G' w (w3.setCell ⟨g, 1, none⟩ v')))) := by
      refine Lib.hid fun w1 A1 ca hb ho => ?_
      have hb2 : Below w.heap.size w (w1.alloc (.cells #[.int .u64 (s : Int), .slice A1 nv ca] 45)) := hb.alloc hb.size _
      have hb3 : Below w1.heap.size w1 (w1.alloc (.cells #[.int .u64 (s : Int), .slice A1 nv ca] 45)) := (Below.refl _ _).alloc (Nat.le_refl _) _
      have hrow := (HH.out.below hb2).row.own
      rw [← HH.out.len] at hrow
      refine ⟨(HH.out.below hb).c1, (HH.out.below hb2).c1, Lib.hid hrow, Lib.hid ?_, Lib.hid fun v' w3 happ => ?_⟩
      · intro u hu
        simp only [List.mem_cons, List.not_mem_nil, or_false] at hu
        rcases hu with rfl | rfl <;> rfl
      · exact RDL.push (e := ⟨s, v⟩) (s := (A1, nv, ca)) HH.out hb2 happ (by have := own_below ho hb3 fun k e => (ho.lt k e).2; rwa [← Hv.out] at this ⊢) (by rw [List.map_append]; exact hal2) hok2 rfl
    obtain ⟨iw, hiw, hzw, hsw, hbw⟩ := info_parts Try.infoEntry
    have Hiw := Lib.hid hiw
    have Hzw := Lib.hid hzw
    have Hsw := Lib.hid hsw
    have Hbw := Lib.hid hbw
    clear hr1 HR0 HX hno hal2 hok2 hiw hzw hsw hbw
    go_wp2_with fail
    go_region_law (first
      | (go_simp; go_at_call 39; (refine (HC.out _ (by (repeat' (first | assumption | exact Below.refl _ _ | apply Below.drew | exact bel_drewN (Below.refl _ _) _)))).mono ?_); rintro e w1 ⟨A1, ca, rfl, ho1, hb1⟩; (obtain ⟨x5, y5, KR, KC, KP⟩ := HG.out w1 A1 ca (below_then (by (repeat' (first | assumption | exact Below.refl _ _ | apply Below.drew | exact bel_drewN (Below.refl _ _) _))) hb1) (own_mono ho1 (by simp))); clear ho1 hb1)
      | ((refine step_append_app _ rfl _ _ 29 (by rfl) 0 45 iw _ 2 32 Try.underlying29 Hiw.out Hzw.out Hsw.out Hbw.out rfl (.slice A n c) n _ (by rfl) KR.out (some ⟨w1.heap.size, 0, none⟩) 1 1 [.int .u64 (s : Int), .slice A1 nv ca] (by rfl) (by rfl) (by intro e; cases e) (new_cells _ _ _ rfl) KC.out (by unfold maxLen; omega) (by omega) (by simp) ?_); intro v' w3 happ; (obtain ⟨Av', cv', rfl, _⟩ := own_shape happ.own); (obtain ⟨k2, kf, HF⟩ := KP.out _ _ happ)))
    all_goals
      clear happ x5 y5 KR KC KP k2 kf c1 c0
      go_wp2
      go_ret
      rw [HR.out]
      exact ⟨rfl, HF⟩
  · -- it is kept
    have hh := HH.out.hasAt k hk
    rw [hsl] at hh
    have hr1 := HR0.out
    rw [if_pos hh.1, hh.2] at hr1
    have m2 : (0 : Int) ≤ (k : Int) := by omega
    have m4 : ¬ (k : Int) < 0 := by omega
    have hkn : k < n := by rw [HH.out.len]; exact hk
    have m5 : (k : Int) < (n : Int) := by omega
    obtain ⟨R, rfl, b0, b1⟩ := HH.out.at_ k hkn
    have hbo := (HH.out.row.body (List.getElem_mem hk)).rd
    obtain ⟨y, hy⟩ : ∃ y, y = es[k] := ⟨_, rfl⟩
    rw [← hy] at b1 hr1 hbo
    obtain ⟨⟨ys, yv⟩, ⟨yA, yN, yC⟩⟩ := y
    unfold s3W at b1
    dsimp only at hr1 hbo
    have k1 : (convert 33 9 (.slice yA yN yC)).run Try.prog w = .ok (.string ⟨yv.toArray⟩) w := hbo.str Try.underlying33 Try.underlying5 Try.underlying9 yC
    have k1d : (convert 33 9 (.slice yA yN yC)).run Try.prog w.drew = .ok (.string ⟨yv.toArray⟩) w.drew := (hbo.drewN 1).str Try.underlying33 Try.underlying5 Try.underlying9 yC
    have k2 := HRd.out.str Try.underlying33 Try.underlying5 Try.underlying9 cv
    have k2d : (convert 33 9 (.slice Av nv cv)).run Try.prog w.drew = .ok (.string ⟨v.toArray⟩) w.drew := (HRd.out.drewN 1).str Try.underlying33 Try.underlying5 Try.underlying9 cv
    have HR1 := Lib.hid hr1
    clear b0 hr1 HR0 HX hh hsl hk hkn hbo hy
    by_cases hE : yv = v
    · have HR : Hid (r = (0, p)) := Lib.hid (by rw [HR1.out, if_pos hE])
      clear HR1
      subst hE
      go_wp2_with fail
      go_region
      all_goals
        go_wp2
        go_ret
        rw [HR.out]
        exact RLe.still HH.out (by first | exact ⟨1, rfl⟩ | exact ⟨0, rfl⟩)
    · have HR : Hid (r = (120, p)) := Lib.hid (by rw [HR1.out, if_neg hE])
      have n1 : (yv == v) = false := by simpa using hE
      have n2 : (yv != v) = true := by simpa using hE
      clear HR1
      go_wp2_with fail
      go_region
      all_goals
        go_wp2
        go_ret
        rw [HR.out]
        exact RLe.still HH.out (by first | exact ⟨1, rfl⟩ | exact ⟨0, rfl⟩)
end
end Go.Proofs.Ytnomddhgcdoifaa
