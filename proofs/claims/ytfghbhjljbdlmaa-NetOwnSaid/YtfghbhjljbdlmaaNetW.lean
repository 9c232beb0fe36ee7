/- The program's Net: Twice; and what a Net that is not there answers. -/
import Derived.Test.YtfghbhjljbdlmaaNetV
namespace Go.Proofs.Ytfghbhjljbdlmaa
open Go.RowKit

attribute [local go_sem ↓] bPks_eq
attribute [local go_sem] run_bPks

set_option maxRecDepth 100000 in
set_option maxHeartbeats 4000000 in
theorem nTwice_go (g k : Nat) (s : Nt) (F : Nat → Prop) (w : World) (hk : k < s.row.length) (hlen : s.row.length < 256) (h : PN w F g s) :
    Calls Try.prog 27 #[.pointer (some ⟨g, 0, none⟩), .int .i64 (k : Int)] w (NActed w F g (.bool true) { s with row := s.row ++ [s.at_ k] }) := by
  have ht : s.there (k : Int) = true := by unfold Nt.there; simp; omega
  have HT := h.there (k : Int)
  rw [ht] at HT
  obtain ⟨Ar, cr, q1, _⟩ := h.c1
  have HFu := nFull_any g s.row.length cr Ar w q1
  rw [show decide (256 ≤ s.row.length) = false by simp; omega] at HFu
  have hok : { s with row := s.row ++ [s.at_ k] : Nt }.Ok := by
    have := h.ok.twice (k : Int)
    unfold Nt.twice at this
    rw [if_pos ⟨ht, hlen⟩] at this
    exact this
  obtain ⟨cs, v, es, h1, h2, h3, h4, h5, h6, h7⟩ := h
  have hel : es.length = s.row.length := by rw [← h4]; simp
  have hke : k < es.length := by omega
  obtain ⟨R, c, hv, hnc, hcm, q0, q2, q3⟩ := h3.cell k hke
  have hat : s.at_ (k : Int) = es[k].1 := by
    unfold Nt.at_
    rw [← h4]
    simp [List.getD, hke]
  have hE := h3.each _ (List.getElem_mem hke)
  have hEF := h3.bods _ (List.getElem_mem hke)
  obtain ⟨⟨⟨f, d, l⟩, bv⟩, hek⟩ : ∃ x, es[k] = x := ⟨_, rfl⟩
  rw [hek] at hE hEF q0 q2 q3 hat
  have hE : w.ownsRow 0 5 1 bv l.length (u8s l) := hE
  have hEF : ∀ j, bv.ownBlock = some j → F j := hEF
  have q0 : w.cell? ⟨R, k * 3, none⟩ = some (.int .i64 f) := q0
  have q2 : w.cell? ⟨R, k * 3 + 1, none⟩ = some (.int .i64 d) := q2
  have q3 : w.cell? ⟨R, k * 3 + 2, none⟩ = some bv := q3
  have hat : s.at_ (k : Int) = ⟨f, d, l⟩ := hat
  rw [hat] at hok ⊢
  obtain ⟨Av, cv, rfl, _⟩ := own_shape hE
  have c1 : w.cell? ⟨g, 1, none⟩ = some v := by rw [h1.cell 1]; exact h2.c1
  obtain ⟨iw, hiw, hzw, hsw, hbw⟩ := info_parts Try.infoPacket
  have hbA : Below w.heap.size w ((w.drewN 1).alloc (.cells #[.int .i64 f, .int .i64 d, .slice Av l.length cv] 34)) := ((Below.refl _ _).drew).alloc (Nat.le_refl _) _
  have c1a : (w.alloc (.cells #[.int .i64 f, .int .i64 d, .slice Av l.length cv] 34)).cell? ⟨g, 1, none⟩ = some v := (((Below.refl _ w).alloc (Nat.le_refl _) _).cell (p := ⟨g, 1, none⟩) h1.lt).trans c1
  have H3A := Lib.hid (h3.kp (G := fun _ => False) (Kp.of_below hbA) (fun _ _ h => h))
  have H1A := Lib.hid (h1.below hbA h1.lt)
  have HoA := Lib.hid (own_below hE hbA (fun k hk => (hE.lt k hk).2))
  have HKA : Hid (Kp F w _) := Lib.hid (Kp.of_below hbA)
  have H2 := Lib.hid h2
  have H4 := Lib.hid h4
  have H6 := Lib.hid h6
  have H7 := Lib.hid h7
  have HEF := Lib.hid hEF
  have Hok := Lib.hid hok
  have HC1 : Hid (∀ u ∈ [Value.int .i64 f, .int .i64 d, .slice Av l.length cv], u.oneCell' = true) := by
    intro u hu
    simp only [List.mem_cons, List.not_mem_nil, or_false] at hu
    rcases hu with rfl | rfl | rfl <;> rfl
  have Hiw := Lib.hid hiw
  have Hzw := Lib.hid hzw
  have Hsw := Lib.hid hsw
  have Hbw := Lib.hid hbw
  have hlr : es.length < 256 := by omega
  have hkn : (k : Int) < (es.length : Int) := by omega
  obtain ⟨n, hn⟩ : ∃ n, n = es.length := ⟨_, rfl⟩
  have H3o := H3A.out.own
  rw [← hn] at H3o hv hke hkn hlr
  have H3o := Lib.hid H3o
  have HT := Lib.hid HT
  have HFu := Lib.hid HFu
  have Hn := Lib.hid hn
  have Hv := Lib.hid hv
  have c1' := c1
  rw [hv] at c1 c1a
  clear h1 h2 h3 h4 h5 h6 h7 hbA hiw hzw hsw hbw hE hEF hok ht hat hek hel hn hv q1 hk hlen hnc c1'
  go_enter Try.func27, Try.ntmps27
  go_wp2_with fail
  refine HT.out.mono ?_
  rintro e w' ⟨rfl, rfl⟩
  go_wp2_with fail
  refine HFu.out.mono ?_
  rintro e w' ⟨rfl, rfl⟩
  go_wp2_with fail
  go_region_law ((refine step_append_app _ rfl _ _ 39 (by rfl) 0 34 iw _ 3 40 Try.underlying39 Hiw.out Hzw.out Hsw.out Hbw.out rfl v n _ (by rw [Hv.out]; rfl) H3o.out (some ⟨w.heap.size, 0, none⟩) 1 1 [.int .i64 f, .int .i64 d, .slice Av l.length cv] (by rfl) (by rfl) (by intro e; cases e) (new_cells _ _ _ rfl) HC1.out (by unfold maxLen; omega) (by omega) (by simp) ?_); intro v' w3 happ; (obtain ⟨Av', cv', rfl, _⟩ := own_shape happ.own); (have hk3 : Kp (fun k => v.ownBlock = some k) _ w3 := Kp.of_row happ.grow (fun g e => e)); (have kb := H1A.out.kp hk3 (fun e => H3A.out.off H1A.out g (.inl e) rfl)); (have k2 := (show w3.cell? ⟨g, 1, none⟩ = some v by rw [kb.cell 1]; exact H2.out.c1)); (have kf := kb.frozen 1))
  all_goals
    rw [Hn.out] at happ
    have HF := PN.push (p := ⟨f, d, l⟩) HKA.out H1A.out H2.out H3A.out H4.out Hok.out H6.out H7.out happ (own_mono HoA.out (Nat.zero_le _)) (fun k e => .inl (HEF.out k e))
    rw [← Hn.out] at HF
    have HF := Lib.hid HF
    clear happ hk3 kb k2 kf c1a c1
    go_wp2
    go_ret
    exact ⟨rfl, HF.out⟩
set_option maxRecDepth 100000 in
set_option maxHeartbeats 1000000 in
theorem nTwice_bad (g : Nat) (a : Int) (s : Nt) (F : Nat → Prop) (w : World) (hb : ¬ (s.there a = true ∧ s.row.length < 256)) (h : PN w F g s) :
    Calls Try.prog 27 #[.pointer (some ⟨g, 0, none⟩), .int .i64 a] w fun e w' => e = .returned (.bool false) ∧ w = w' := by
  have HT := h.there a
  obtain ⟨Ar, cr, q1, _⟩ := h.c1
  have HFu := nFull_any g s.row.length cr Ar w q1
  cases ht : s.there a with
  | false =>
    rw [ht] at HT
    have HT := Lib.hid HT
    clear h hb HFu q1
    go_enter Try.func27, Try.ntmps27
    go_wp2_with fail
    refine HT.out.mono ?_
    rintro e w' ⟨rfl, rfl⟩
    go_wp2
    go_ret
    exact ⟨rfl, rfl⟩
  | true =>
    have hf : 256 ≤ s.row.length := Nat.le_of_not_lt fun hl => hb ⟨ht, hl⟩
    rw [ht] at HT
    rw [show decide (256 ≤ s.row.length) = true by simpa using hf] at HFu
    have HT := Lib.hid HT
    have HFu := Lib.hid HFu
    clear h hb q1 hf
    go_enter Try.func27, Try.ntmps27
    go_wp2_with fail
    refine HT.out.mono ?_
    rintro e w' ⟨rfl, rfl⟩
    go_wp2_with fail
    refine HFu.out.mono ?_
    rintro e w' ⟨rfl, rfl⟩
    go_wp2
    go_ret
    exact ⟨rfl, rfl⟩
theorem nTwice_any (g : Nat) (a : Int) (s : Nt) (F : Nat → Prop) (w : World) (h : PN w F g s) : Calls Try.prog 27 #[.pointer (some ⟨g, 0, none⟩), .int .i64 a] w (NActed w F g (.bool (s.twice a).1) (s.twice a).2) := by
  by_cases hb : s.there a = true ∧ s.row.length < 256
  · obtain ⟨h0, h1⟩ := Nt.there_lt hb.1
    obtain ⟨k, rfl⟩ := Int.eq_ofNat_of_zero_le h0
    rw [Int.toNat_natCast] at h1
    have e : s.twice (k : Int) = (true, { s with row := s.row ++ [s.at_ k] }) := by unfold Nt.twice; rw [if_pos hb]
    rw [e]
    exact nTwice_go g k s F w h1 hb.2 h
  · have e : s.twice a = (false, s) := by unfold Nt.twice; rw [if_neg hb]
    rw [e]
    refine (nTwice_bad g a s F w hb h).mono ?_
    rintro e w' ⟨rfl, rfl⟩
    exact ⟨rfl, F, h, Mv.refl _ _⟩
section
variable (a : Int) (w : World)
set_option maxRecDepth 100000 in
set_option maxHeartbeats 400000 in
theorem nDrop_nil : Calls Try.prog 26 #[.pointer none, .int .i64 a] w fun e w' => e = .returned (.bool false) ∧ w = w' := by
  have HT := Lib.hid (nThere_nil a w)
  go_enter Try.func26, Try.ntmps26
  go_wp2_with fail
  refine HT.out.mono ?_
  rintro e w' ⟨rfl, rfl⟩
  go_wp2
  go_ret
  exact ⟨rfl, rfl⟩
set_option maxRecDepth 100000 in
set_option maxHeartbeats 400000 in
theorem nTwice_nil : Calls Try.prog 27 #[.pointer none, .int .i64 a] w fun e w' => e = .returned (.bool false) ∧ w = w' := by
  have HT := Lib.hid (nThere_nil a w)
  go_enter Try.func27, Try.ntmps27
  go_wp2_with fail
  refine HT.out.mono ?_
  rintro e w' ⟨rfl, rfl⟩
  go_wp2
  go_ret
  exact ⟨rfl, rfl⟩
set_option maxRecDepth 100000 in
set_option maxHeartbeats 400000 in
theorem nBack_nil : Calls Try.prog 28 #[.pointer none, .int .i64 a] w fun e w' => e = .returned (.bool false) ∧ w = w' := by
  have HT := Lib.hid (nThere_nil a w)
  go_enter Try.func28, Try.ntmps28
  go_wp2_with fail
  refine HT.out.mono ?_
  rintro e w' ⟨rfl, rfl⟩
  go_wp2
  go_ret
  exact ⟨rfl, rfl⟩
set_option maxRecDepth 100000 in
set_option maxHeartbeats 1000000 in
theorem nTake_nil : Calls Try.prog 24 #[.pointer none, .int .i64 a] w fun e w' => e = .returned (.tuple #[pkV ⟨0, 0, []⟩ (.slice none 0 0), .bool false]) ∧ Below w.heap.size w w' := by
  obtain ⟨W1, hW1⟩ : ∃ W1, W1 = w.alloc (.cells #[.int .i64 0, .int .i64 0, .slice none 0 0] 34) := ⟨_, rfl⟩
  have hb0 : Below w.heap.size w W1 := by rw [hW1]; exact (Below.refl _ _).alloc (Nat.le_refl _) _
  have hs1 : W1.heap.size = w.heap.size + 1 := by rw [hW1]; simp
  have HL := nLook_nil a W1
  dsimp only [pkV] at HL
  have HL := Lib.hid HL
  have HW1 := Lib.hid hW1
  have Hb0 := Lib.hid hb0
  have Hs1 := Lib.hid hs1
  clear hW1 hb0 hs1
  dsimp only [pkV]
  go_enter Try.func24, Try.ntmps24
  go_wp2_with fail
  rw [← HW1.out]
  refine HL.out.mono ?_
  rintro e W2 ⟨rfl, hb2⟩
  obtain ⟨W3, hW3⟩ : ∃ W3, W3 = W2.alloc (.cells #[.int .i64 0, .int .i64 0, .slice none 0 0] 34) := ⟨_, rfl⟩
  have hb3 : Below W2.heap.size W2 W3 := by rw [hW3]; exact (Below.refl _ _).alloc (Nat.le_refl _) _
  have hz1 := Hs1.out
  have hz2 := hb2.size
  have kz : Bk W3 w.heap.size 34 #[.int .i64 0, .int .i64 0, .slice none 0 0] := ((by rw [HW1.out]; exact Bk.new w 34 _ : Bk W1 w.heap.size 34 _).below hb2 (by omega)).below hb3 (by omega)
  have hb13 : Below W1.heap.size W1 W3 := below_then hb2 hb3
  have y0 : W3.cell? ⟨w.heap.size, 0, none⟩ = some (.int .i64 0) := kz.cell 0
  have y1 : W3.cell? ⟨w.heap.size, 1, none⟩ = some (.int .i64 0) := kz.cell 1
  have y2 : W3.cell? ⟨w.heap.size, 2, none⟩ = some (.slice none 0 0) := kz.cell 2
  have z0 := kz.frozen 0
  have z1 := kz.frozen 1
  have z2 := kz.frozen 2
  have hk6 : Hid (Kp (fun j => j = w.heap.size) W3 (((W3.setCell ⟨w.heap.size, 0, none⟩ (.int .i64 0)).setCell ⟨w.heap.size, 1, none⟩ (.int .i64 0)).setCell ⟨w.heap.size, 2, none⟩ (.slice none 0 0))) :=
    Lib.hid (((Kp.set_ (F := fun j => j = w.heap.size) (p := ⟨w.heap.size, 0, none⟩) rfl _).trans (Kp.set_ (F := fun j => j = w.heap.size) (p := ⟨w.heap.size, 1, none⟩) rfl _)).trans (Kp.set_ (F := fun j => j = w.heap.size) (p := ⟨w.heap.size, 2, none⟩) rfl _))
  have hz6 : Hid (Bk (((W3.setCell ⟨w.heap.size, 0, none⟩ (.int .i64 0)).setCell ⟨w.heap.size, 1, none⟩ (.int .i64 0)).setCell ⟨w.heap.size, 2, none⟩ (.slice none 0 0)) w.heap.size 34 #[.int .i64 0, .int .i64 0, .slice none 0 0]) := Lib.hid (((kz.set_ 0 _).set_ 1 _).set_ 2 _)
  have Hb13 := Lib.hid hb13
  have hne : W2.heap.size ≠ w.heap.size := by omega
  clear kz hb13 hb3 hb2 hz1 hz2
  subst hW3
  go_wp2
  generalize (((W2.alloc (.cells #[.int .i64 0, .int .i64 0, .slice none 0 0] 34)).setCell ⟨w.heap.size, 0, none⟩ (.int .i64 0)).setCell ⟨w.heap.size, 1, none⟩ (.int .i64 0)).setCell ⟨w.heap.size, 2, none⟩ (.slice none 0 0) = w6 at *
  have j0 : w6.cell? ⟨w.heap.size, 0, none⟩ = some (.int .i64 0) := hz6.out.cell 0
  have j1 : w6.cell? ⟨w.heap.size, 1, none⟩ = some (.int .i64 0) := hz6.out.cell 1
  have j2 : w6.cell? ⟨w.heap.size, 2, none⟩ = some (.slice none 0 0) := hz6.out.cell 2
  refine bodyPost_ret (by simp [results, Try.results24, go_sem, j0, j1, j2]; try rfl) rfl ?_
  have q := Hs1.out
  have q2 := Hb13.out.size
  exact ⟨rfl, (Hb0.out.trans (Hb13.out.mono (by omega))).trans (hk6.out.below (fun k e => by omega) (by omega))⟩
end
end Go.Proofs.Ytfghbhjljbdlmaa
