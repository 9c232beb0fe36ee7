/- The program's Net: Back. -/
import Derived.Test.YtfghbhjljbdlmaaNetK
namespace Go.Proofs.Ytfghbhjljbdlmaa
open Go.RowKit

attribute [local go_sem ↓] bPks_eq
attribute [local go_sem] run_bPks

set_option maxRecDepth 100000 in
set_option maxHeartbeats 4000000 in
theorem nBack_go (g : Nat) (a : Int) (s : Nt) (F : Nat → Prop) (w : World) (ht : s.there a = true) (h : PN w F g s) :
    Calls Try.prog 28 #[.pointer (some ⟨g, 0, none⟩), .int .i64 a] w (NActed w F g (.bool true) (s.back a)) := by
  have HT := h.there a
  rw [ht] at HT
  have HC := h.cutI a ht
  have hok : (s.back a).Ok := h.ok.back a
  have hbk : s.back a = { (s.cut a) with row := (s.cut a).row ++ [s.at_ a] } := by unfold Nt.back; rw [if_pos ht]; rfl
  have hltw := h.lt
  rw [hbk] at hok ⊢
  obtain ⟨⟨f, d, l⟩, hat⟩ : ∃ p, s.at_ a = p := ⟨_, rfl⟩
  unfold CutR at HC
  rw [hat] at HC hok ⊢
  generalize s.cut a = s1 at *
  have HC : Calls Try.prog 74 #[.pointer (some ⟨g, 0, none⟩), .int .i64 a] w fun e w' => ∃ b, e = .returned (.agg #[.int .i64 f, .int .i64 d, b]) ∧ w'.ownsRow 0 5 1 b l.length (u8s l) ∧ (∀ j, b.ownBlock = some j → F j) ∧ PN w' F g s1 ∧ Kp F w w' := HC
  have HT := Lib.hid HT
  have HC := Lib.hid HC
  have Hok := Lib.hid hok
  have Hlt := Lib.hid hltw
  clear h ht hbk hat hok hltw
  go_enter Try.func28, Try.ntmps28
  go_wp2_with fail
  refine HT.out.mono ?_
  rintro e w' ⟨rfl, rfl⟩
  go_wp2_with fail
  refine HC.out.mono ?_
  rintro e w1 ⟨b, rfl, hE, hEF, hp, hk⟩
  obtain ⟨cs, v, es, h1, h2, h3, h4, h5, h6, h7⟩ := hp
  obtain ⟨Ab, cb, rfl, _⟩ := own_shape hE
  obtain ⟨W2, hW2⟩ : ∃ W2, W2 = w1.alloc (.cells #[.int .i64 f, .int .i64 d, .slice Ab l.length cb] 34) := ⟨_, rfl⟩
  have hb2 : Below w1.heap.size w1 W2 := by rw [hW2]; exact (Below.refl _ _).alloc (Nat.le_refl _) _
  have kp : Bk W2 w1.heap.size 34 #[.int .i64 f, .int .i64 d, .slice Ab l.length cb] := by rw [hW2]; exact Bk.new w1 34 _
  have x0 : W2.cell? ⟨w1.heap.size, 0, none⟩ = some (.int .i64 f) := kp.cell 0
  have x1 : W2.cell? ⟨w1.heap.size, 1, none⟩ = some (.int .i64 d) := kp.cell 1
  have x2 : W2.cell? ⟨w1.heap.size, 2, none⟩ = some (.slice Ab l.length cb) := kp.cell 2
  have h1' := h1.below hb2 h1.lt
  have c1 : W2.cell? ⟨g, 1, none⟩ = some v := by rw [h1'.cell 1]; exact h2.c1
  obtain ⟨iw, hiw, hzw, hsw, hbw⟩ := info_parts Try.infoPacket
  have hbA : Below W2.heap.size W2 ((W2.drewN 1).alloc (.cells #[.int .i64 f, .int .i64 d, .slice Ab l.length cb] 34)) := ((Below.refl _ _).drew).alloc (Nat.le_refl _) _
  have hbB : Below w1.heap.size w1 ((W2.drewN 1).alloc (.cells #[.int .i64 f, .int .i64 d, .slice Ab l.length cb] 34)) := below_then hb2 hbA
  have c1a : (W2.alloc (.cells #[.int .i64 f, .int .i64 d, .slice Ab l.length cb] 34)).cell? ⟨g, 1, none⟩ = some v := (((Below.refl _ W2).alloc (Nat.le_refl _) _).cell (p := ⟨g, 1, none⟩) h1'.lt).trans c1
  have hlen : es.length < 256 := by
    have := Hok.out.len
    have e : es.length = s1.row.length := by rw [← h4]; simp
    simp at this
    omega
  have H3A := Lib.hid (h3.kp (G := fun _ => False) (Kp.of_below hbB) (fun _ _ h => h))
  have H1A := Lib.hid (h1.below hbB h1.lt)
  have HoA := Lib.hid (own_below hE hbB (fun k hk => (hE.lt k hk).2))
  have HKA : Hid (Kp F w _) := Lib.hid (hk.trans (Kp.of_below hbB))
  have H2 := Lib.hid h2
  have H4 := Lib.hid h4
  have H6 := Lib.hid h6
  have HEF := Lib.hid hEF
  have HC1 : Hid (∀ u ∈ [Value.int .i64 f, .int .i64 d, .slice Ab l.length cb], u.oneCell' = true) := by
    intro u hu
    simp only [List.mem_cons, List.not_mem_nil, or_false] at hu
    rcases hu with rfl | rfl | rfl <;> rfl
  have Hiw := Lib.hid hiw
  have Hzw := Lib.hid hzw
  have Hsw := Lib.hid hsw
  have Hbw := Lib.hid hbw
  obtain ⟨n, hn⟩ : ∃ n, n = es.length := ⟨_, rfl⟩
  have H3o := H3A.out.own
  obtain ⟨Av, cv, hv, _⟩ := h3.shape
  rw [← hn] at H3o hlen hv
  have H3o := Lib.hid H3o
  have Hn := Lib.hid hn
  have Hv := Lib.hid hv
  have HW2 := Lib.hid hW2
  rw [hv] at c1 c1a
  clear h1 h1' h2 h3 h4 h5 h6 h7 hbA hbB hb2 hiw hzw hsw hbw hE hEF kp hn hv hk hW2 HT HC
  go_wp2_with fail
  rw [← HW2.out]
  go_region_law ((refine step_append_app _ rfl _ _ 39 (by rfl) 0 34 iw _ 3 40 Try.underlying39 Hiw.out Hzw.out Hsw.out Hbw.out rfl v n _ (by rw [Hv.out]; rfl) H3o.out (some ⟨W2.heap.size, 0, none⟩) 1 1 [.int .i64 f, .int .i64 d, .slice Ab l.length cb] (by rfl) (by rfl) (by intro e; cases e) (new_cells _ _ _ rfl) HC1.out (by unfold maxLen; omega) (by omega) (by simp) ?_); intro v' w3 happ; (obtain ⟨Av', cv', rfl, _⟩ := own_shape happ.own); (have hk3 : Kp (fun k => v.ownBlock = some k) _ w3 := Kp.of_row happ.grow (fun g e => e)); (have kb := H1A.out.kp hk3 (fun e => H3A.out.off H1A.out g (.inl e) rfl)); (have k2 := (show w3.cell? ⟨g, 1, none⟩ = some v by rw [kb.cell 1]; exact H2.out.c1)); (have kf := kb.frozen 1))
  all_goals
    rw [Hn.out] at happ
    have HF := PN.push (p := ⟨f, d, l⟩) HKA.out H1A.out H2.out H3A.out H4.out Hok.out H6.out Hlt.out happ (own_mono HoA.out (Nat.zero_le _)) (fun k e => .inl (HEF.out k e))
    rw [← Hn.out] at HF
    have HF := Lib.hid HF
    clear happ hk3 kb k2 kf c1a c1
    go_wp2
    go_ret
    exact ⟨rfl, HF.out⟩
set_option maxRecDepth 100000 in
set_option maxHeartbeats 1000000 in
theorem nBack_bad (g : Nat) (a : Int) (s : Nt) (F : Nat → Prop) (w : World) (hb : s.there a = false) (h : PN w F g s) :
    Calls Try.prog 28 #[.pointer (some ⟨g, 0, none⟩), .int .i64 a] w fun e w' => e = .returned (.bool false) ∧ w = w' := by
  have HT := h.there a
  rw [hb] at HT
  have HT := Lib.hid HT
  clear h hb
  go_enter Try.func28, Try.ntmps28
  go_wp2_with fail
  refine HT.out.mono ?_
  rintro e w' ⟨rfl, rfl⟩
  go_wp2
  go_ret
  exact ⟨rfl, rfl⟩
theorem back_said : BackSaid := by
  intro g a s F w h
  cases ht : s.there a with
  | true => exact nBack_go g a s F w ht h
  | false =>
    have e : s.back a = s := by unfold Nt.back; rw [if_neg (by rw [ht]; decide)]
    rw [e]
    refine (nBack_bad g a s F w ht h).mono ?_
    rintro e w' ⟨rfl, rfl⟩
    exact ⟨rfl, F, h, Mv.refl _ _⟩
theorem netKnown_any (W : World) : Calls Try.prog 17 #[] W fun e w' => e = .returned (.bool true) ∧ Below W.heap.size W w' := nknown_any back_said W
end Go.Proofs.Ytfghbhjljbdlmaa
