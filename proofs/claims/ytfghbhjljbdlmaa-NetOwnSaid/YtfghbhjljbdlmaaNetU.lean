/- The program's Net: cut. -/
import Derived.Test.YtfghbhjljbdlmaaNetT
import Derived.Test.YtfghbhjljbdlmaaCut
namespace Go.Proofs.Ytfghbhjljbdlmaa
open Go.RowKit

theorem own_take {w : World} {base e size n cap g : Nat} {xs : List Value} (h : w.ownsRow base e size (.slice (some ⟨g, 0, none⟩) n cap) n xs) (k : Nat) (hk : k ≤ n) : w.ownsRow base e size (.slice (some ⟨g, 0, none⟩) k cap) k (xs.take (k * size)) := by
  have hx := h.1
  have hle : k * size ≤ n * size := Nat.mul_le_mul_right _ hk
  refine ⟨by rw [List.length_take]; omega, ?_⟩
  rcases h.2 with ⟨h', _⟩ | ⟨g', cap', cur, hv, hb, hh, hnc, hcm, hcs, ht⟩
  · cases h'
  · injection hv with h1 _ h3
    injection h1 with h1
    injection h1 with h1
    subst h1 h3
    refine .inr ⟨g, cap, cur, rfl, hb, hh, by omega, hcm, hcs, ?_⟩
    rw [← ht, List.take_take, Nat.min_eq_left hle]
theorem pkC_take (es : List (Pk × Value)) (k : Nat) : (pkC es).take (k * 3) = pkC (es.take k) := flat_take (s := 3) es (fun _ _ => rfl) k
theorem pkC_drop (es : List (Pk × Value)) (k : Nat) : (pkC es).drop (k * 3) = pkC (es.drop k) := flat_drop (s := 3) es (fun _ _ => rfl) k
theorem pkC_one {es : List (Pk × Value)} : ∀ u ∈ pkC es, (∀ e ∈ es, e.2.oneCell' = true) → u.oneCell' = true := by
  intro u hu h
  unfold pkC at hu
  obtain ⟨e, he, hu⟩ := List.mem_flatMap.1 hu
  simp only [pkE, List.mem_cons, List.not_mem_nil, or_false] at hu
  rcases hu with rfl | rfl | rfl
  · rfl
  · rfl
  · exact h e he
/-- The row without the packet at a place. -/
theorem PkRow.cutRow {w w3 w4 : World} {F : Nat → Prop} {R n c k : Nat} {es : List (Pk × Value)} (h : PkRow w F (.slice (some ⟨R, 0, none⟩) n c) es) (hn : n = es.length) (hk : k < n) (hnc : n ≤ c) (ha : AppIn w w3 0 34 3 R k (n - (k + 1)) c (pkC (es.take k)) (pkC (es.drop (k + 1)))) (r : Nat) (hr : k + (n - (k + 1)) = r) (vs : List Value) (hvs : vs.length = 3) (hw4 : w4 = w3.setCells R (r * 3) vs) :
    PkRow w4 F (.slice (some ⟨R, 0, none⟩) r c) (es.eraseIdx k) ∧ Kp (fun j => j = R) w w4 := by
  subst hw4
  have hk1 : Kp (fun j => j = R) w w3 := Kp.of_grown ha.grow rfl
  have hk2 : Kp (fun j => j = R) w (w3.setCells R (r * 3) vs) := hk1.trans (Kp.sets (F := fun j => j = R) rfl _ _ _)
  have hl : (es.eraseIdx k).length = r := by rw [List.length_eraseIdx_of_lt (by omega)]; omega
  have hown := ha.own
  rw [← pkC_app, ← List.eraseIdx_eq_take_drop_succ, hr] at hown
  have hR : F R := h.foot R rfl
  refine ⟨⟨?_, fun e he => ?_, fun j e => by injection e with e; subst e; exact hR, fun e he => h.bods e ((List.eraseIdx_sublist _ _).subset he)⟩, hk2⟩
  · rw [hl]
    exact own_beyond hown _ _ (Nat.le_refl _) (by rw [hvs]; have : n * 3 ≤ c * 3 := Nat.mul_le_mul_right _ hnc; omega)
  · have he' := (List.eraseIdx_sublist _ _).subset he
    have := h.each e he'
    refine own_kp this hk2 (fun j e1 e2 => ?_)
    subst e2
    rcases own_types_ne this h.own (by decide) with h' | h'
    · rw [h'] at e1; cases e1
    · exact h' e1
/-- A packet that was cut out of the Net: its body stays in F. -/
def CutR (s : Nt) (k : Int) (w : World) (F : Nat → Prop) (g : Nat) (e : Ending) (w' : World) : Prop :=
  ∃ b, e = .returned (pkV (s.at_ k) b) ∧ w'.ownsRow 0 5 1 b (s.at_ k).body.length (u8s (s.at_ k).body) ∧ (∀ j, b.ownBlock = some j → F j) ∧ PN w' F g (s.cut k) ∧ Kp F w w'

set_option maxRecDepth 100000 in
set_option maxHeartbeats 4000000 in
theorem nCut_any (g k : Nat) (s : Nt) (F : Nat → Prop) (w : World) (hk : k < s.row.length) (h : PN w F g s) :
    Calls Try.prog 74 #[.pointer (some ⟨g, 0, none⟩), .int .i64 (k : Int)] w (CutR s k w F g) := by
  obtain ⟨cs, v, es, h1, h2, h3, h4, h5, h6, h7⟩ := h
  have hel : es.length = s.row.length := by rw [← h4]; simp
  have hke : k < es.length := by omega
  obtain ⟨R, c, rfl, hnc, hcm, q0, q1, q2⟩ := h3.cell k hke
  have hlen := h5.len
  have hc1 : w.cell? ⟨g, 1, none⟩ = some (.slice (some ⟨R, 0, none⟩) es.length c) := by rw [h1.cell 1]; exact h2.c1
  have hE := h3.each _ (List.getElem_mem hke)
  have hEF := h3.bods _ (List.getElem_mem hke)
  have hat : s.at_ (k : Int) = es[k].1 := by
    unfold Nt.at_
    rw [← h4]
    simp [List.getD, hke]
  obtain ⟨⟨⟨f, d, l⟩, bv⟩, hek⟩ : ∃ x, es[k] = x := ⟨_, rfl⟩
  rw [hek] at hE hEF q0 q1 q2 hat
  have hE : w.ownsRow 0 5 1 bv l.length (u8s l) := hE
  have hEF : ∀ j, bv.ownBlock = some j → F j := hEF
  have q0 : w.cell? ⟨R, k * 3, none⟩ = some (.int .i64 f) := q0
  have q1 : w.cell? ⟨R, k * 3 + 1, none⟩ = some (.int .i64 d) := q1
  have hat : s.at_ (k : Int) = ⟨f, d, l⟩ := hat
  have HB : Hid (∀ w5, PkRow w5 F (.slice (some ⟨R, 0, none⟩) (k + (es.length - (k + 1))) c) (es.eraseIdx k) → Bk w5 g 122 cs → (∀ j, F j → j < w5.heap.size) → PN (w5.setCell ⟨g, 1, none⟩ (.slice (some ⟨R, 0, none⟩) (k + (es.length - (k + 1))) c)) F g (s.cut k)) := by
    refine Lib.hid fun w5 hr hb hlt => ?_
    have hsz := h2.size
    refine PN.setC (Kp.set_ (F := fun j => j = g) (p := ⟨g, 1, none⟩) rfl _) (hb.set_ 1 _) ⟨by simp [hsz], ?_, ?_, fun i j hi hj => ?_⟩ hr (hr.off hb) ?_ (h5.cut _) h6 hlt
    · rw [setIf_get _ _ _ _ (by omega), if_neg (by omega)]; exact h2.c0
    · rw [setIf_get _ _ _ _ (by omega), if_pos rfl]
    · rw [setIf_get _ _ _ _ (by omega), if_neg (by omega)]; exact h2.bits i j hi hj
    · unfold Nt.cut
      rw [Int.toNat_natCast, ← h4]
      simp [List.eraseIdx_eq_take_drop_succ]
  obtain ⟨W1, hW1⟩ : ∃ W1, W1 = w.alloc (.cells #[.int .i64 0, .int .i64 0, .slice none 0 0] 34) := ⟨_, rfl⟩
  have hb0 : Below w.heap.size w W1 := by rw [hW1]; exact (Below.refl _ _).alloc (Nat.le_refl _) _
  have hs1 : W1.heap.size = w.heap.size + 1 := by rw [hW1]; simp
  have hgl := h1.lt
  have hRl := World.block_lt_of_cell? w _ q0
  obtain ⟨Ab, cb, hbv, hcb⟩ := own_shape hE
  subst hbv
  have d0 := (hb0.cell (p := ⟨R, k * 3, none⟩) hRl).trans q0
  have d1 := (hb0.cell (p := ⟨R, k * 3 + 1, none⟩) hRl).trans q1
  have d2 := (hb0.cell (p := ⟨R, k * 3 + 2, none⟩) hRl).trans q2
  have dc := (hb0.cell (p := ⟨g, 1, none⟩) hgl).trans hc1
  have hone : ∀ e ∈ es, e.2.oneCell' = true := fun e he => by
    obtain ⟨A, c, e2, _⟩ := own_shape (h3.each e he)
    rw [e2]; rfl
  obtain ⟨n, hn⟩ : ∃ n, n = es.length := ⟨_, rfl⟩
  rw [← hn] at hnc hc1 h2 h3 HB dc hke hel
  have h3o := h3.own
  rw [← hn] at h3o
  have H3o := Lib.hid h3o
  clear h3o
  have Hn := Lib.hid hn
  have hn256 : n ≤ 256 := by omega
  clear hn hel hk hlen
  obtain ⟨W2, hW2⟩ : ∃ W2, W2 = W1.alloc (.cells #[.int .i64 f, .int .i64 d,   .slice Ab l.length cb] 34) := ⟨_, rfl⟩
  have hb1 : Below W1.heap.size W1 W2 := by rw [hW2]; exact (Below.refl _ _).alloc (Nat.le_refl _) _
  have hs2 : W2.heap.size = W1.heap.size + 1 := by rw [hW2]; simp
  have ec := (hb1.cell (p := ⟨g, 1, none⟩) (by have h9 := hb0.size; have h8 := hgl; exact Nat.lt_of_lt_of_le h8 h9)).trans dc
  subst hW1
  have HW2 := Lib.hid hW2
  have H3 := Lib.hid h3
  have Hone := Lib.hid hone
  have hE0 := Lib.hid hE
  have HEF := Lib.hid hEF
  have Hat := Lib.hid hat
  have Hb0 := Lib.hid hb0
  have Hb1 := Lib.hid hb1
  have H1 := Lib.hid h1
  have H2 := Lib.hid h2
  have H6 := Lib.hid h6
  have H7 := Lib.hid h7
  have hkn : (k : Int) < (n : Int) := by omega
  clear hW2 q0 q1 q2 hc1 h1 h2 h3 h4 h5 h6 h7 hone hE hEF hat hb0 hb1
  go_enter Try.func74, Try.ntmps74
  go_wp2_with fail
  rw [← HW2.out]
  obtain ⟨iw, hiw, hzw, hsw, hbw⟩ := info_parts Try.infoPacket
  have hb02 : Below w.heap.size w (W2.drewN 1) := (below_then Hb0.out Hb1.out).drew
  have HT := Lib.hid (own_take (own_below H3o.out hb02 (fun j hj => (H3o.out.lt j hj).2)) k (by omega))
  have HN : Hid (∀ j u, (pkC (es.drop (k + 1)))[j]? = some u → (W2.drewN 1).cell? ((⟨R, (k + 1) * 3, none⟩ : Addr).add j) = some u) := by
    refine Lib.hid fun j u hu => ?_
    have hr := own_below H3o.out hb02 (fun j hj => (H3o.out.lt j hj).2)
    rw [← pkC_drop, List.getElem?_drop] at hu
    have := hr.cells (g := R) rfl ((k + 1) * 3 + j) u hu
    rw [Addr.add_lit] at this ⊢
    rwa [Nat.zero_add] at this
  have HNl : Hid ((pkC (es.drop (k + 1))).length = (n - (k + 1)) * 3) := Lib.hid (by rw [pkC_len, List.length_drop, ← Hn.out])
  have HN1 : Hid (∀ u ∈ pkC (es.drop (k + 1)), u.oneCell' = true) := Lib.hid fun u hu => pkC_one u hu (fun e he => Hone.out e (List.mem_of_mem_drop he))
  have hwr : IntKind.i64.wrap ((k : Int) + 1) = (k : Int) + 1 := by rw [IntKind.wrap_i64]; omega
  have hle : (k : Int) + 1 ≤ (n : Int) := by omega
  have hto : ((k : Int) + 1).toNat = k + 1 := by omega
  have h00 : (0 : Int) ≤ (k : Int) + 1 := by omega
  have hkc : k ≤ c := by omega
  have hk1n : k + 1 ≤ n := by omega
  have hk1c : k + 1 ≤ c := by omega
  have Hiw := Lib.hid hiw
  have Hsw := Lib.hid hsw
  have Hzw := Lib.hid hzw
  have Hb02 := Lib.hid hb02
  clear hiw hzw hsw hbw hb02
  obtain ⟨ad, had⟩ : ∃ ad, (if c = k + 1 then some (⟨R, 0, none⟩ : Addr) else some ⟨R, (k + 1) * 3, none⟩) = some ad := by split <;> exact ⟨_, rfl⟩
  have HN2 : Hid (∀ j u, (pkC (es.drop (k + 1)))[j]? = some u → (W2.drewN 1).cell? (ad.add j) = some u) := by
    refine Lib.hid fun j u hu => ?_
    by_cases hck : c = k + 1
    · have hd0 : es.drop (k + 1) = [] := List.drop_eq_nil_of_le (by rw [← Hn.out]; omega)
      rw [hd0] at hu
      simp [pkC] at hu
    · rw [if_neg hck] at had
      injection had with had
      rw [← had]
      exact HN.out j u hu
  · go_region_law ((refine step_append_in _ rfl _ _ 39 (by rfl) 0 34 iw 3 Try.underlying39 Hiw.out Hsw.out R k c _ (by rfl) HT.out ad (n - (k + 1)) (c - (k + 1)) _ (by rfl) HNl.out HN2.out HN1.out (by omega) ?_); intro w3 ha)
    all_goals
      obtain ⟨r, hr⟩ : ∃ r, k + (n - (k + 1)) = r := ⟨_, rfl⟩
      have hrn : r + 1 = n := by omega
      have HB := HB.out
      rw [hr] at HB
      have HB := Lib.hid HB
      have Hr := Lib.hid hr
      have ha0 := ha
      rw [pkC_take] at ha0
      have H2W : Hid (Below w.heap.size w W2) := Lib.hid (below_then Hb0.out Hb1.out)
      have hgR : g ≠ R := fun e => H3.out.off H1.out g (.inl (by rw [e]; rfl)) rfl
      have hg3 : W2.grownBy w3 (some R) := grown_trans (grown_drewN W2 1 (some R)) ha.grow
      have e1 : w3.cell? ⟨g, 1, none⟩ = some (.slice (some ⟨R, 0, none⟩) n c) := ((Bk.kp (F := fun j => j = R) (H1.out.below H2W.out H1.out.lt) (Kp.of_grown hg3 rfl) hgR).cell 1).trans (by rw [← (H1.out.below H2W.out H1.out.lt).cell 1]; exact ec)
      have kz2 : Bk W2 w.heap.size 34 #[.int .i64 0, .int .i64 0, .slice none 0 0] := (Bk.new w 34 _).below Hb1.out (by simp)
      have kp2 : Bk W2 (w.heap.size + 1) 34 #[.int .i64 f, .int .i64 d, .slice Ab l.length cb] := by
        rw [HW2.out]
        have := Bk.new (w.alloc (.cells #[.int .i64 0, .int .i64 0, .slice none 0 0] 34)) 34 #[.int .i64 f, .int .i64 d, .slice Ab l.length cb]
        rwa [hs1] at this
      have hth : w3.there R (r * 3) ((n - r) * 3) := own_there_cap ha.own _ _ (by omega)
      have Hg3 := Lib.hid hg3
      have Hkz := Lib.hid kz2
      have Hkp := Lib.hid kp2
      have Ha0 := Lib.hid ha0
      have Hth := Lib.hid hth
      have hrn1 : r ≤ n := by omega
      have hrn2 : (r : Int) ≤ (n : Int) := by omega
      have hcr : ¬ c = r := by omega
      clear ha ha0 hg3 kz2 kp2 hth hwr hle hto h00 hkc hk1n hk1c had HT HN HN2 HNl HN1 ec
      simp only [hr]
      clear hr
      have hz1 : ∀ u ∈ (Value.agg #[.int .i64 0, .int .i64 0, .slice none 0 0]).cells, u.oneCell' = true := by
        intro u hu
        simp [Value.cells] at hu
        rcases hu with rfl | rfl <;> rfl
      have hvs : (Builtin.zeroCells (Value.agg #[.int .i64 0, .int .i64 0, .slice none 0 0]).cells (n - r)).toList.length = 3 := by
        have e : n - r = 1 := by omega
        rw [e]; simp [Builtin.zeroCells, Value.cells]
      have Hvs := Lib.hid hvs
      have Hz1 := Lib.hid hz1
      clear hvs hz1
      obtain ⟨vs, hvv⟩ : ∃ vs, vs = (Builtin.zeroCells (Value.agg #[.int .i64 0, .int .i64 0, .slice none 0 0]).cells (n - r)).toList := ⟨_, rfl⟩
      obtain ⟨w4, hw4⟩ : ∃ w4, w4 = w3.setCells R (r * 3) vs := ⟨_, rfl⟩
      have hlv : vs.length = 3 := by rw [hvv]; exact Hvs.out
      have hrow := (H3.out.kp (G := fun _ => False) (Kp.of_below (H2W.out.drew)) (fun _ _ h => h)).cutRow Hn.out (by omega) (by omega) Ha0.out r Hr.out vs hlv hw4
      have hkR := hrow.2
      have hb4 := (H1.out.below H2W.out.drew H1.out.lt).kp hkR hgR
      have hP := HB.out w4 hrow.1 hb4 (fun j hj => by have := H7.out j hj; have := H2W.out.size; have := hkR.size; simp only [World.drew] at this; omega)
      have kz4 := (Hkz.out.below ((Below.refl _ W2).drew) Hkz.out.lt).kp hkR (fun e => by omega)
      have kp4 := (Hkp.out.below ((Below.refl _ W2).drew) Hkp.out.lt).kp hkR (fun e => by omega)
      have hEa := own_kp (own_below hE0.out H2W.out.drew (fun j hj => (hE0.out.lt j hj).2)) hkR (fun j e1 e2 => by
        rcases own_types_ne hE0.out H3.out.own (by decide) with h' | h'
        · rw [h'] at e1; cases e1
        · exact h' (by rw [e1, e2]; rfl))
      have x0 : w4.cell? ⟨w.heap.size + 1, 0, none⟩ = some (.int .i64 f) := kp4.cell 0
      have x1 : w4.cell? ⟨w.heap.size + 1, 1, none⟩ = some (.int .i64 d) := kp4.cell 1
      have x2 : w4.cell? ⟨w.heap.size + 1, 2, none⟩ = some (.slice Ab l.length cb) := kp4.cell 2
      have y0 : w4.cell? ⟨w.heap.size, 0, none⟩ = some (.int .i64 0) := kz4.cell 0
      have y1 : w4.cell? ⟨w.heap.size, 1, none⟩ = some (.int .i64 0) := kz4.cell 1
      have y2 : w4.cell? ⟨w.heap.size, 2, none⟩ = some (.slice none 0 0) := kz4.cell 2
      have z0 := kz4.frozen 0
      have z1 := kz4.frozen 1
      have z2 := kz4.frozen 2
      have u1 : w4.cell? ⟨g, 1, none⟩ = some (.slice (some ⟨R, 0, none⟩) n c) := by rw [hb4.cell 1]; exact H2.out.c1
      have uf := hb4.frozen 1
      have hne1 : ¬ g = w.heap.size := by omega
      have hne2 : ¬ g = w.heap.size + 1 := by omega
      have Hvv := Lib.hid hvv
      have Hw4 := Lib.hid hw4
      have HP := Lib.hid hP
      have HEa := Lib.hid hEa
      have HkR := Lib.hid hkR
      have Hz4 := Lib.hid kz4
      clear hvv hw4 hlv hrow hb4 hP kz4 kp4 hEa hkR
      go_wp2_with ((refine wpList_clear_in rfl _ 39 rfl 34 iw _ Try.underlying39 Hiw.out Hzw.out Hz1.out R (r * 3) (n - r) (c - r) (by omega) (by rfl) Hth.out ?_); rw [← Hvv.out, ← Hw4.out])
      have hP := HP.out
      have hk45 : Kp (fun j => j = g) w4 (w4.setCell ⟨g, 1, none⟩ (.slice (some ⟨R, 0, none⟩) r c)) := Kp.set_ (F := fun j => j = g) (p := ⟨g, 1, none⟩) rfl _
      have hE5 := own_kp HEa.out hk45 (fun j e1 e2 => own_not_bk H1.out hE0.out (by decide) j e1 e2)
      have hz5 := Hz4.out.kp hk45 (fun e => hne1 e.symm)
      generalize w4.setCell ⟨g, 1, none⟩ (.slice (some ⟨R, 0, none⟩) r c) = w5 at *
      have hk56 : Kp (fun j => j = w.heap.size) w5 (((w5.setCell ⟨w.heap.size, 0, none⟩ (.int .i64 f)).setCell ⟨w.heap.size, 1, none⟩ (.int .i64 d)).setCell ⟨w.heap.size, 2, none⟩ (.slice Ab l.length cb)) :=
        ((Kp.set_ (F := fun j => j = w.heap.size) (p := ⟨w.heap.size, 0, none⟩) rfl _).trans (Kp.set_ (F := fun j => j = w.heap.size) (p := ⟨w.heap.size, 1, none⟩) rfl _)).trans (Kp.set_ (F := fun j => j = w.heap.size) (p := ⟨w.heap.size, 2, none⟩) rfl _)
      have hz6 : Bk (((w5.setCell ⟨w.heap.size, 0, none⟩ (.int .i64 f)).setCell ⟨w.heap.size, 1, none⟩ (.int .i64 d)).setCell ⟨w.heap.size, 2, none⟩ (.slice Ab l.length cb)) w.heap.size 34 #[.int .i64 f, .int .i64 d, .slice Ab l.length cb] := ((hz5.set_ 0 _).set_ 1 _).set_ 2 _
      generalize ((w5.setCell ⟨w.heap.size, 0, none⟩ (.int .i64 f)).setCell ⟨w.heap.size, 1, none⟩ (.int .i64 d)).setCell ⟨w.heap.size, 2, none⟩ (.slice Ab l.length cb) = w6 at *
      have j0 : w6.cell? ⟨w.heap.size, 0, none⟩ = some (.int .i64 f) := hz6.cell 0
      have j1 : w6.cell? ⟨w.heap.size, 1, none⟩ = some (.int .i64 d) := hz6.cell 1
      have j2 : w6.cell? ⟨w.heap.size, 2, none⟩ = some (.slice Ab l.length cb) := hz6.cell 2
      refine bodyPost_ret (by simp [results, Try.results74, go_sem, j0, j1, j2]; try rfl) rfl ?_
      have hltE : ∀ j, (Value.slice Ab l.length cb).ownBlock = some j → j < w.heap.size := fun j e => H7.out j (HEF.out j e)
      unfold CutR
      rw [Hat.out]
      refine ⟨_, rfl, own_kp hE5 hk56 (fun j e1 e2 => by have := hltE j e1; omega), HEF.out, hP.kp hk56 (fun j e1 e2 => by have := H7.out j e1; omega), ?_⟩
      have hkA : Kp F w (W2.drew) := Kp.of_below H2W.out.drew
      have hkB : Kp F W2.drew w4 := HkR.out.mono (fun j e => by rw [e]; exact H3.out.foot R rfl)
      exact ((hkA.trans hkB).trans (hk45.mono (fun j e => by rw [e]; exact H6.out))).trans' hk56 (fun j e => .inr (by omega))
end Go.Proofs.Ytfghbhjljbdlmaa
