/- The program's Net: Send. -/
import Derived.Test.YtfghbhjljbdlmaaNetS
namespace Go.Proofs.Ytfghbhjljbdlmaa
open Go.RowKit

/-- One packet more. -/
theorem PN.push {w0 w w3 : World} {F : Nat → Prop} {g : Nat} {s : Nt} {cs : Array Value} {v v' b : Value} {es : List (Pk × Value)} {p : Pk} (hk0 : Kp F w0 w) (h1 : Bk w g 122 cs) (h2 : NetC cs s v) (h3 : PkRow w F v es) (h4 : es.map (·.1) = s.row) (h5 : { s with row := s.row ++ [p] : Nt }.Ok) (h6 : F g) (h7 : ∀ k, F k → k < w0.heap.size)
    (happ : App w w3 0 34 3 v v' es.length 1 (pkC es) (pkE (p, b))) (hb : w.ownsRow 0 5 1 b p.body.length (u8s p.body)) (hbF : ∀ k, b.ownBlock = some k → F k ∨ w0.heap.size ≤ k) :
    ∃ F', PN (w3.setCell ⟨g, 1, none⟩ v') F' g { s with row := s.row ++ [p] } ∧ Mv F F' w0 (w3.setCell ⟨g, 1, none⟩ v') := by
  have hk3 : Kp (fun k => v.ownBlock = some k) w w3 := Kp.of_row happ.grow (fun g e => e)
  have hk4 : Kp (fun k => k = g) w3 (w3.setCell ⟨g, 1, none⟩ v') := Kp.set_ (F := fun k => k = g) (p := ⟨g, 1, none⟩) rfl _
  have hb3 := h1.kp hk3 (fun e => h3.off h1 g (.inl e) rfl)
  have hbl := happ.block
  have hz := hk0.size
  have hne : ∀ (u : Value) (l : List UInt8), w.ownsRow 0 5 1 u l.length (u8s l) → ∀ k, u.ownBlock = some k → ¬ v.ownBlock = some k := fun u l hu k e e2 => by
    rcases own_types_ne hu h3.own (by decide) with h | h
    · rw [h] at e; cases e
    · exact h (e.trans e2.symm)
  have hown := happ.own
  have hFv : ∀ k, v'.ownBlock = some k → F k ∨ w0.heap.size ≤ k := fun k e => by
    rcases hbl with h | h
    · rw [h] at e; exact .inl (h3.foot k e)
    · rw [h] at e; injection e with e; exact .inr (by omega)
  have hlt3 : ∀ k, v'.ownBlock = some k → k < w3.heap.size := fun k e => (hown.lt k e).2
  have hltb : ∀ k, b.ownBlock = some k → k < w.heap.size := fun k e => (hb.lt k e).2
  have hszc := h2.size
  refine ⟨fun k => F k ∨ v'.ownBlock = some k ∨ b.ownBlock = some k, ⟨cs.setIfInBounds 1 v', v', es ++ [(p, b)], hb3.set_ 1 v', ⟨by simp [hszc], ?_, ?_, fun i j hi hj => ?_⟩, ⟨own_kp ?_ hk4 (fun k e => own_not_bk hb3 hown (by decide) k e), fun e he => own_kp ?_ hk4 (fun k e2 => ?_), fun k e => .inr (.inl e), fun e he k e2 => ?_⟩, by simp [h4], h5, .inl h6, ?_⟩, ⟨?_, fun k e => ?_⟩⟩
  · rw [setIf_get _ _ _ _ (by omega), if_neg (by omega)]; exact h2.c0
  · rw [setIf_get _ _ _ _ (by omega), if_pos rfl]
  · rw [setIf_get _ _ _ _ (by omega), if_neg (by omega)]; exact h2.bits i j hi hj
  · rw [pkC_app, List.length_append]
    exact hown
  · rcases List.mem_append.1 he with he | he
    · exact own_kp (h3.each e he) hk3 (hne _ _ (h3.each e he))
    · rw [List.mem_singleton.1 he]; exact own_kp hb hk3 (hne _ _ hb)
  · rcases List.mem_append.1 he with he | he
    · exact h3.off h1 k (.inr ⟨e, he, e2⟩)
    · rw [List.mem_singleton.1 he] at e2; exact own_not_bk h1 hb (by decide) k e2
  · rcases List.mem_append.1 he with he | he
    · exact .inl (h3.bods e he k e2)
    · rw [List.mem_singleton.1 he] at e2; exact .inr (.inr e2)
  · intro k e
    have hs3 := hk3.size
    have hs4 := hk4.size
    rcases e with e | e | e
    · have := h7 k e; omega
    · have := hlt3 k e; omega
    · have := hltb k e; omega
  · exact (hk0.trans (hk3.mono fun k e => h3.foot k e)).trans (hk4.mono fun k e => by rw [e]; exact h6)
  · rcases e with e | e | e
    · exact .inl e
    · exact hFv k e
    · exact hbF k e

/-- A row of one packet: by a law. -/
def bPks (parts : Array (Nat × Value)) : Sem Value := Instr.buildSlice 39 1 parts
theorem bPks_eq (parts : Array (Nat × Value)) : Instr.buildSlice 39 1 parts = bPks parts := rfl
theorem run_bPks (a b c : Value) (W : World) : (bPks #[(0, .agg #[a, b, c])]).run Try.prog W = .ok (.slice (some ⟨W.heap.size, 0, none⟩) 1 1) (W.alloc (.cells #[a, b, c] 34)) := by
  obtain ⟨iw, hiw, hzw, hsw, hbw⟩ := info_parts Try.infoPacket
  exact run_buildSlice_one (P := Try.prog) Try.underlying39 hiw hzw hsw (by rfl) (by omega) (by omega) (.agg #[a, b, c]) rfl W
attribute [local go_sem ↓] bPks_eq
attribute [local go_sem] run_bPks

set_option maxRecDepth 100000 in
set_option maxHeartbeats 4000000 in
theorem nSend_go (g : Nat) (p : Pk) (A : Option Addr) (n c : Nat) (s : Nt) (F : Nat → Prop) (w : World) (hrd : Rd w w.heap.size A n p.body) (hf : s.node p.frm = true) (ht : s.node p.dst = true) (hl : n ≤ 1200) (hlen : s.row.length < 256) (hap : s.parted p.frm p.dst = false) (h : PN w F g s) :
    Calls Try.prog 23 #[.pointer (some ⟨g, 0, none⟩), pkV p (.slice A n c)] w (NActed w F g (.int .i64 0) { s with row := s.row ++ [p] }) := by
  have hpl := hrd.1
  have hok : { s with row := s.row ++ [p] : Nt }.Ok := by
    have := h.ok.send p
    unfold Nt.send at this
    rw [if_neg (by rw [hf, ht]; decide), if_neg (by omega), if_neg (by omega), if_neg (by rw [hap]; decide)] at this
    exact this
  obtain ⟨i, hi, hi12, _⟩ := node_nat hf h.ok.n2
  obtain ⟨j, hj, hj12, _⟩ := node_nat ht h.ok.n2
  obtain ⟨f, d, l⟩ := p
  have hi : f = (i : Int) := hi
  have hj : d = (j : Int) := hj
  subst hi hj
  obtain ⟨W1, hW1⟩ : ∃ W1, W1 = w.alloc (.cells #[.int .i64 (i : Int), .int .i64 (j : Int), .slice A n c] 34) := ⟨_, rfl⟩
  have hb0 : Below w.heap.size w W1 := by rw [hW1]; exact (Below.refl _ _).alloc (Nat.le_refl _) _
  have hs1 : W1.heap.size = w.heap.size + 1 := by rw [hW1]; simp
  have hkb : Bk W1 w.heap.size 34 #[.int .i64 (i : Int), .int .i64 (j : Int), .slice A n c] := by rw [hW1]; exact Bk.new w 34 _
  have k0 : W1.cell? ⟨w.heap.size, 0, none⟩ = some (.int .i64 (i : Int)) := hkb.cell 0
  have k1 : W1.cell? ⟨w.heap.size, 1, none⟩ = some (.int .i64 (j : Int)) := hkb.cell 1
  have k2 : W1.cell? ⟨w.heap.size, 2, none⟩ = some (.slice A n c) := hkb.cell 2
  have Hkb := Lib.hid hkb
  have h1 := h.below hb0
  have HA := nNode_any g s.n (i : Int) W1 h1.c0
  have HB := nNode_any g s.n (j : Int) W1 h1.c0
  have ea : (decide (0 ≤ (i : Int)) && decide ((i : Int) < (s.n : Int))) = true := hf
  have eb : (decide (0 ≤ (j : Int)) && decide ((j : Int) < (s.n : Int))) = true := ht
  rw [ea] at HA
  rw [eb] at HB
  obtain ⟨Ar, cr, q1, _⟩ := h1.c1
  have HFu := nFull_any g s.row.length cr Ar W1 q1
  rw [show decide (256 ≤ s.row.length) = false by simp; omega] at HFu
  have hbit := h1.bit i j hi12 hj12
  have hap : s.parted (i : Int) (j : Int) = false := hap
  rw [hap] at hbit
  have hrd1 : Rd W1 W1.heap.size A n l := (hrd.below hb0).more hb0.size
  have HC : Hid (∀ W, Below W1.heap.size W1 W → Calls Try.prog 71 #[.slice A n c] W fun e w' => ∃ Av cv, e = .returned (.slice Av n cv) ∧ w'.ownsRow W.heap.size 5 1 (.slice Av n cv) n (u8s l) ∧ Below W.heap.size W w') := by
    refine Lib.hid fun W hb => (cloneB_any A n c W.heap.size l W (by omega) (Nat.le_refl _) (hrd1.up hb)).mono ?_
    rintro e w' ⟨v, rfl, ho, hb2⟩
    obtain ⟨Av, cv, rfl, _⟩ := own_shape ho
    exact ⟨Av, cv, rfl, ho, hb2⟩
  have HA := Lib.hid HA
  have HB := Lib.hid HB
  have HFu := Lib.hid HFu
  have HW1 := Lib.hid hW1
  have Hb0 := Lib.hid hb0
  have Hs1 := Lib.hid hs1
  have H1 := Lib.hid h1
  have Hok := Lib.hid hok
  have Hlt := Lib.hid h.lt
  have hl' : ¬ (1200 : Int) < (n : Int) := by omega
  clear h h1 hb0 hrd hrd1 hf ht hap ea eb hok q1 hW1 hs1 hkb
  simp only [pkV]
  go_enter Try.func23, Try.ntmps23
  go_wp2_with fail
  rw [← HW1.out]
  refine HA.out.mono ?_
  rintro e w' ⟨rfl, rfl⟩
  go_wp2_with fail
  refine HB.out.mono ?_
  rintro e w' ⟨rfl, rfl⟩
  go_wp2_with fail
  refine HFu.out.mono ?_
  rintro e w' ⟨rfl, rfl⟩
  go_wp2_with fail
  go_region
  go_wp2_with fail
  refine (HC.out _ (by (repeat' (first | assumption | exact Below.refl _ _ | apply Below.drew)))).mono ?_
  rintro e W3 ⟨Av, cv, rfl, ho3, hb3⟩
  have hbW : Below W1.heap.size W1 W3 := below_then ((Below.refl _ _).drew) hb3
  have hz1 := Hs1.out
  have hz3 := hbW.size
  have hk3 := Hkb.out.below hbW (by omega)
  have hk4 := hk3.set_ 2 (.slice Av n cv)
  have hk4 : Bk (W3.setCell ⟨w.heap.size, 2, none⟩ (.slice Av n cv)) w.heap.size 34 #[.int .i64 (i : Int), .int .i64 (j : Int), .slice Av n cv] := hk4
  have hkp : Kp (fun k => k = w.heap.size) W3 (W3.setCell ⟨w.heap.size, 2, none⟩ (.slice Av n cv)) := Kp.set_ (F := fun k => k = w.heap.size) (p := ⟨w.heap.size, 2, none⟩) rfl _
  have ho4 := own_kp ho3 hkp (fun k e e2 => by have := (ho3.lt k e).1; simp only [World.drew] at this; omega)
  have hP4 := (H1.out.below hbW).kp hkp (fun k e e2 => by have := Hlt.out k e; omega)
  have hK4 : Kp F w (W3.setCell ⟨w.heap.size, 2, none⟩ (.slice Av n cv)) := ((Kp.of_below Hb0.out : Kp F w W1).trans (Kp.of_below hbW)).trans' hkp (fun k e => .inr (by omega))
  have x0 : W3.cell? ⟨w.heap.size, 0, none⟩ = some (.int .i64 (i : Int)) := hk3.cell 0
  have x1 : W3.cell? ⟨w.heap.size, 1, none⟩ = some (.int .i64 (j : Int)) := hk3.cell 1
  have x2 : W3.cell? ⟨w.heap.size, 2, none⟩ = some (.slice A n c) := hk3.cell 2
  have y2 := hk3.frozen 2
  have Hk4 := Lib.hid hk4
  have Ho4 := Lib.hid ho4
  have HP4 := Lib.hid hP4
  have HK4 := Lib.hid hK4
  have Hz3 := Lib.hid hz3
  clear hk3 hk4 hkp ho4 hP4 hK4 hbW ho3 hb3 HC Hkb H1 Hb0 hz1 hz3 k0 k1 k2
  go_wp2_with fail
  generalize W3.setCell ⟨w.heap.size, 2, none⟩ (.slice Av n cv) = W4 at *
  obtain ⟨cs, v, es, h1, h2, h3, h4, h5, h6, h7⟩ := HP4.out
  have hel : es.length < 256 := by have : es.length = s.row.length := by rw [← h4]; simp
                                   omega
  obtain ⟨iw, hiw, hzw, hsw, hbw⟩ := info_parts Try.infoPacket
  have c1 : W4.cell? ⟨g, 1, none⟩ = some v := by rw [h1.cell 1]; exact h2.c1
  have j0 : W4.cell? ⟨w.heap.size, 0, none⟩ = some (.int .i64 (i : Int)) := Hk4.out.cell 0
  have j1 : W4.cell? ⟨w.heap.size, 1, none⟩ = some (.int .i64 (j : Int)) := Hk4.out.cell 1
  have j2 : W4.cell? ⟨w.heap.size, 2, none⟩ = some (.slice Av n cv) := Hk4.out.cell 2
  have hbA : Below W4.heap.size W4 ((W4.drewN 1).alloc (.cells #[.int .i64 (i : Int), .int .i64 (j : Int), .slice Av n cv] 34)) := ((Below.refl _ _).drew).alloc (Nat.le_refl _) _
  have c1a : (W4.alloc (.cells #[.int .i64 (i : Int), .int .i64 (j : Int), .slice Av n cv] 34)).cell? ⟨g, 1, none⟩ = some v := (((Below.refl _ W4).alloc (Nat.le_refl _) _).cell (p := ⟨g, 1, none⟩) h1.lt).trans c1
  have H3A := Lib.hid (h3.kp (G := fun _ => False) (Kp.of_below hbA) (fun _ _ h => h))
  have H1A := Lib.hid (h1.below hbA h1.lt)
  have HoA := Lib.hid (own_below Ho4.out hbA (fun k hk => (Ho4.out.lt k hk).2))
  have HKA := Lib.hid (HK4.out.trans (Kp.of_below hbA))
  have H2 := Lib.hid h2
  have H4 := Lib.hid h4
  have H6 := Lib.hid h6
  have HC1 : Hid (∀ u ∈ [Value.int .i64 (i : Int), .int .i64 (j : Int), .slice Av n cv], u.oneCell' = true) := by
    intro u hu
    simp only [List.mem_cons, List.not_mem_nil, or_false] at hu
    rcases hu with rfl | rfl | rfl <;> rfl
  have Hiw := Lib.hid hiw
  have Hzw := Lib.hid hzw
  have Hsw := Lib.hid hsw
  have Hbw := Lib.hid hbw
  have Hpl := Lib.hid hpl
  clear h1 h2 h3 h4 h5 h6 h7 hbA hiw hzw hsw hbw x0 x1 x2 y2 hk4 HP4 Hk4 hpl
  go_region_law ((refine step_append_app _ rfl _ _ 39 (by rfl) 0 34 iw _ 3 40 Try.underlying39 Hiw.out Hzw.out Hsw.out Hbw.out rfl v es.length _ (by rfl) H3A.out.own (some ⟨W4.heap.size, 0, none⟩) 1 1 [.int .i64 (i : Int), .int .i64 (j : Int), .slice Av n cv] (by rfl) (by rfl) (by intro e; cases e) (new_cells _ _ _ rfl) HC1.out (by unfold maxLen; omega) (by omega) (by simp) ?_); intro v' w3 happ; (obtain ⟨Av', cv', rfl, _⟩ := own_shape happ.own); (have hk3 : Kp (fun k => v.ownBlock = some k) _ w3 := Kp.of_row happ.grow (fun g e => e)); (have kb := H1A.out.kp hk3 (fun e => H3A.out.off H1A.out g (.inl e) rfl)); (have k2 := (show w3.cell? ⟨g, 1, none⟩ = some v by rw [kb.cell 1]; exact H2.out.c1)); (have kf := kb.frozen 1))
  all_goals
    have HF := Lib.hid (PN.push (p := ⟨(i : Int), (j : Int), l⟩) HKA.out H1A.out H2.out H3A.out H4.out Hok.out H6.out Hlt.out happ (by rw [show (⟨(i : Int), (j : Int), l⟩ : Pk).body.length = n from Hpl.out]; exact own_mono HoA.out (Nat.zero_le _)) (fun k e => .inr (by have := (HoA.out.lt k e).1; have := Hs1.out; simp only [World.drew] at *; omega)))
    clear happ hk3 kb k2 kf c1a c1 j0 j1 j2
    go_wp2
    go_ret
    exact ⟨rfl, HF.out⟩
set_option maxRecDepth 100000 in
set_option maxHeartbeats 1000000 in
theorem nSend_frm (g : Nat) (f d : Int) (l : List UInt8) (A : Option Addr) (n c : Nat) (s : Nt) (F : Nat → Prop) (w : World) (hf : s.node f = false) (h : PN w F g s) :
    Calls Try.prog 23 #[.pointer (some ⟨g, 0, none⟩), pkV ⟨f, d, l⟩ (.slice A n c)] w fun e w' => e = .returned (.int .i64 2) ∧ Below w.heap.size w w' := by
  obtain ⟨W1, hW1⟩ : ∃ W1, W1 = w.alloc (.cells #[.int .i64 f, .int .i64 d, .slice A n c] 34) := ⟨_, rfl⟩
  have hb0 : Below w.heap.size w W1 := by rw [hW1]; exact (Below.refl _ _).alloc (Nat.le_refl _) _
  have hkb : Bk W1 w.heap.size 34 #[.int .i64 f, .int .i64 d, .slice A n c] := by rw [hW1]; exact Bk.new w 34 _
  have k0 : W1.cell? ⟨w.heap.size, 0, none⟩ = some (.int .i64 f) := hkb.cell 0
  have k1 : W1.cell? ⟨w.heap.size, 1, none⟩ = some (.int .i64 d) := hkb.cell 1
  have k2 : W1.cell? ⟨w.heap.size, 2, none⟩ = some (.slice A n c) := hkb.cell 2
  have h1 := h.below hb0
  have HA := nNode_any g s.n f W1 h1.c0
  have HB := nNode_any g s.n d W1 h1.c0
  have ea : (decide (0 ≤ f) && decide (f < (s.n : Int))) = s.node f := rfl
  have eb : (decide (0 ≤ d) && decide (d < (s.n : Int))) = s.node d := rfl
  rw [ea] at HA
  rw [eb] at HB
  obtain ⟨Ar, cr, q1, _⟩ := h1.c1
  have HFu := nFull_any g s.row.length cr Ar W1 q1
  have HW1 := Lib.hid hW1
  have Hb0 := Lib.hid hb0
  rw [hf] at HA
  have HA := Lib.hid HA
  clear HB HFu ea eb hf
  clear h h1 hb0 hW1 hkb q1
  simp only [pkV]
  go_enter Try.func23, Try.ntmps23
  go_wp2_with fail
  rw [← HW1.out]
  refine HA.out.mono ?_
  rintro e w' ⟨rfl, rfl⟩
  go_wp2
  go_ret
  exact ⟨rfl, Hb0.out⟩
set_option maxRecDepth 100000 in
set_option maxHeartbeats 1000000 in
theorem nSend_dst (g : Nat) (f d : Int) (l : List UInt8) (A : Option Addr) (n c : Nat) (s : Nt) (F : Nat → Prop) (w : World) (hf : s.node f = true) (hd : s.node d = false) (h : PN w F g s) :
    Calls Try.prog 23 #[.pointer (some ⟨g, 0, none⟩), pkV ⟨f, d, l⟩ (.slice A n c)] w fun e w' => e = .returned (.int .i64 2) ∧ Below w.heap.size w w' := by
  obtain ⟨W1, hW1⟩ : ∃ W1, W1 = w.alloc (.cells #[.int .i64 f, .int .i64 d, .slice A n c] 34) := ⟨_, rfl⟩
  have hb0 : Below w.heap.size w W1 := by rw [hW1]; exact (Below.refl _ _).alloc (Nat.le_refl _) _
  have hkb : Bk W1 w.heap.size 34 #[.int .i64 f, .int .i64 d, .slice A n c] := by rw [hW1]; exact Bk.new w 34 _
  have k0 : W1.cell? ⟨w.heap.size, 0, none⟩ = some (.int .i64 f) := hkb.cell 0
  have k1 : W1.cell? ⟨w.heap.size, 1, none⟩ = some (.int .i64 d) := hkb.cell 1
  have k2 : W1.cell? ⟨w.heap.size, 2, none⟩ = some (.slice A n c) := hkb.cell 2
  have h1 := h.below hb0
  have HA := nNode_any g s.n f W1 h1.c0
  have HB := nNode_any g s.n d W1 h1.c0
  have ea : (decide (0 ≤ f) && decide (f < (s.n : Int))) = s.node f := rfl
  have eb : (decide (0 ≤ d) && decide (d < (s.n : Int))) = s.node d := rfl
  rw [ea] at HA
  rw [eb] at HB
  obtain ⟨Ar, cr, q1, _⟩ := h1.c1
  have HFu := nFull_any g s.row.length cr Ar W1 q1
  have HW1 := Lib.hid hW1
  have Hb0 := Lib.hid hb0
  rw [hf] at HA
  rw [hd] at HB
  have HA := Lib.hid HA
  have HB := Lib.hid HB
  clear HFu ea eb hf hd
  clear h h1 hb0 hW1 hkb q1
  simp only [pkV]
  go_enter Try.func23, Try.ntmps23
  go_wp2_with fail
  rw [← HW1.out]
  refine HA.out.mono ?_
  rintro e w' ⟨rfl, rfl⟩
  go_wp2_with fail
  refine HB.out.mono ?_
  rintro e w' ⟨rfl, rfl⟩
  go_wp2
  go_ret
  exact ⟨rfl, Hb0.out⟩
set_option maxRecDepth 100000 in
set_option maxHeartbeats 1000000 in
theorem nSend_long (g : Nat) (f d : Int) (l : List UInt8) (A : Option Addr) (n c : Nat) (s : Nt) (F : Nat → Prop) (w : World) (hf : s.node f = true) (hd : s.node d = true) (hl : 1200 < n) (h : PN w F g s) :
    Calls Try.prog 23 #[.pointer (some ⟨g, 0, none⟩), pkV ⟨f, d, l⟩ (.slice A n c)] w fun e w' => e = .returned (.int .i64 3) ∧ Below w.heap.size w w' := by
  obtain ⟨W1, hW1⟩ : ∃ W1, W1 = w.alloc (.cells #[.int .i64 f, .int .i64 d, .slice A n c] 34) := ⟨_, rfl⟩
  have hb0 : Below w.heap.size w W1 := by rw [hW1]; exact (Below.refl _ _).alloc (Nat.le_refl _) _
  have hkb : Bk W1 w.heap.size 34 #[.int .i64 f, .int .i64 d, .slice A n c] := by rw [hW1]; exact Bk.new w 34 _
  have k0 : W1.cell? ⟨w.heap.size, 0, none⟩ = some (.int .i64 f) := hkb.cell 0
  have k1 : W1.cell? ⟨w.heap.size, 1, none⟩ = some (.int .i64 d) := hkb.cell 1
  have k2 : W1.cell? ⟨w.heap.size, 2, none⟩ = some (.slice A n c) := hkb.cell 2
  have h1 := h.below hb0
  have HA := nNode_any g s.n f W1 h1.c0
  have HB := nNode_any g s.n d W1 h1.c0
  have ea : (decide (0 ≤ f) && decide (f < (s.n : Int))) = s.node f := rfl
  have eb : (decide (0 ≤ d) && decide (d < (s.n : Int))) = s.node d := rfl
  rw [ea] at HA
  rw [eb] at HB
  obtain ⟨Ar, cr, q1, _⟩ := h1.c1
  have HFu := nFull_any g s.row.length cr Ar W1 q1
  have HW1 := Lib.hid hW1
  have Hb0 := Lib.hid hb0
  rw [hf] at HA
  rw [hd] at HB
  have HA := Lib.hid HA
  have HB := Lib.hid HB
  have hl' : (1200 : Int) < (n : Int) := by omega
  clear HFu ea eb hf hd
  clear h h1 hb0 hW1 hkb q1
  simp only [pkV]
  go_enter Try.func23, Try.ntmps23
  go_wp2_with fail
  rw [← HW1.out]
  refine HA.out.mono ?_
  rintro e w' ⟨rfl, rfl⟩
  go_wp2_with fail
  refine HB.out.mono ?_
  rintro e w' ⟨rfl, rfl⟩
  go_wp2
  go_ret
  exact ⟨rfl, Hb0.out⟩
set_option maxRecDepth 100000 in
set_option maxHeartbeats 1000000 in
theorem nSend_full (g : Nat) (f d : Int) (l : List UInt8) (A : Option Addr) (n c : Nat) (s : Nt) (F : Nat → Prop) (w : World) (hf : s.node f = true) (hd : s.node d = true) (hl : n ≤ 1200) (hr : 256 ≤ s.row.length) (h : PN w F g s) :
    Calls Try.prog 23 #[.pointer (some ⟨g, 0, none⟩), pkV ⟨f, d, l⟩ (.slice A n c)] w fun e w' => e = .returned (.int .i64 5) ∧ Below w.heap.size w w' := by
  obtain ⟨W1, hW1⟩ : ∃ W1, W1 = w.alloc (.cells #[.int .i64 f, .int .i64 d, .slice A n c] 34) := ⟨_, rfl⟩
  have hb0 : Below w.heap.size w W1 := by rw [hW1]; exact (Below.refl _ _).alloc (Nat.le_refl _) _
  have hkb : Bk W1 w.heap.size 34 #[.int .i64 f, .int .i64 d, .slice A n c] := by rw [hW1]; exact Bk.new w 34 _
  have k0 : W1.cell? ⟨w.heap.size, 0, none⟩ = some (.int .i64 f) := hkb.cell 0
  have k1 : W1.cell? ⟨w.heap.size, 1, none⟩ = some (.int .i64 d) := hkb.cell 1
  have k2 : W1.cell? ⟨w.heap.size, 2, none⟩ = some (.slice A n c) := hkb.cell 2
  have h1 := h.below hb0
  have HA := nNode_any g s.n f W1 h1.c0
  have HB := nNode_any g s.n d W1 h1.c0
  have ea : (decide (0 ≤ f) && decide (f < (s.n : Int))) = s.node f := rfl
  have eb : (decide (0 ≤ d) && decide (d < (s.n : Int))) = s.node d := rfl
  rw [ea] at HA
  rw [eb] at HB
  obtain ⟨Ar, cr, q1, _⟩ := h1.c1
  have HFu := nFull_any g s.row.length cr Ar W1 q1
  have HW1 := Lib.hid hW1
  have Hb0 := Lib.hid hb0
  rw [hf] at HA
  rw [hd] at HB
  rw [show decide (256 ≤ s.row.length) = true by simpa using hr] at HFu
  have HA := Lib.hid HA
  have HB := Lib.hid HB
  have HFu := Lib.hid HFu
  have hl' : ¬ (1200 : Int) < (n : Int) := by omega
  clear ea eb hf hd
  clear h h1 hb0 hW1 hkb q1
  simp only [pkV]
  go_enter Try.func23, Try.ntmps23
  go_wp2_with fail
  rw [← HW1.out]
  refine HA.out.mono ?_
  rintro e w' ⟨rfl, rfl⟩
  go_wp2_with fail
  refine HB.out.mono ?_
  rintro e w' ⟨rfl, rfl⟩
  go_wp2_with fail
  refine HFu.out.mono ?_
  rintro e w' ⟨rfl, rfl⟩
  go_wp2
  go_ret
  exact ⟨rfl, Hb0.out⟩
set_option maxRecDepth 100000 in
set_option maxHeartbeats 1000000 in
theorem nSend_lost (g : Nat) (f d : Int) (l : List UInt8) (A : Option Addr) (n c : Nat) (s : Nt) (F : Nat → Prop) (w : World) (hf : s.node f = true) (hd : s.node d = true) (hl : n ≤ 1200) (hr : s.row.length < 256) (hp : s.parted f d = true) (h : PN w F g s) :
    Calls Try.prog 23 #[.pointer (some ⟨g, 0, none⟩), pkV ⟨f, d, l⟩ (.slice A n c)] w fun e w' => e = .returned (.int .i64 0) ∧ Below w.heap.size w w' := by
  obtain ⟨i, rfl, hi12, _⟩ := node_nat hf h.ok.n2
  obtain ⟨j, rfl, hj12, _⟩ := node_nat hd h.ok.n2
  obtain ⟨W1, hW1⟩ : ∃ W1, W1 = w.alloc (.cells #[.int .i64 (i : Int), .int .i64 (j : Int), .slice A n c] 34) := ⟨_, rfl⟩
  have hb0 : Below w.heap.size w W1 := by rw [hW1]; exact (Below.refl _ _).alloc (Nat.le_refl _) _
  have hkb : Bk W1 w.heap.size 34 #[.int .i64 (i : Int), .int .i64 (j : Int), .slice A n c] := by rw [hW1]; exact Bk.new w 34 _
  have k0 : W1.cell? ⟨w.heap.size, 0, none⟩ = some (.int .i64 (i : Int)) := hkb.cell 0
  have k1 : W1.cell? ⟨w.heap.size, 1, none⟩ = some (.int .i64 (j : Int)) := hkb.cell 1
  have k2 : W1.cell? ⟨w.heap.size, 2, none⟩ = some (.slice A n c) := hkb.cell 2
  have h1 := h.below hb0
  have HA := nNode_any g s.n (i : Int) W1 h1.c0
  have HB := nNode_any g s.n (j : Int) W1 h1.c0
  have ea : (decide (0 ≤ (i : Int)) && decide ((i : Int) < (s.n : Int))) = s.node i := rfl
  have eb : (decide (0 ≤ (j : Int)) && decide ((j : Int) < (s.n : Int))) = s.node j := rfl
  rw [ea] at HA
  rw [eb] at HB
  obtain ⟨Ar, cr, q1, _⟩ := h1.c1
  have HFu := nFull_any g s.row.length cr Ar W1 q1
  have HW1 := Lib.hid hW1
  have Hb0 := Lib.hid hb0
  have hbit := h1.bit i j hi12 hj12
  rw [hp] at hbit
  rw [hf] at HA
  rw [hd] at HB
  rw [show decide (256 ≤ s.row.length) = false by simpa using hr] at HFu
  have HA := Lib.hid HA
  have HB := Lib.hid HB
  have HFu := Lib.hid HFu
  have hl' : ¬ (1200 : Int) < (n : Int) := by omega
  clear ea eb hf hd hp
  clear h h1 hb0 hW1 hkb q1
  simp only [pkV]
  go_enter Try.func23, Try.ntmps23
  go_wp2_with fail
  rw [← HW1.out]
  refine HA.out.mono ?_
  rintro e w' ⟨rfl, rfl⟩
  go_wp2_with fail
  refine HB.out.mono ?_
  rintro e w' ⟨rfl, rfl⟩
  go_wp2_with fail
  refine HFu.out.mono ?_
  rintro e w' ⟨rfl, rfl⟩
  go_wp2_with fail
  go_region
  go_wp2
  go_ret
  exact ⟨rfl, Hb0.out.drew⟩
set_option maxRecDepth 100000 in
set_option maxHeartbeats 1000000 in
theorem nSend_nil (v : Value) (f d : Value) (w : World) : Calls Try.prog 23 #[.pointer none, .agg #[f, d, v]] w fun e w' => e = .returned (.int .i64 1) ∧ Below w.heap.size w w' := by
  have hb0 : Hid (Below w.heap.size w (w.alloc (.cells #[f, d, v] 34))) := Lib.hid ((Below.refl _ _).alloc (Nat.le_refl _) _)
  go_enter Try.func23, Try.ntmps23
  go_wp2
  go_ret
  exact ⟨rfl, hb0.out⟩
/-- Send, whatever it answers. -/
theorem nSend_any (g : Nat) (p : Pk) (A : Option Addr) (n c : Nat) (s : Nt) (F : Nat → Prop) (w : World) (hrd : Rd w w.heap.size A n p.body) (h : PN w F g s) :
    Calls Try.prog 23 #[.pointer (some ⟨g, 0, none⟩), pkV p (.slice A n c)] w (NActed w F g (.int .i64 (s.send p).1) (s.send p).2) := by
  have hpl := hrd.1
  have key : ∀ r : Int, s.send p = (r, s) → (Calls Try.prog 23 #[.pointer (some ⟨g, 0, none⟩), pkV p (.slice A n c)] w fun e w' => e = .returned (.int .i64 r) ∧ Below w.heap.size w w') → Calls Try.prog 23 #[.pointer (some ⟨g, 0, none⟩), pkV p (.slice A n c)] w (NActed w F g (.int .i64 (s.send p).1) (s.send p).2) := by
    intro r e hc
    rw [e]
    refine hc.mono ?_
    rintro e2 w' ⟨rfl, hb⟩
    exact ⟨rfl, F, h.below hb, Mv.of (Kp.of_below hb)⟩
  obtain ⟨f, d, l⟩ := p
  have hpl : l.length = n := hpl
  cases hf : s.node f with
  | false => exact key 2 (by unfold Nt.send; rw [if_pos (by simp [hf])]) (nSend_frm g f d l A n c s F w hf h)
  | true =>
    cases hd : s.node d with
    | false => exact key 2 (by unfold Nt.send; rw [if_pos (by simp [hd])]) (nSend_dst g f d l A n c s F w hf hd h)
    | true =>
      have h0 : ¬ (s.node f && s.node d) = false := by rw [hf, hd]; decide
      by_cases hl : 1200 < n
      · exact key 3 (by unfold Nt.send; rw [if_neg h0, if_pos (by simp only; omega)]) (nSend_long g f d l A n c s F w hf hd hl h)
      · by_cases hr : 256 ≤ s.row.length
        · exact key 5 (by unfold Nt.send; rw [if_neg h0, if_neg (by simp only; omega), if_pos hr]) (nSend_full g f d l A n c s F w hf hd (by omega) hr h)
        · cases hp : s.parted f d with
          | true => exact key 0 (by unfold Nt.send; rw [if_neg h0, if_neg (by simp only; omega), if_neg hr, if_pos hp]) (nSend_lost g f d l A n c s F w hf hd (by omega) (by omega) hp h)
          | false =>
            have e : s.send ⟨f, d, l⟩ = (0, { s with row := s.row ++ [⟨f, d, l⟩] }) := by unfold Nt.send; rw [if_neg h0, if_neg (by simp only; omega), if_neg hr, if_neg (by rw [hp]; decide)]
            rw [e]
            exact nSend_go g ⟨f, d, l⟩ A n c s F w hrd hf hd (by omega) (by omega) hp h
end Go.Proofs.Ytfghbhjljbdlmaa
