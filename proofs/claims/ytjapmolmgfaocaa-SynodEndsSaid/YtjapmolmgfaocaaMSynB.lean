/- Of the proofs of layer 4, merged: SynB, SynC, SynD, SynE, SynF, SynJ, SynI, SynH, SynG, SynK. -/
import Derived.Test.YtjapmolmgfaocaaMProC
import Derived.Test.YtjapmolmgfaocaaM1Append2
import Derived.Test.YtjapmolmgfaocaaM1Mid
import Derived.Test.YtjapmolmgfaocaaM1Cut
import Derived.Deep.LoopGhost
import Derived.WalkMore
import Derived.Deep.CutRange
import Derived.Test.YtjapmolmgfaocaaM1Clone

/- The program's room: a letter more. -/
namespace Go.Proofs.Ytjapmolmgfaocaa
open Go.RowKit Go.Maps

theorem Try.infoMail : (Try.prog.info? 63).map (fun i => (i.zero, i.size, i.bytes)) = some (some (.agg #[.int .i64 0, .int .i64 0, .int .i64 0, .int .u64 0, .int .i64 0, .slice none 0 0]), 6, 64) := by kernel_rfl
def bMls (parts : Array (Nat × Value)) : Sem Value := Instr.buildSlice 83 1 parts
theorem bMls_eq (parts : Array (Nat × Value)) : Instr.buildSlice 83 1 parts = bMls parts := rfl
theorem run_bMls (a b c d e f : Value) (W : World) : (bMls #[(0, .agg #[a, b, c, d, e, f])]).run Try.prog W = .ok (.slice (some ⟨W.heap.size, 0, none⟩) 1 1) (W.alloc (.cells #[a, b, c, d, e, f] 63)) := by
  obtain ⟨iw, hiw, hzw, hsw, hbw⟩ := info_parts Try.infoMail
  exact run_buildSlice_one (P := Try.prog) Try.underlying83 hiw hzw hsw (by rfl) (by omega) (by omega) (.agg #[a, b, c, d, e, f]) rfl W
section
variable {w : World} {col : Nat → Nat} {g N n sn sc rc : Nat} {A R : Option Addr} {np : Nat → Np} {es : List Mle} {r : Ro}
theorem own_not_bkS {w : World} {g : Nat} {t : TypeId} {cs : Array Value} {base e size n : Nat} {v : Value} {xs : List Value} (hb : Bk w g t cs) (ho : w.ownsRow base e size v n xs) (ht : e ≠ t) : ∀ k, v.ownBlock = some k → k ≠ g := by
  rintro k e1 rfl
  rcases ho.2 with ⟨rfl, _⟩ | ⟨g', cap, cur, rfl, _, hh, _⟩
  · cases e1
  · simp only [Value.ownBlock, Option.some.injEq] at e1
    subst e1
    unfold Bk at hb
    rw [hh] at hb
    simp only [Option.some.injEq, Obj.cells.injEq] at hb
    exact ht hb.2.1
/-- The row of letters turned: blocks of the number 3, and what is new. -/
theorem RoC.rowTurn {w' : World} {col' : Nat → Nat} {R' : Option Addr} {rc' : Nat} {es' : List Mle} {r' : Ro} (h : RoC w col g N n A sn sc R rc np es r) (hk : Kp (fun k => col k = 3 ∨ k = g) w w') (hc : ∀ k, k < w.heap.size → col' k = col k) (hl : ∀ k, col' k ≠ 0 → k < w'.heap.size)
    (hbk : Bk w' g 85 #[.int .i64 r.q.kind, .int .i64 r.q.nodes, .int .i64 r.q.one, .int .i64 r.q.two, .slice A sn sc, .slice (some ⟨N, 0, none⟩) n n, .slice R' es'.length rc']) (hrow : w'.ownsRow 0 63 6 (.slice R' es'.length rc') es'.length (mlC es')) (hcR : ∀ k, (Value.slice R' es'.length rc').ownBlock = some k → col' k = 3)
    (heach : ∀ e ∈ es', VsS w' col' e.2.1 e.2.2 ∧ e.1.votes = e.2.2.map (·.1)) (hr : r' = { r with row := es'.map (·.1) }) (hok : r'.Ok) : RoC w' col' g N n A sn sc R' rc' np es' r' ∧ Cl col col' w w' := by
  have hk0 : ∀ k, (col k = 3 ∨ k = g) → col k ≠ 0 ∧ col k ≠ 4 := fun k e => by
    rcases e with e | e
    · omega
    · rw [e, h.cg]; decide
  have h4 : ∀ k, col k = 4 → ¬ (col k = 3 ∨ k = g) := fun k e e2 => by
    rcases e2 with e2 | e2
    · omega
    · rw [e2, h.cg] at e; cases e
  have hlt := h.lt
  have cg := h.cg
  subst hr
  refine ⟨⟨hbk, h.nn, h.qi, (h.sit.kp hk h4).mono (fun k e => (hc k (hlt k (by omega))).trans e), h.sn6, h.nds.kp hk (fun e => ?_), hrow, heach, rfl, fun j hj => ?_, fun j hj => ?_, fun j hj => ?_, fun j hj p hpp => ?_, h.pn, (hc g h.bk.lt).trans h.cg, (hc N h.nds.lt).trans h.cN, hcR, hl, hok⟩, ⟨hk.mono hk0, hc⟩⟩
  · have := h.cN
    rcases e with e | e
    · omega
    · rw [e] at this; omega
  · have h1 := h.vv j hj
    exact ⟨h1.cap, (h1.rd.kp hk h4).mono fun k e => (hc k (hlt k (by omega))).trans e⟩
  · have h1 := h.oo j hj
    exact ⟨h1.cap, (h1.rd.kp hk h4).mono fun k e => (hc k (hlt k (by omega))).trans e⟩
  · have h1 := h.ll j hj
    exact ⟨h1.cap, (h1.rd.kp hk h4).mono fun k e => (hc k (hlt k (by omega))).trans e⟩
  · obtain ⟨gp, h1, h2⟩ := h.pp j hj p hpp
    refine ⟨gp, h1, (h2.kp hk fun k e e2 => ?_).mono (fun k e => (hc k (hlt k (by omega))).trans e) fun k e => hl k (by omega)⟩
    rcases e2 with e2 | e2
    · omega
    · rw [e2, cg] at e; omega
theorem VsS.kp' {w w' : World} {col col' : Nat → Nat} {s : S3} {vs : List Vtr} {G : Nat → Prop} (h : VsS w col s vs) (hk : Kp G w w') (hd : ∀ k, col k = 4 → ¬ G k) (hc : ∀ k, k < w.heap.size → col' k = col k) : VsS w' col' s vs :=
  VsR.mono' (VsR.kp (VsR.mono' h (G' := fun k => col k = 4 ∧ k < w.heap.size) fun _ hk e => ⟨e, hk⟩) hk fun k e => hd k e.1) fun _ _ e => (hc _ e.2).trans e.1
/-- The numbers behind an append: what is new is the row's. -/
def colR (col : Nat → Nat) (w w' : World) : Nat → Nat := fun k => if k < w.heap.size then col k else if k < w'.heap.size then 3 else 0
theorem RoC.push {w0 w1 w3 : World} {v' : Value} {m : Ml} {s : S3} {vs : List Vtr} (h : RoC w0 col g N n A sn sc R rc np es r) (hb1 : Below w0.heap.size w0 w1) (ha : App w1 w3 0 63 6 (.slice R es.length rc) v' es.length 1 (mlC es) (mlE (m, s, vs))) (hv : VsS w0 col s vs) (hm : m.votes = vs.map (·.1)) (hmo : m.Ok r.q.n) (hlen : r.row.length < 200) :
    RoM (w3.setCell ⟨g, 6, none⟩ v') (colR col w0 w3) g N n (r.send m) ∧ Cl col (colR col w0 w3) w0 (w3.setCell ⟨g, 6, none⟩ v') := by
  have h1 := h.below hb1
  have hgb := h.bk.lt
  have hk3 : Kp (fun k => (Value.slice R es.length rc).ownBlock = some k) w1 w3 := Kp.of_row ha.grow (fun g e => e)
  have hk4 : Kp (fun k => k = g) w3 (w3.setCell ⟨g, 6, none⟩ v') := Kp.set_ (F := fun k => k = g) (p := ⟨g, 6, none⟩) rfl _
  have hz4 : (w3.setCell ⟨g, 6, none⟩ v').heap.size = w3.heap.size := by simp [World.setCell]
  have hz := hb1.size
  have hz3 := hk3.size
  have hk : Kp (fun k => col k = 3 ∨ k = g) w0 (w3.setCell ⟨g, 6, none⟩ v') := ((Kp.of_below hb1).trans (hk3.mono fun k e => .inl (h.cR k e))).trans (hk4.mono fun k e => .inr e)
  obtain ⟨R', c', rfl, hnc, hcm⟩ := own_shape ha.own
  have hown := ha.own
  have hlen' : (es ++ [(m, s, vs)]).length = es.length + 1 := by simp
  have hsend : r.send m = { r with row := (es ++ [(m, s, vs)]).map (·.1) } := by
    unfold Ro.send
    rw [if_neg (by omega), List.map_append, h.eq]
    rfl
  have hbk3 := h1.bk.kp hk3 (fun e => by have := h.cR g e; rw [h.cg] at this; cases this)
  obtain ⟨q1, q2⟩ := h.rowTurn (w' := w3.setCell ⟨g, 6, none⟩ (.slice R' (es.length + 1) c')) (col' := colR col w0 w3) (R' := R') (rc' := c') (es' := es ++ [(m, s, vs)]) (r' := r.send m) hk
    (fun k hk => by unfold colR; rw [if_pos hk]) (fun k hk2 => by
      unfold colR at hk2
      rw [hz4]
      split at hk2
      · omega
      · split at hk2
        · assumption
        · exact absurd rfl hk2) (by rw [hlen']; exact hbk3.set_ 6 _) (by
      rw [hlen', mlC_app]
      refine own_kp hown hk4 fun k e e2 => ?_
      subst e2
      have hne := own_not_bkS hbk3 hown (by decide) k e
      exact hne rfl) (fun k e => by
      rw [hlen'] at e
      unfold colR
      split
      · rename_i hl
        rcases ha.block with h' | h'
        · rw [h'] at e; exact h.cR k e
        · rw [h'] at e; injection e with e; omega
      · rename_i hl
        have := (hown.lt k e).2
        rw [if_pos this]) (fun e he => by
      have hold : ∀ e ∈ es, VsS (w3.setCell ⟨g, 6, none⟩ (.slice R' (es.length + 1) c')) (colR col w0 w3) e.2.1 e.2.2 ∧ e.1.votes = e.2.2.map (·.1) := fun e he => ⟨(h.each e he).1.kp' hk (fun _ e e2 => by
        rcases e2 with e2 | e2
        · omega
        · rw [e2, h.cg] at e; cases e) (fun k hk => by unfold colR; rw [if_pos hk]), (h.each e he).2⟩
      rcases List.mem_append.1 he with he | he
      · exact hold e he
      · rw [List.mem_singleton.1 he]
        exact ⟨hv.kp' hk (fun k e e2 => by
          rcases e2 with e2 | e2
          · omega
          · rw [e2, h.cg] at e; cases e) (fun k hk => by unfold colR; rw [if_pos hk]), hm⟩) hsend (h.ok.send hmo)
  exact ⟨q1.m, q2⟩
attribute [local go_sem ↓] bMls_eq
attribute [local go_sem] run_bMls
set_option maxRecDepth 100000 in
set_option maxHeartbeats 4000000 in
theorem rsend_any (h : RoC w col g N n A sn sc R rc np es r) (m : Ml) (s : S3) (vs : List Vtr) (hv : VsS w col s vs) (hm : m.votes = vs.map (·.1)) (hmo : m.Ok r.q.n) : Calls Try.prog 42 #[.pointer (some ⟨g, 6, none⟩), mlV m s] w (NodeR w col g N n (r.send m) (.bool (decide (r.row.length < 200)))) := by
  obtain ⟨sA, sN, sC⟩ := s
  unfold mlV
  dsimp only
  obtain ⟨W1, hW1⟩ : ∃ W1, W1 = w.alloc (.cells #[.int .i64 (m.kind : Int), .int .i64 (m.frm : Int), .int .i64 (m.dst : Int), .int .u64 (m.bal.n : Int), .int .i64 m.bal.node, .slice sA sN sC] 63) := ⟨_, rfl⟩
  have hb0 : Below w.heap.size w W1 := by rw [hW1]; exact bel1P _
  have hkb : Bk W1 w.heap.size 63 #[.int .i64 (m.kind : Int), .int .i64 (m.frm : Int), .int .i64 (m.dst : Int), .int .u64 (m.bal.n : Int), .int .i64 m.bal.node, .slice sA sN sC] := by rw [hW1]; exact Bk.new w _ _
  have h1 := h.below hb0
  have c6 := h1.cells.2.2.2.2.2.2
  have f6 := h1.bk.frozen 6
  have HW := Lib.hid hW1
  have HB := Lib.hid hb0
  by_cases hlen : r.row.length < 200
  · have hlen1 : ¬ (200 : Int) ≤ (r.row.length : Int) := by omega
    have j0 : W1.cell? ⟨w.heap.size, 0, none⟩ = some (.int .i64 (m.kind : Int)) := hkb.cell 0
    have j1 : W1.cell? ⟨w.heap.size, 1, none⟩ = some (.int .i64 (m.frm : Int)) := hkb.cell 1
    have j2 : W1.cell? ⟨w.heap.size, 2, none⟩ = some (.int .i64 (m.dst : Int)) := hkb.cell 2
    have j3 : W1.cell? ⟨w.heap.size, 3, none⟩ = some (.int .u64 (m.bal.n : Int)) := hkb.cell 3
    have j4 : W1.cell? ⟨w.heap.size, 4, none⟩ = some (.int .i64 m.bal.node) := hkb.cell 4
    have j5 : W1.cell? ⟨w.heap.size, 5, none⟩ = some (.slice sA sN sC) := hkb.cell 5
    obtain ⟨iw, hiw, hzw, hsw, hbw⟩ := info_parts Try.infoMail
    have hel := h.elen
    rw [decide_eq_true hlen]
    have c6a : (W1.alloc (.cells #[.int .i64 (m.kind : Int), .int .i64 (m.frm : Int), .int .i64 (m.dst : Int), .int .u64 (m.bal.n : Int), .int .i64 m.bal.node, .slice sA sN sC] 63)).cell? ⟨g, 6, none⟩ = some (.slice R r.row.length rc) := (((Below.refl _ W1).alloc (Nat.le_refl _) _).cell (p := ⟨g, 6, none⟩) h1.bk.lt).trans c6
    rw [← hel] at c6 c6a hlen1
    have hbA : Below W1.heap.size W1 ((W1.drewN 1).alloc (.cells #[.int .i64 (m.kind : Int), .int .i64 (m.frm : Int), .int .i64 (m.dst : Int), .int .u64 (m.bal.n : Int), .int .i64 m.bal.node, .slice sA sN sC] 63)) := ((Below.refl _ _).drew).alloc (Nat.le_refl _) _
    have hbA0 := below_then hb0 hbA
    have HBA := Lib.hid hbA0
    have HA := Lib.hid ((h1.below hbA).row)
    have HC1 : Hid (∀ u ∈ [Value.int .i64 (m.kind : Int), .int .i64 (m.frm : Int), .int .i64 (m.dst : Int), .int .u64 (m.bal.n : Int), .int .i64 m.bal.node, .slice sA sN sC], u.oneCell' = true) := by
      intro u hu
      simp only [List.mem_cons, List.not_mem_nil, or_false] at hu
      rcases hu with rfl | rfl | rfl | rfl | rfl | rfl <;> rfl
    have hel2 : es.length < 200 := by omega
    have HP : Hid (∀ v' w3, App ((W1.drewN 1).alloc (.cells #[.int .i64 (m.kind : Int), .int .i64 (m.frm : Int), .int .i64 (m.dst : Int), .int .u64 (m.bal.n : Int), .int .i64 m.bal.node, .slice sA sN sC] 63)) w3 0 63 6 (.slice R es.length rc) v' es.length 1 (mlC es) [Value.int .i64 (m.kind : Int), .int .i64 (m.frm : Int), .int .i64 (m.dst : Int), .int .u64 (m.bal.n : Int), .int .i64 m.bal.node, .slice sA sN sC] →
        RoM (w3.setCell ⟨g, 6, none⟩ v') (colR col w w3) g N n (r.send m) ∧ Cl col (colR col w w3) w (w3.setCell ⟨g, 6, none⟩ v')) := Lib.hid fun v' w3 ha => h.push (s := (sA, sN, sC)) hbA0 ha hv hm hmo hlen
    have HG : Hid (∀ v' w3, App ((W1.drewN 1).alloc (.cells #[.int .i64 (m.kind : Int), .int .i64 (m.frm : Int), .int .i64 (m.dst : Int), .int .u64 (m.bal.n : Int), .int .i64 m.bal.node, .slice sA sN sC] 63)) w3 0 63 6 (.slice R es.length rc) v' es.length 1 (mlC es) [Value.int .i64 (m.kind : Int), .int .i64 (m.frm : Int), .int .i64 (m.dst : Int), .int .u64 (m.bal.n : Int), .int .i64 m.bal.node, .slice sA sN sC] →
        w3.cell? ⟨g, 6, none⟩ = some (.slice R es.length rc) ∧ w3.frozen? ⟨g, 6, none⟩ = false) := Lib.hid fun v' w3 ha => by
      have hk3 : Kp (fun k => (Value.slice R es.length rc).ownBlock = some k) _ w3 := Kp.of_row ha.grow (fun g e => e)
      have hb := (h1.below hbA).bk.kp hk3 (fun e => by have := h.cR g e; rw [h.cg] at this; cases this)
      exact ⟨hb.cell 6, hb.frozen 6⟩
    have Hiw := Lib.hid hiw
    have Hzw := Lib.hid hzw
    have Hsw := Lib.hid hsw
    have Hbw := Lib.hid hbw
    clear h h1 hv hm hmo hkb hW1 hb0 hbA hbA0 hiw hzw hsw hbw hlen hel
    go_enter Try.func42, Try.ntmps42
    go_upto_region 1 with (fail)
    rw [← HW.out]
    go_wp2_with fail
    go_region_law ((refine step_append_app _ rfl _ _ 83 (by rfl) 0 63 iw _ 6 64 Try.underlying83 Hiw.out Hzw.out Hsw.out Hbw.out rfl (.slice R es.length rc) es.length _ (by rfl) HA.out (some ⟨W1.heap.size, 0, none⟩) 1 1 [.int .i64 (m.kind : Int), .int .i64 (m.frm : Int), .int .i64 (m.dst : Int), .int .u64 (m.bal.n : Int), .int .i64 m.bal.node, .slice sA sN sC] (by rfl) (by rfl) (by intro e; cases e) (new_cells _ _ _ rfl) HC1.out (by unfold maxLen; omega) (by omega) (by simp) ?_); intro v' w3 happ; (obtain ⟨Av', cv', rfl, _⟩ := own_shape happ.own); (obtain ⟨k2, kf⟩ := HG.out _ _ happ))
    all_goals
      have HF := Lib.hid (HP.out _ _ happ)
      clear happ k2 kf c6 c6a j0 j1 j2 j3 j4 j5
      go_wp2
      go_ret
      exact ⟨rfl, _, HF.out⟩
  · have hlen1 : (200 : Int) ≤ (r.row.length : Int) := by omega
    rw [decide_eq_false hlen]
    have hs : r.send m = r := by unfold Ro.send; rw [if_pos (by omega)]
    rw [hs]
    have HD := Lib.hid h
    clear h h1 hv hm hmo hkb hW1 hb0
    go_enter Try.func42, Try.ntmps42
    go_upto_region 1 with (fail)
    rw [← HW.out]
    go_wp2
    go_ret
    exact ⟨rfl, col, (HD.out.below HB.out).m, Cl.of_below HB.out⟩
end
end Go.Proofs.Ytjapmolmgfaocaa

/- The program's room: a letter is cut out of the row. -/
namespace Go.Proofs.Ytjapmolmgfaocaa
open Go.RowKit Go.Maps

theorem own_takeS {w : World} {base e size n cap g : Nat} {xs : List Value} (h : w.ownsRow base e size (.slice (some ⟨g, 0, none⟩) n cap) n xs) (k : Nat) (hk : k ≤ n) : w.ownsRow base e size (.slice (some ⟨g, 0, none⟩) k cap) k (xs.take (k * size)) := by
  have hx := h.1
  have hle : k * size ≤ n * size := Nat.mul_le_mul_right _ hk
  refine ⟨by rw [List.length_take]; omega, ?_⟩
  rcases h.2 with ⟨h', _⟩ | ⟨g', cap', cur, hv, hb, hh, hnc, hcm, hcs, ht⟩
  · cases h'
  · injection hv with h1 _ h3
    injection h1 with h1
    injection h1 with h1
    subst h1 h3
    refine .inr ⟨g, cap, cur, rfl, hb, hh, by omega, hcm, hcs, ?_⟩
    rw [← ht, List.take_take, Nat.min_eq_left hle]
/-- The row without the letter at a place. -/
theorem cutRowS {w w3 w4 : World} {b n c k : Nat} {es : List Mle} (hn : n = es.length) (hk : k < n) (hnc : n ≤ c) (ha : AppIn w w3 0 63 6 b k (n - (k + 1)) c (mlC (es.take k)) (mlC (es.drop (k + 1)))) (r : Nat) (hr : k + (n - (k + 1)) = r) (vs : List Value) (hvs : vs.length = 6) (hw4 : w4 = w3.setCells b (r * 6) vs) :
    w4.ownsRow 0 63 6 (.slice (some ⟨b, 0, none⟩) r c) r (mlC (es.eraseIdx k)) ∧ Kp (fun j => j = b) w w4 ∧ (es.eraseIdx k).length = r := by
  subst hw4
  have hk1 : Kp (fun j => j = b) w w3 := Kp.of_grown ha.grow rfl
  have hk2 : Kp (fun j => j = b) w (w3.setCells b (r * 6) vs) := hk1.trans (Kp.sets (F := fun j => j = b) rfl _ _ _)
  have hl : (es.eraseIdx k).length = r := by rw [List.length_eraseIdx_of_lt (by omega)]; omega
  have hown := ha.own
  rw [← mlC_app, ← List.eraseIdx_eq_take_drop_succ, hr] at hown
  exact ⟨own_beyond hown _ _ (Nat.le_refl _) (by rw [hvs]; have : n * 6 ≤ c * 6 := Nat.mul_le_mul_right _ hnc; omega), hk2, hl⟩
set_option maxRecDepth 100000 in
set_option maxHeartbeats 4000000 in
theorem delete_any {w : World} {b n c k : Nat} {es : List Mle} (h : w.ownsRow 0 63 6 (.slice (some ⟨b, 0, none⟩) n c) n (mlC es)) (hn : n = es.length) (hk : k < n) (hnc : n ≤ c) :
    Calls Try.prog 43 #[.slice (some ⟨b, 0, none⟩) n c, .int .i64 (k : Int), .int .i64 ((k : Int) + 1)] w fun e w' =>
      e = .returned (.slice (some ⟨b, 0, none⟩) (es.eraseIdx k).length c) ∧ w'.ownsRow 0 63 6 (.slice (some ⟨b, 0, none⟩) (es.eraseIdx k).length c) (es.eraseIdx k).length (mlC (es.eraseIdx k)) ∧ Kp (fun j => j = b) w w' := by
  obtain ⟨iw, hiw, hzw, hsw, hbw⟩ := info_parts Try.infoMail
  have HT := Lib.hid ((own_takeS h k (by omega)))
  have HNl : Hid ((mlC (es.drop (k + 1))).length = (n - (k + 1)) * 6) := Lib.hid (by unfold mlC; rw [flat_len (s := 6) _ (fun _ _ => rfl), List.length_drop, ← hn])
  have HN1 : Hid (∀ u ∈ mlC (es.drop (k + 1)), u.oneCell' = true) := Lib.hid fun u hu => mlC_one u hu
  have hto : ((k : Int) + 1).toNat = k + 1 := by omega
  have h00 : (0 : Int) ≤ (k : Int) + 1 := by omega
  have hle : (k : Int) + 1 ≤ (n : Int) := by omega
  have hkn : (k : Int) < (n : Int) := by omega
  have hkc : k ≤ c := by omega
  have hk1n : k + 1 ≤ n := by omega
  have hk1c : k + 1 ≤ c := by omega
  have hne : ¬ ((k : Int) = (k : Int) + 1) := by omega
  obtain ⟨ad, had⟩ : ∃ ad, (if c = k + 1 then some (⟨b, 0, none⟩ : Addr) else some ⟨b, (k + 1) * 6, none⟩) = some ad := by split <;> exact ⟨_, rfl⟩
  have HN2 : Hid (∀ j u, (mlC (es.drop (k + 1)))[j]? = some u → (w.drewN 1).cell? (ad.add j) = some u) := by
    refine Lib.hid fun j u hu => ?_
    by_cases hck : c = k + 1
    · have hd0 : es.drop (k + 1) = [] := List.drop_eq_nil_of_le (by omega)
      rw [hd0] at hu
      simp [mlC] at hu
    · rw [if_neg hck] at had
      injection had with had
      rw [← had]
      rw [← mlC_drop, List.getElem?_drop] at hu
      have := h.cells (g := b) rfl ((k + 1) * 6 + j) u hu
      rw [Addr.add_lit] at this ⊢
      rwa [Nat.zero_add] at this
  have Hiw := Lib.hid hiw
  have Hsw := Lib.hid hsw
  have Hzw := Lib.hid hzw
  have Hn := Lib.hid hn
  clear h hiw hzw hsw hbw hn
  go_enter Try.func43, Try.ntmps43
  go_wp2_with fail
  go_region_law ((refine step_append_in _ rfl _ _ 83 (by rfl) 0 63 iw 6 Try.underlying83 Hiw.out Hsw.out b k c _ (by rfl) HT.out ad (n - (k + 1)) (c - (k + 1)) _ (by rfl) HNl.out HN2.out HN1.out (by omega) ?_); intro w3 ha)
  all_goals
    obtain ⟨r, hr⟩ : ∃ r, k + (n - (k + 1)) = r := ⟨_, rfl⟩
    have hrn : r + 1 = n := by omega
    have Hr := Lib.hid hr
    have ha0 := ha
    rw [mlC_take] at ha0
    have hth : w3.there b (r * 6) ((n - r) * 6) := own_there_cap ha.own _ _ (by omega)
    have Hth := Lib.hid hth
    have Ha := Lib.hid ha0
    have hrn1 : r ≤ n := by omega
    have hrn2 : (r : Int) ≤ (n : Int) := by omega
    have hrc : r ≤ c := by omega
    have hcr : ¬ c = r := by omega
    clear ha ha0 hth had HT HN2 HNl HN1 hto h00 hle hkn hkc hk1n hk1c hne
    simp only [hr]
    clear hr
    have hz1 : ∀ u ∈ (Value.agg #[.int .i64 0, .int .i64 0, .int .i64 0, .int .u64 0, .int .i64 0, .slice none 0 0]).cells, u.oneCell' = true := by
      intro u hu
      simp [Value.cells] at hu
      rcases hu with rfl | rfl | rfl | rfl <;> rfl
    have hvs : (Builtin.zeroCells (Value.agg #[.int .i64 0, .int .i64 0, .int .i64 0, .int .u64 0, .int .i64 0, .slice none 0 0]).cells (n - r)).toList.length = 6 := by
      have e : n - r = 1 := by omega
      rw [e]; simp [Builtin.zeroCells, Value.cells]
    have Hvs := Lib.hid hvs
    have Hz1 := Lib.hid hz1
    clear hvs hz1
    obtain ⟨vs, hvv⟩ : ∃ vs, vs = (Builtin.zeroCells (Value.agg #[.int .i64 0, .int .i64 0, .int .i64 0, .int .u64 0, .int .i64 0, .slice none 0 0]).cells (n - r)).toList := ⟨_, rfl⟩
    obtain ⟨w4, hw4⟩ : ∃ w4, w4 = w3.setCells b (r * 6) vs := ⟨_, rfl⟩
    have hrow := cutRowS (w4 := w4) Hn.out hk hnc Ha.out r Hr.out vs (by rw [hvv]; exact Hvs.out) hw4
    have HR := Lib.hid hrow
    have Hvv := Lib.hid hvv
    have Hw4 := Lib.hid hw4
    clear hvv hw4 hrow
    go_wp2_with ((refine wpList_clear_in rfl _ 83 rfl 63 iw _ Try.underlying83 Hiw.out Hzw.out Hz1.out b (r * 6) (n - r) (c - r) (by omega) (by rfl) Hth.out ?_); rw [← Hvv.out, ← Hw4.out])
    go_ret
    obtain ⟨h1, h2, h3⟩ := HR.out
    rw [h3]
    exact ⟨rfl, h1, (Kp.drew _ _).trans h2⟩
section
variable {w : World} {col : Nat → Nat} {g N n sn sc rc : Nat} {A R : Option Addr} {np : Nat → Np} {es : List Mle} {r : Ro}
theorem st6S (w : World) (g : Nat) (a b c d e f : Value) : Kp (fun k => k = g) w ((((((w.setCell ⟨g, 0, none⟩ a).setCell ⟨g, 1, none⟩ b).setCell ⟨g, 2, none⟩ c).setCell ⟨g, 3, none⟩ d).setCell ⟨g, 4, none⟩ e).setCell ⟨g, 5, none⟩ f) := Kp.sets (F := fun k => k = g) rfl [a, b, c, d, e, f] 0 w
theorem Bk.s6S {w : World} {g : Nat} {t : TypeId} {a0 b0 c0 d0 e0 f0 : Value} (h : Bk w g t #[a0, b0, c0, d0, e0, f0]) (a b c d e f : Value) : Bk ((((((w.setCell ⟨g, 0, none⟩ a).setCell ⟨g, 1, none⟩ b).setCell ⟨g, 2, none⟩ c).setCell ⟨g, 3, none⟩ d).setCell ⟨g, 4, none⟩ e).setCell ⟨g, 5, none⟩ f) g t #[a, b, c, d, e, f] := by
  have := ((((((h.set_ 0 a).set_ 1 b).set_ 2 c).set_ 3 d).set_ 4 e).set_ 5 f)
  simpa using this
/-- A letter that was cut out. -/
def CutS (w : World) (col : Nat → Nat) (g N n : Nat) (r : Ro) (k : Nat) (e : Ending) (w' : World) : Prop :=
  ∃ sA sN sC vs, e = .returned (mlV (r.at_ k) (sA, sN, sC)) ∧ VsS w' col (sA, sN, sC) vs ∧ (r.at_ k).votes = vs.map (·.1) ∧ RoM w' col g N n (r.cut k) ∧ Cl col col w w'
theorem map_erase {α β : Type} (f : α → β) (l : List α) (k : Nat) : (l.eraseIdx k).map f = (l.map f).eraseIdx k := by
  induction l generalizing k with
  | nil => rfl
  | cons x r ih => cases k with
    | zero => rfl
    | succ k => simp [ih]
set_option maxRecDepth 100000 in
set_option maxHeartbeats 4000000 in
theorem rcut_any (h : RoC w col g N n A sn sc R rc np es r) (k : Nat) (hk : k < r.row.length) : Calls Try.prog 34 #[.pointer (some ⟨g, 6, none⟩), .int .i64 (k : Int)] w (CutS w col g N n r k) := by
  have hel := h.elen
  have hke : k < es.length := by omega
  obtain ⟨b, rfl, hnc, hcm, q0, q1, q2, q3, q4, q5⟩ := h.letter k hke
  have hat : r.at_ (k : Int) = es[k].1 := by
    unfold Ro.at_
    rw [← h.eq]
    simp [List.getD, hke]
  have heach := h.each _ (List.getElem_mem hke)
  have hbc : col b = 3 := h.cR b rfl
  have hlt := h.lt
  have hcut : r.cut k = { r with row := (es.eraseIdx k).map (·.1) } := by unfold Ro.cut; rw [map_erase, h.eq]
  have hok := h.ok.cut k
  obtain ⟨⟨m, ⟨sA, sN, sC⟩, vs⟩, hek⟩ : ∃ x, es[k] = x := ⟨_, rfl⟩
  rw [hek] at q0 q1 q2 q3 q4 q5 hat heach
  dsimp only at q0 q1 q2 q3 q4 q5 hat heach
  have c6 : w.cell? ⟨g, 6, none⟩ = some (.slice (some ⟨b, 0, none⟩) es.length rc) := h.bk.cell 6
  -- ahead of the cut
  obtain ⟨W1, hW1⟩ : ∃ W1, W1 = w.alloc (.cells #[.int .i64 0, .int .i64 0, .int .i64 0, .int .u64 0, .int .i64 0, .slice none 0 0] 63) := ⟨_, rfl⟩
  obtain ⟨W2, hW2⟩ : ∃ W2, W2 = W1.alloc (.cells #[.int .i64 (m.kind : Int), .int .i64 (m.frm : Int), .int .i64 (m.dst : Int), .int .u64 (m.bal.n : Int), .int .i64 m.bal.node, .slice sA sN sC] 63) := ⟨_, rfl⟩
  have hb1 : Below w.heap.size w W1 := by rw [hW1]; exact bel1P _
  have hb2 : Below W1.heap.size W1 W2 := by rw [hW2]; exact bel1P _
  have hs1 : W1.heap.size = w.heap.size + 1 := by rw [hW1]; simp
  have hs2 : W2.heap.size = W1.heap.size + 1 := by rw [hW2]; simp
  have hb12 := below_then hb1 hb2
  have hz : Bk W2 w.heap.size 63 #[.int .i64 0, .int .i64 0, .int .i64 0, .int .u64 0, .int .i64 0, .slice none 0 0] := by
    have : Bk W1 w.heap.size 63 #[.int .i64 0, .int .i64 0, .int .i64 0, .int .u64 0, .int .i64 0, .slice none 0 0] := by rw [hW1]; exact Bk.new w _ _
    exact this.below hb2 this.lt
  have hmk : Bk W2 (w.heap.size + 1) 63 #[.int .i64 (m.kind : Int), .int .i64 (m.frm : Int), .int .i64 (m.dst : Int), .int .u64 (m.bal.n : Int), .int .i64 m.bal.node, .slice sA sN sC] := by
    have := Bk.new W1 63 #[.int .i64 (m.kind : Int), .int .i64 (m.frm : Int), .int .i64 (m.dst : Int), .int .u64 (m.bal.n : Int), .int .i64 m.bal.node, .slice sA sN sC]
    rw [← hW2, hs1] at this
    exact this
  have h2 := h.below hb12
  have HD := Lib.hid (fun (W : World) (hb : Below W2.heap.size W2 W) => delete_any (h2.below hb).row rfl hke hnc)
  have HR : Hid (∀ W w3, Below W2.heap.size W2 W → w3.ownsRow 0 63 6 (.slice (some ⟨b, 0, none⟩) (es.eraseIdx k).length rc) (es.eraseIdx k).length (mlC (es.eraseIdx k)) → Kp (fun j => j = b) W w3 →
      RoC (w3.setCell ⟨g, 6, none⟩ (.slice (some ⟨b, 0, none⟩) (es.eraseIdx k).length rc)) col g N n A sn sc (some ⟨b, 0, none⟩) rc np (es.eraseIdx k) (r.cut k) ∧ Cl col col w (w3.setCell ⟨g, 6, none⟩ (.slice (some ⟨b, 0, none⟩) (es.eraseIdx k).length rc)) ∧
      w3.cell? ⟨g, 6, none⟩ = some (.slice (some ⟨b, 0, none⟩) es.length rc) ∧ w3.frozen? ⟨g, 6, none⟩ = false ∧ Kp (fun j => j = b ∨ j = g) W2 (w3.setCell ⟨g, 6, none⟩ (.slice (some ⟨b, 0, none⟩) (es.eraseIdx k).length rc))) := Lib.hid fun W w3 hbW hrow hk3 => by
    have hbw := below_then hb12 hbW
    have hk4 : Kp (fun k => k = g) w3 (w3.setCell ⟨g, 6, none⟩ (.slice (some ⟨b, 0, none⟩) (es.eraseIdx k).length rc)) := Kp.set_ (F := fun k => k = g) (p := ⟨g, 6, none⟩) rfl _
    have hbk := (h.bk.below hbw h.bk.lt).kp hk3 (fun e => by rw [← e, h.cg] at hbc; cases hbc)
    have hk : Kp (fun k => col k = 3 ∨ k = g) w (w3.setCell ⟨g, 6, none⟩ (.slice (some ⟨b, 0, none⟩) (es.eraseIdx k).length rc)) := ((Kp.of_below hbw).trans (hk3.mono fun k e => .inl (by rw [e]; exact hbc))).trans (hk4.mono fun k e => .inr e)
    have hsz := hk.size
    have q := h.rowTurn (col' := col) (R' := some ⟨b, 0, none⟩) (rc' := rc) (es' := es.eraseIdx k) (r' := r.cut k) hk (fun _ _ => rfl) (fun k hk => Nat.lt_of_lt_of_le (hlt k hk) hsz) (hbk.set_ 6 _)
      (own_kp hrow hk4 fun k e e2 => (own_not_bkS hbk hrow (by decide) k e) e2) (fun k e => h.cR k e) (fun e he => by
        have he' := (List.eraseIdx_sublist _ _).subset he
        refine ⟨(h.each e he').1.kp hk (fun k e e2 => ?_), (h.each e he').2⟩
        rcases e2 with e2 | e2
        · omega
        · rw [e2, h.cg] at e; cases e) hcut hok
    exact ⟨q.1, q.2, hbk.cell 6, hbk.frozen 6, ((Kp.of_below hbW).trans (hk3.mono fun k e => .inl e)).trans (hk4.mono fun k e => .inr e)⟩
  have HV := Lib.hid heach
  have HZ := Lib.hid hz
  have HM := Lib.hid hmk
  have HW1 := Lib.hid hW1
  have HW2 := Lib.hid hW2
  have HX : Hid (w.heap.size ≠ b ∧ w.heap.size ≠ g ∧ w.heap.size + 1 ≠ b ∧ w.heap.size + 1 ≠ g) := Lib.hid (by
    have := hlt b (by omega)
    have := h.bk.lt
    omega)
  have H4 : Hid (∀ k, col k = 4 → k ≠ b ∧ k ≠ g ∧ k < w.heap.size) := Lib.hid fun k e => ⟨fun e2 => by rw [e2] at e; omega, fun e2 => by rw [e2, h.cg] at e; omega, hlt k (by omega)⟩
  have HB12 := Lib.hid hb12
  have HL := Lib.hid hlt
  have d6 : W2.cell? ⟨g, 6, none⟩ = some (.slice (some ⟨b, 0, none⟩) es.length rc) := (hb12.cell (p := ⟨g, 6, none⟩) h.bk.lt).trans c6
  have hbl := hlt b (by omega)
  have p0 := (hb1.cell (p := ⟨b, k * 6, none⟩) hbl).trans q0
  have p1 := (hb1.cell (p := ⟨b, k * 6 + 1, none⟩) hbl).trans q1
  have p2 := (hb1.cell (p := ⟨b, k * 6 + 2, none⟩) hbl).trans q2
  have p3 := (hb1.cell (p := ⟨b, k * 6 + 3, none⟩) hbl).trans q3
  have p4 := (hb1.cell (p := ⟨b, k * 6 + 4, none⟩) hbl).trans q4
  have p5 := (hb1.cell (p := ⟨b, k * 6 + 5, none⟩) hbl).trans q5
  have p6 := (hb1.cell (p := ⟨g, 6, none⟩) h.bk.lt).trans c6
  have hkn : (k : Int) < (es.length : Int) := by omega
  have hwr : IntKind.i64.wrap ((k : Int) + 1) = (k : Int) + 1 := by have := h.ok.most; rw [IntKind.wrap_i64]; omega
  have Hat := Lib.hid hat
  clear h h2 hb1 hb2 hb12 hz hmk hW1 hW2 heach q0 q1 q2 q3 q4 q5 hlt hcut hok hbc hbl hs2 c6 hek hel
  generalize es.length = L at *
  go_enter Try.func34, Try.ntmps34
  go_upto_region 1 with (fail)
  rw [← HW1.out]
  go_upto_region 2 with (fail)
  rw [← HW2.out]
  clear p0 p1 p2 p3 p4 p5 p6
  go_wp2_with fail
  refine (HD.out _ (Below.refl _ _)).mono ?_
  rintro e w3 ⟨rfl, hrow, hk3⟩
  obtain ⟨hT, hC, g6, g6f, hkF⟩ := HR.out _ _ (Below.refl _ _) hrow hk3
  have HT := Lib.hid hT
  have HC := Lib.hid hC
  have HK := Lib.hid hkF
  clear hrow hk3 hT hC hkF HD HR d6
  go_upto_region 3 with (fail)
  obtain ⟨w4, hw4⟩ : ∃ w4, w4 = w3.setCell ⟨g, 6, none⟩ (.slice (some ⟨b, 0, none⟩) (es.eraseIdx k).length rc) := ⟨_, rfl⟩
  rw [← hw4] at HT HC HK ⊢
  clear hw4
  obtain ⟨x1, x2, x3, x4⟩ := HX.out
  have hz4 := HZ.out.kp HK.out (by rintro (e | e); exact x1 e; exact x2 e)
  have hm4 := HM.out.kp HK.out (by rintro (e | e); exact x3 e; exact x4 e)
  have z0 : w4.cell? ⟨w.heap.size, 0, none⟩ = some (.int .i64 0) := hz4.cell 0
  have z1 : w4.cell? ⟨w.heap.size, 1, none⟩ = some (.int .i64 0) := hz4.cell 1
  have z2 : w4.cell? ⟨w.heap.size, 2, none⟩ = some (.int .i64 0) := hz4.cell 2
  have z3 : w4.cell? ⟨w.heap.size, 3, none⟩ = some (.int .u64 0) := hz4.cell 3
  have z4 : w4.cell? ⟨w.heap.size, 4, none⟩ = some (.int .i64 0) := hz4.cell 4
  have z5 : w4.cell? ⟨w.heap.size, 5, none⟩ = some (.slice none 0 0) := hz4.cell 5
  have f0 := hz4.frozen 0
  have f1 := hz4.frozen 1
  have f2 := hz4.frozen 2
  have f3 := hz4.frozen 3
  have f4 := hz4.frozen 4
  have f5 := hz4.frozen 5
  have m0 : w4.cell? ⟨w.heap.size + 1, 0, none⟩ = some (.int .i64 (m.kind : Int)) := hm4.cell 0
  have m1 : w4.cell? ⟨w.heap.size + 1, 1, none⟩ = some (.int .i64 (m.frm : Int)) := hm4.cell 1
  have m2 : w4.cell? ⟨w.heap.size + 1, 2, none⟩ = some (.int .i64 (m.dst : Int)) := hm4.cell 2
  have m3 : w4.cell? ⟨w.heap.size + 1, 3, none⟩ = some (.int .u64 (m.bal.n : Int)) := hm4.cell 3
  have m4 : w4.cell? ⟨w.heap.size + 1, 4, none⟩ = some (.int .i64 m.bal.node) := hm4.cell 4
  have m5 : w4.cell? ⟨w.heap.size + 1, 5, none⟩ = some (.slice sA sN sC) := hm4.cell 5
  go_wp2
  have hkk := st6S w4 w.heap.size (.int .i64 (m.kind : Int)) (.int .i64 (m.frm : Int)) (.int .i64 (m.dst : Int)) (.int .u64 (m.bal.n : Int)) (.int .i64 m.bal.node) (.slice sA sN sC)
  have hk6 := hz4.s6S (.int .i64 (m.kind : Int)) (.int .i64 (m.frm : Int)) (.int .i64 (m.dst : Int)) (.int .u64 (m.bal.n : Int)) (.int .i64 m.bal.node) (.slice sA sN sC)
  generalize (((((w4.setCell ⟨w.heap.size, 0, none⟩ (.int .i64 (m.kind : Int))).setCell ⟨w.heap.size, 1, none⟩ (.int .i64 (m.frm : Int))).setCell ⟨w.heap.size, 2, none⟩ (.int .i64 (m.dst : Int))).setCell ⟨w.heap.size, 3, none⟩ (.int .u64 (m.bal.n : Int))).setCell ⟨w.heap.size, 4, none⟩ (.int .i64 m.bal.node)).setCell ⟨w.heap.size, 5, none⟩ (.slice sA sN sC) = w5 at *
  have j0 : w5.cell? ⟨w.heap.size, 0, none⟩ = some (.int .i64 (m.kind : Int)) := hk6.cell 0
  have j1 : w5.cell? ⟨w.heap.size, 1, none⟩ = some (.int .i64 (m.frm : Int)) := hk6.cell 1
  have j2 : w5.cell? ⟨w.heap.size, 2, none⟩ = some (.int .i64 (m.dst : Int)) := hk6.cell 2
  have j3 : w5.cell? ⟨w.heap.size, 3, none⟩ = some (.int .u64 (m.bal.n : Int)) := hk6.cell 3
  have j4 : w5.cell? ⟨w.heap.size, 4, none⟩ = some (.int .i64 m.bal.node) := hk6.cell 4
  have j5 : w5.cell? ⟨w.heap.size, 5, none⟩ = some (.slice sA sN sC) := hk6.cell 5
  have hout : ∀ k, col k ≠ 0 → ¬ k = w.heap.size := fun k e e2 => by
    have := HL.out k e
    omega
  have hT5 := HT.out.kp hkk hout
  have hC5 : Cl col col w w5 := ⟨HC.out.kp.trans' hkk fun k e => .inr (by omega), fun _ _ => rfl⟩
  have hv5 : VsS w5 col (sA, sN, sC) vs := (((HV.out.1.kp (G := fun _ => False) (Kp.of_below HB12.out) (fun _ _ h => h)).kp HK.out (fun k e e2 => by
    have := H4.out k e
    rcases e2 with e2 | e2
    · exact this.1 e2
    · exact this.2.1 e2))).kp hkk (fun k e e2 => by have := (H4.out k e).2.2; omega)
  have HT5 := Lib.hid hT5
  have HC5 := Lib.hid hC5
  have HV5 := Lib.hid hv5
  refine bodyPost_ret (by simp [results, Try.results34, go_sem, j0, j1, j2, j3, j4, j5]; try rfl) rfl ?_
  exact ⟨sA, sN, sC, vs, by rw [hat]; rfl, HV5.out, by rw [hat]; exact HV.out.2, HT5.out.m, HC5.out⟩
end
end Go.Proofs.Ytjapmolmgfaocaa

/- The program's room: a node's votes; a letter 4 that comes. -/
namespace Go.Proofs.Ytjapmolmgfaocaa
open Go.RowKit Go.Maps

theorem infoVoteS : (Try.prog.info? 46).map (fun i => (i.zero, i.size, i.bytes)) = some (some (.agg #[.int .u64 0, .int .u64 0, .int .i64 0, .slice none 0 0]), 4, 48) := by kernel_rfl
def bVts (parts : Array (Nat × Value)) : Sem Value := Instr.buildSlice 51 1 parts
theorem bVts_eq (parts : Array (Nat × Value)) : Instr.buildSlice 51 1 parts = bVts parts := rfl
theorem run_bVts (a b c d : Value) (W : World) : (bVts #[(0, .agg #[a, b, c, d])]).run Try.prog W = .ok (.slice (some ⟨W.heap.size, 0, none⟩) 1 1) (W.alloc (.cells #[a, b, c, d] 46)) := by
  obtain ⟨iw, hiw, hzw, hsw, hbw⟩ := info_parts infoVoteS
  exact run_buildSlice_one (P := Try.prog) Try.underlying51 hiw hzw hsw (by rfl) (by omega) (by omega) (.agg #[a, b, c, d]) rfl W
theorem Vt.One.num {v : Vt} {n : Nat} (h : v.One n) : v.Num := ⟨by rw [h.slot]; omega, by have := h.bal.n1; omega⟩
/-- One vote that was made just now. -/
theorem VsS.one {w : World} {col col' : Nat → Nat} {s : S3} {v : Vt} {n : Nat} (hs : RdS w col s v.val) (hv : v.One n) (hn : n ≤ 12) (hc : ∀ k, k < w.heap.size → col' k = col k) (h4 : col' w.heap.size = 4) :
    VsS (w.alloc (.cells #[.int .u64 (v.slot : Int), .int .u64 (v.bal.n : Int), .int .i64 v.bal.node, .slice s.1 s.2.1 s.2.2] 46)) col' (some ⟨w.heap.size, 0, none⟩, 1, 1) [(v, s)] := by
  have hk := Bk.new w 46 #[.int .u64 (v.slot : Int), .int .u64 (v.bal.n : Int), .int .i64 v.bal.node, .slice s.1 s.2.1 s.2.2]
  refine ⟨rfl, ⟨Nat.le_refl _, (by decide : (1 : Nat) ≤ 9223372036854775807)⟩, fun _ => ⟨w.heap.size, 0, rfl, h4, hk.lt, fun i hi => ?_⟩, fun e he => ?_⟩
  · have : i = 0 := by simp at hi; omega
    subst this
    exact ⟨hk.cell 0, hk.cell 1, hk.cell 2, hk.cell 3⟩
  · rw [List.mem_singleton] at he
    subst he
    refine ⟨hs.cap.1, hs.cap.2, ?_, hv.num, hv.bal.ok hn⟩
    have h2 : RdG w (fun k => col k = 4 ∧ k < w.heap.size) s.1 s.2.1 v.val := ⟨hs.rd.1, fun h0 => by obtain ⟨b, o, e, q1, q2, q3⟩ := hs.rd.2 h0; exact ⟨b, o, e, ⟨q1, q2⟩, q2, q3⟩⟩
    exact (h2.below (bel1P _)).mono fun k e => (hc k e.2).trans e.1
section
variable {w : World} {col : Nat → Nat} {g N n sn sc rc : Nat} {A R : Option Addr} {np : Nat → Np} {es : List Mle} {r : Ro}
def VotesS (w : World) (col : Nat → Nat) (g N n : Nat) (r : Ro) (l : List Vt) (e : Ending) (w' : World) : Prop :=
  ∃ B k c vs col', e = .returned (.slice B k c) ∧ VsS w' col' (B, k, c) vs ∧ l = vs.map (·.1) ∧ RoM w' col' g N n r ∧ Cl col col' w w'
attribute [local go_sem ↓] bVts_eq
attribute [local go_sem] run_bVts
set_option maxRecDepth 100000 in
set_option maxHeartbeats 2000000 in
theorem nvotes_any (h : RoC w col g N n A sn sc R rc np es r) (i : Nat) (hi : i < n) : Calls Try.prog 47 #[.pointer (some ⟨N, i * 13, none⟩)] w (VotesS w col g N n r (r.node i).votes) := by
  have hx := h.ok.nodes _ (Ro.node_mem (r := r) (i := i) (by rw [h.nlen]; exact hi))
  have c2 : w.cell? ⟨N, i * 13 + 2, none⟩ = some (.int .u64 ((r.node i).vote.slot : Int)) := h.nds.cell (k := 2) hi (by omega)
  by_cases hs : (r.node i).vote.slot = 1
  · have hv : (r.node i).vote.One r.q.n := by
      rcases hx.vote with e | e
      · rw [e] at hs; cases hs
      · exact e
    have hvs : (r.node i).votes = [(r.node i).vote] := by unfold Nd.votes; rw [if_pos hs]
    rw [hvs]
    have c3 : w.cell? ⟨N, i * 13 + 3, none⟩ = some (.int .u64 ((r.node i).vote.bal.n : Int)) := h.nds.cell (k := 3) hi (by omega)
    have c4 : w.cell? ⟨N, i * 13 + 4, none⟩ = some (.int .i64 (r.node i).vote.bal.node) := h.nds.cell (k := 4) hi (by omega)
    have c5 : w.cell? ⟨N, i * 13 + 5, none⟩ = some (s3V (np i).v) := h.nds.cell (k := 5) hi (by omega)
    have h0 := h.vv i hi
    obtain ⟨W1, hW1⟩ : ∃ W1, W1 = w.alloc (.cells #[.int .u64 ((r.node i).vote.slot : Int), .int .u64 ((r.node i).vote.bal.n : Int), .int .i64 (r.node i).vote.bal.node, .slice (np i).v.1 (np i).v.2.1 (np i).v.2.2] 46) := ⟨_, rfl⟩
    have hb : Below w.heap.size w W1 := by rw [hW1]; exact bel1P _
    have hz : W1.heap.size = w.heap.size + 1 := by rw [hW1]; simp
    have HV : Hid (VsS W1 (colN col w W1) (some ⟨w.heap.size, 0, none⟩, 1, 1) [((r.node i).vote, (np i).v)] ∧ RoM W1 (colN col w W1) g N n r ∧ Cl col (colN col w W1) w W1) := Lib.hid (by
      have q := h.newB hb
      refine ⟨?_, q.1.m, q.2⟩
      have := VsS.one (col' := colN col w W1) h0 hv h.ok.n12 (colN_old col w W1) (colN_new (Nat.le_refl _) (by omega))
      rw [← hW1] at this
      exact this)
    have HW := Lib.hid hW1
    generalize r.node i = X at *
    obtain ⟨pr, ⟨vs, ⟨vb, vd⟩, vl⟩, sn', po, bl, ow, le, kn⟩ := X
    unfold s3V at c5
    dsimp only at *
    subst hs
    clear h h0 hx hv hW1 hb hz hvs
    go_enter Try.func47, Try.ntmps47
    go_wp2
    go_ret
    have hw : W1 = w.alloc (.cells #[.int .u64 1, .int .u64 (vb : Int), .int .i64 vd, .slice (np i).v.1 (np i).v.2.1 (np i).v.2.2] 46) := HW.out
    rw [← hw]
    exact ⟨_, 1, 1, _, _, rfl, HV.out.1, rfl, HV.out.2.1, HV.out.2.2⟩
  · have hvs : (r.node i).votes = [] := by unfold Nd.votes; rw [if_neg hs]
    rw [hvs]
    have HD := Lib.hid h
    have hs1 : ¬ (((r.node i).vote.slot : Nat) : Int) = 1 := by omega
    generalize (r.node i).vote.slot = sl at *
    clear h hx hvs
    go_enter Try.func47, Try.ntmps47
    go_wp2
    go_ret
    exact ⟨none, 0, 0, [], col, rfl, VsS.nil _ _, rfl, HD.out.m, Cl.refl _ _⟩
/-- The numbers behind a proposer's call, and what else was made from s1 up to s2. -/
noncomputable def colX (col : Nat → Nat) (s0 : Nat) (F' : Nat → Prop) (i s1 s2 : Nat) : Nat → Nat := fun k =>
  haveI := Classical.propDecidable (F' k)
  if k < s0 then col k else if F' k then 5 + i else if s1 ≤ k ∧ k < s2 then 4 else 0
theorem colX_old (col : Nat → Nat) (s0 : Nat) (F' : Nat → Prop) (i s1 s2 : Nat) : ∀ k, k < s0 → colX col s0 F' i s1 s2 k = col k := fun k hk => by unfold colX; rw [if_pos hk]
theorem colX_f {col : Nat → Nat} {s0 : Nat} {F' : Nat → Prop} {i s1 s2 k : Nat} (hf : F' k) (hk : k < s0 → col k = 5 + i) : colX col s0 F' i s1 s2 k = 5 + i := by
  unfold colX
  split
  · exact hk (by assumption)
  · first | rfl | (rw [if_pos hf])
theorem colX_4 {col : Nat → Nat} {s0 : Nat} {F' : Nat → Prop} {i s1 s2 k : Nat} (hf : ¬ F' k) (h0 : s0 ≤ k) (h1 : s1 ≤ k) (h2 : k < s2) : colX col s0 F' i s1 s2 k = 4 := by
  unfold colX
  rw [if_neg (by omega), if_neg hf, if_pos ⟨h1, h2⟩]
theorem colX_lt {col : Nat → Nat} {s0 : Nat} {F' : Nat → Prop} {i s1 s2 B : Nat} (hl : ∀ k, col k ≠ 0 → k < B) (hf : ∀ k, F' k → k < B) (h2 : s2 ≤ B) : ∀ k, colX col s0 F' i s1 s2 k ≠ 0 → k < B := fun k hk => by
  unfold colX at hk
  split at hk
  · exact hl k hk
  split at hk
  · exact hf k (by assumption)
  split at hk
  · omega
  · exact absurd rfl hk
theorem RdS.of_own {w : World} {col : Nat → Nat} {B c : Nat} {A : Option Addr} {l : List UInt8} (ho : w.ownsRow B 5 1 (.slice A l.length c) l.length (u8s l)) (h4 : ∀ k, (Value.slice A l.length c).ownBlock = some k → col k = 4) : RdS w col (A, l.length, c) l := by
  obtain ⟨A', c', e, h1, h2⟩ := own_shape ho
  injection e with e1 e2 e3
  subst e1 e3
  unfold maxLen at h2
  refine ⟨⟨h1, by show c ≤ _; omega⟩, rfl, fun hn => ?_⟩
  obtain ⟨b, o, e, hb, hc⟩ := (Rd.of_own ho).2 hn
  subst e
  rcases ho.2 with ⟨h', _⟩ | ⟨g', cap, cur, hv, _⟩
  · cases h'
  · injection hv with q1
    injection q1 with q1
    injection q1 with q1 q2
    subst q1 q2
    exact ⟨b, 0, rfl, h4 b rfl, hb, hc⟩
/-- A node's proposer turned, and what is new is told. -/
theorem RoC.pturn {w3 : World} {F' : Nat → Prop} {s1 s2 : Nat} (h : RoC w col g N n A sn sc R rc np es r) {i : Nat} (hi : i < n) (hk : Kp (fun k => col k = 2 ∨ col k = 5 + i) w w3) {p : Pp} {gp : Nat} (hp : PPM w3 F' gp p) (hF : ∀ k, F' k → col k = 5 + i ∨ w.heap.size ≤ k) (hs2 : s2 ≤ w3.heap.size)
    {x : Nd} {y : Np} (hn : NdsM w3 N n (fun j => if j = i then ndC x y else ndC (r.node j) (np j))) (hx : x.Ok r.q) (e1 : x.vote = (r.node i).vote) (e2 : x.own = (r.node i).own) (e3 : y.v = (np i).v ∧ y.o = (np i).o) (hl : RdS w3 (colX col w.heap.size F' i s1 s2) y.l x.learned) (hxp : x.pro = some p) (hy : y.p = some gp) :
    RoM w3 (colX col w.heap.size F' i s1 s2) g N n (r.setN i x) ∧ Cl col (colX col w.heap.size F' i s1 s2) w w3 := by
  have h4 : ∀ k, col k = 4 → ¬ (col k = 2 ∨ col k = 5 + i) := fun k e => by omega
  have hsz := hk.size
  have hlt : ∀ k, colX col w.heap.size F' i s1 s2 k ≠ 0 → k < w3.heap.size := colX_lt (fun k hk => Nat.lt_of_lt_of_le (h.lt k hk) hsz) hp.lt hs2
  have hold := colX_old col w.heap.size F' i s1 s2
  have m4 : ∀ k, col k = 4 → colX col w.heap.size F' i s1 s2 k = 4 := fun k e => (hold k (h.lt k (by omega))).trans e
  obtain ⟨q1, q2⟩ := h.turn (y := y) (x := x) hi hold hlt hk hn hx (by rw [e1, e3.1]; exact ⟨(h.vv i hi).cap, ((h.vv i hi).rd.kp hk h4).mono m4⟩) (by rw [e2, e3.2]; exact ⟨(h.oo i hi).cap, ((h.oo i hi).rd.kp hk h4).mono m4⟩) hl
    (fun p' hp' => by
      rw [hxp] at hp'
      injection hp' with hp'
      subst hp'
      refine ⟨gp, hy, hp.mono (fun k hf => colX_f hf fun hk => ?_) fun k e => hlt k (by omega)⟩
      rcases hF k hf with h' | h'
      · exact h'
      · omega) (fun e => by rw [hxp] at e; cases e)
  exact ⟨q1.m, q2⟩
theorem Nd.count_no {x : Nd} {m : Ml} (h : x.pro = none ∨ Bl.eqB x.bal m.bal = false) : x.count m = x := by
  unfold Nd.count
  split
  · rfl
  · rename_i p hp
    rcases h with h | h
    · rw [h] at hp; cases hp
    · rw [if_pos h]
theorem Bl.eqB_iff {a b : Bl} : Bl.eqB a b = true ↔ a = b := by
  unfold Bl.eqB
  simp only [Bool.and_eq_true, decide_eq_true_eq]
  exact ⟨fun h => Bl.ext_ h.1 h.2, fun h => by rw [h]; exact ⟨rfl, rfl⟩⟩
theorem setN_same {r : Ro} {i : Nat} (h : i < r.nodes.length) : r.setN i (r.node i) = r := by
  unfold Ro.setN
  rw [Ro.node_get h, List.set_getElem_self]
set_option maxRecDepth 100000 in
set_option maxHeartbeats 4000000 in
theorem ncount_any (h : RoC w col g N n A sn sc R rc np es r) (i : Nat) (hi : i < n) (m : Ml) (s : S3) (hm : m.Ok r.q.n) : Calls Try.prog 49 #[.pointer (some ⟨N, i * 13, none⟩), mlV m s] w (NodeR w col g N n (r.setN i ((r.node i).count m)) (.tuple #[])) := by
  obtain ⟨sA, sN, sC⟩ := s
  have hin : i < r.nodes.length := by rw [h.nlen]; exact hi
  have hx := h.ok.nodes _ (Ro.node_mem (r := r) hin)
  obtain ⟨kd, fr, ds, ⟨mb, md⟩, vl⟩ := m
  unfold mlV
  dsimp only
  obtain ⟨W1, hW1⟩ : ∃ W1, W1 = w.alloc (.cells #[.int .i64 (kd : Int), .int .i64 (fr : Int), .int .i64 (ds : Int), .int .u64 (mb : Int), .int .i64 md, .slice sA sN sC] 63) := ⟨_, rfl⟩
  have hb0 : Below w.heap.size w W1 := by rw [hW1]; exact bel1P _
  have hkb : Bk W1 w.heap.size 63 #[.int .i64 (kd : Int), .int .i64 (fr : Int), .int .i64 (ds : Int), .int .u64 (mb : Int), .int .i64 md, .slice sA sN sC] := by rw [hW1]; exact Bk.new w _ _
  have k1 : W1.cell? ⟨w.heap.size, 1, none⟩ = some (.int .i64 (fr : Int)) := hkb.cell 1
  have k3 : W1.cell? ⟨w.heap.size, 3, none⟩ = some (.int .u64 (mb : Int)) := hkb.cell 3
  have k4 : W1.cell? ⟨w.heap.size, 4, none⟩ = some (.int .i64 md) := hkb.cell 4
  have h1 := h.below hb0
  obtain ⟨xb, hxb⟩ : ∃ xb, (r.node i).bal = xb := ⟨_, rfl⟩
  obtain ⟨bn, bd⟩ := xb
  have c8 : W1.cell? ⟨N, i * 13 + 8, none⟩ = some (.int .u64 (bn : Int)) := by rw [h1.nds.cell (k := 8) hi (by omega)]; show some (Value.int .u64 ((r.node i).bal.n : Int)) = _; rw [hxb]
  have c9 : W1.cell? ⟨N, i * 13 + 9, none⟩ = some (.int .i64 bd) := by rw [h1.nds.cell (k := 9) hi (by omega)]; show some (Value.int .i64 (r.node i).bal.node) = _; rw [hxb]
  have HW := Lib.hid hW1
  have HB := Lib.hid hb0
  by_cases hne : (r.node i).pro = none ∨ Bl.eqB (r.node i).bal ⟨mb, md⟩ = false
  · rw [Nd.count_no hne, setN_same hin]
    have hdiff : ¬ (bn = mb ∧ bd = md) := by
      rintro ⟨rfl, rfl⟩
      rcases hne with e | e
      · have := hx.nopro e
        rw [hxb] at this
        have h0 := hm.bal.n0
        injection this with e1
        dsimp only at h0
        omega
      · rw [hxb] at e
        have := Bl.eqB_iff.2 (rfl : (⟨bn, bd⟩ : Bl) = ⟨bn, bd⟩)
        rw [this] at e
        cases e
    have HD := Lib.hid h
    clear h h1 hx hm hW1 hb0 hkb hxb hne hin
    have hkey : ¬ ((bn : Int) = (mb : Int)) ∨ (bn = mb ∧ ¬ bd = md) := by
      by_cases e : bn = mb
      · exact .inr ⟨e, fun e2 => hdiff ⟨e, e2⟩⟩
      · exact .inl (by omega)
    clear hdiff
    rcases hkey with hk | ⟨rfl, hk⟩
    all_goals
      go_enter Try.func49, Try.ntmps49
      go_upto_region 1 with (fail)
      rw [← HW.out]
      go_wp2_with fail
      go_region
      go_wp2
      refine bodyPost_ret (by simp [results, Try.results49]; try rfl) rfl ?_
      exact ⟨rfl, col, (HD.out.below (HB.out.drew)).m, Cl.of_below (HB.out.drew)⟩
  · have hp : ∃ p, (r.node i).pro = some p := by
      cases e : (r.node i).pro with
      | none => exact absurd (.inl e) hne
      | some p => exact ⟨p, rfl⟩
    obtain ⟨p, hp⟩ := hp
    have hbe : Bl.eqB (r.node i).bal ⟨mb, md⟩ = true := by
      cases e : Bl.eqB (r.node i).bal ⟨mb, md⟩ with
      | true => rfl
      | false => exact absurd (.inr e) hne
    have hb2 : (r.node i).bal = ⟨mb, md⟩ := Bl.eqB_iff.1 hbe
    rw [hxb] at hb2
    injection hb2 with e1 e2
    subst e1 e2
    obtain ⟨gp, hgp, hP⟩ := h.pp i hi p hp
    have hok := hx.pro p hp
    have c7 : W1.cell? ⟨N, i * 13 + 7, none⟩ = some (.pointer (some ⟨gp, 0, none⟩)) := by rw [h1.nds.cell (k := 7) hi (by omega)]; show some (prV (np i).p) = _; rw [hgp]; rfl
    have hP1 := hP.below hb0
    -- Accepted
    have HA : Hid (∀ W, Below w.heap.size w W → Calls Try.prog 58 #[.pointer (some ⟨gp, 0, none⟩), .int .i64 (fr : Int), .int .u64 1] W fun e w' => ∃ F' z, e = .returned (.int .i64 z) ∧ PPM w' F' gp (p.accepted fr 1).2 ∧ Mv (fun k => col k = 5 + i) F' W w') := Lib.hid fun W hb => by
      obtain ⟨bt, bp, A', n', c', ts, ps, hq⟩ := hP.below hb
      refine (paccepted_any hq (fr : Int) 1 (by omega)).mono ?_
      rintro e w' ⟨F', rfl, q1, q2⟩
      exact ⟨F', _, rfl, q1, q2⟩
    have HC : Hid (∀ W F', PPM W F' gp (p.accepted fr 1).2 → Calls Try.prog 59 #[.pointer (some ⟨gp, 0, none⟩), .int .u64 1] W (GiveO ((p.accepted fr 1).2.chosen 1) W)) := Lib.hid fun W F' hq => by
      obtain ⟨bt, bp, A', n', c', ts, ps, hq⟩ := hq
      exact (pchosen_any hq 1 (by omega)).mono fun _ _ h => h.o
    have hcx := hx.count ⟨kd, fr, ds, ⟨bn, bd⟩, vl⟩
    have hcnt : (r.node i).count ⟨kd, fr, ds, ⟨bn, bd⟩, vl⟩ = (match (p.accepted fr 1).2.chosen 1 with
        | none => { r.node i with pro := some (p.accepted fr 1).2 }
        | some v => { r.node i with pro := some (p.accepted fr 1).2, learned := v, knows := true }) := by
      unfold Nd.count
      rw [hp]
      dsimp only
      rw [if_neg (by rw [hbe]; decide)]
      rfl
    rw [hcnt] at hcx
    have Hcnt := Lib.hid hcnt
    obtain ⟨p1, hp1⟩ : ∃ p1, (p.accepted fr 1).2 = p1 := ⟨_, rfl⟩
    rw [hp1] at HA HC hcx Hcnt
    have HD := Lib.hid h
    have HX := Lib.hid hgp
    have hg6 : Hid (Bk W1 w.heap.size 63 #[.int .i64 (kd : Int), .int .i64 (fr : Int), .int .i64 (ds : Int), .int .u64 (bn : Int), .int .i64 bd, .slice sA sN sC]) := Lib.hid hkb
    have HP := Lib.hid hp
    have hN7 : Hid (∀ W, Kp (fun k => col k = 5 + i) W1 W → NdsM W N n (fun i => ndC (r.node i) (np i))) := Lib.hid fun W hk => h1.nds.kp hk (by have := h.cN; omega)
    have Hcx := Lib.hid hcx
    clear h h1 hx hm hW1 hb0 hkb hxb hne hin hbe hgp hP hP1 hok hcx hcnt hp1 hp
    go_enter Try.func49, Try.ntmps49
    go_upto_region 1 with (fail)
    rw [← HW.out]
    go_wp2_with fail
    go_region
    have hBd : Below w.heap.size w W1.drew := HB.out.drew
    have d7 : W1.drew.cell? ⟨N, i * 13 + 7, none⟩ = some (.pointer (some ⟨gp, 0, none⟩)) := c7
    have d1 : W1.drew.cell? ⟨w.heap.size, 1, none⟩ = some (.int .i64 (fr : Int)) := k1
    have hNd : ∀ W, Kp (fun k => col k = 5 + i) W1.drew W → NdsM W N n (fun i => ndC (r.node i) (np i)) := fun W hk => hN7.out W ((Kp.drew _ W1).trans hk)
    have HBd := Lib.hid hBd
    have HNd := Lib.hid hNd
    clear hBd hNd c7 c8 c9 k1 k3 k4 hN7 HW HB hg6
    generalize W1.drew = Wd at *
    go_wp2_with fail
    go_still_tail 6, (by kernel_rfl)
    change wpList _ _ _ _ _ Wd.drew
    go_wp2_with fail
    refine (HA.out _ (HBd.out.drew)).mono ?_
    rintro e W2 ⟨F1, z, rfl, hP2, hM2⟩
    have hK2 : Kp (fun k => col k = 5 + i) Wd W2 := (Kp.drew _ Wd).trans hM2.kp
    have hn2 := HNd.out W2 hK2
    have c7' : W2.cell? ⟨N, i * 13 + 7, none⟩ = some (.pointer (some ⟨gp, 0, none⟩)) := by rw [hn2.cell (k := 7) hi (by omega)]; show some (prV (np i).p) = _; rw [HX.out]; rfl
    have HP2 := Lib.hid hP2
    have HN2 := Lib.hid hn2
    have HK2 := Lib.hid hK2
    have HF : Hid (∀ k, F1 k → col k = 5 + i ∨ w.heap.size ≤ k) := Lib.hid fun k hf => by
      rcases hM2.new k hf with h' | h'
      · exact .inl h'
      · exact .inr (Nat.le_trans HBd.out.size h')
    have HZ2 : Hid (w.heap.size ≤ W2.heap.size) := Lib.hid (Nat.le_trans HBd.out.size hK2.size)
    clear hP2 hM2 hK2 hn2 d7 d1 HNd HA
    go_wp2_with fail
    refine (HC.out _ _ HP2.out).mono ?_
    unfold GiveO
    cases hch : p1.chosen 1 with
    | none =>
      rintro e W3 ⟨A', c', rfl, ho, hb3⟩
      have hcx := Hcx.out
      have hcnt := Hcnt.out
      rw [hch] at hcx hcnt
      have HT : Hid (∃ col', RoM W3 col' g N n (r.setN i ((r.node i).count ⟨kd, fr, ds, ⟨bn, bd⟩, vl⟩)) ∧ Cl col col' w W3) := Lib.hid (by
        rw [hcnt]
        exact ⟨_, HD.out.pturn (w3 := W3) (F' := F1) (s1 := 0) (s2 := 0) (p := p1) (gp := gp) (x := { r.node i with pro := some p1 }) (y := np i) hi (((Kp.of_below HBd.out).trans' HK2.out fun k e => .inl (.inr e)).trans (Kp.of_below hb3)) (HP2.out.below hb3) HF.out (Nat.zero_le _) ((HN2.out.kp (G := fun _ => False) (Kp.of_below hb3) (fun h => h)).congr fun j k hj hk => by
          by_cases e : j = i
          · rw [if_pos e, e]
            rcases thirteen hk with rfl | rfl | rfl | rfl | rfl | rfl | rfl | rfl | rfl | rfl | rfl | rfl | rfl <;> rfl
          · rw [if_neg e]) hcx rfl rfl ⟨rfl, rfl⟩ (by
            have hl := HD.out.ll i hi
            refine ⟨hl.cap, (((hl.rd.below HBd.out).kp HK2.out fun k e e2 => by omega).below hb3).mono fun k e => ?_⟩
            exact (colX_old _ _ _ _ _ _ k (HD.out.lt k (by omega))).trans e) rfl HX.out⟩)
      clear ho hb3 hcx hcnt
      go_wp2
      go_end0
      exact ⟨rfl, HT.out⟩
    | some v =>
      rintro e W3 ⟨A', c', rfl, ho, hb3⟩
      have hcx := Hcx.out
      have hcnt := Hcnt.out
      rw [hch] at hcx hcnt
      have ho : W3.ownsRow W2.heap.size 5 1 (.slice A' v.length c') v.length (u8s v) := ho
      have hn3 := HN2.out.kp (G := fun _ => False) (Kp.of_below hb3) (fun h => h)
      have c11 := hn3.cell (k := 11) hi (by omega)
      have c12 := hn3.cell (k := 12) hi (by omega)
      have f11 := hn3.frozen (i * 13 + 11)
      have f12 := hn3.frozen (i * 13 + 12)
      have HT : Hid (∃ col', RoM ((W3.setCell ⟨N, i * 13 + 11, none⟩ (.slice A' v.length c')).setCell ⟨N, i * 13 + 12, none⟩ (.bool true)) col' g N n (r.setN i ((r.node i).count ⟨kd, fr, ds, ⟨bn, bd⟩, vl⟩)) ∧ Cl col col' w ((W3.setCell ⟨N, i * 13 + 11, none⟩ (.slice A' v.length c')).setCell ⟨N, i * 13 + 12, none⟩ (.bool true))) := Lib.hid (by
        rw [hcnt]
        have hkN : Kp (fun k => k = N) W3 ((W3.setCell ⟨N, i * 13 + 11, none⟩ (.slice A' v.length c')).setCell ⟨N, i * 13 + 12, none⟩ (.bool true)) := (Kp.set_ (F := fun k => k = N) (p := ⟨N, i * 13 + 11, none⟩) rfl _).trans (Kp.set_ (F := fun k => k = N) (p := ⟨N, i * 13 + 12, none⟩) rfl _)
        have hcN := HD.out.cN
        have hNl := HD.out.nds.lt
        have hFN : ∀ k, F1 k → ¬ k = N := fun k hf e => by
          rcases HF.out k hf with h' | h'
          · rw [e] at h'; omega
          · omega
        have hz2 := HZ2.out
        have hz4 : ((W3.setCell ⟨N, i * 13 + 11, none⟩ (.slice A' v.length c')).setCell ⟨N, i * 13 + 12, none⟩ (.bool true)).heap.size = W3.heap.size := by simp [World.setCell]
        refine ⟨_, HD.out.pturn (F' := F1) (s1 := W2.heap.size) (s2 := W3.heap.size) (p := p1) (gp := gp) (x := { r.node i with pro := some p1, learned := v, knows := true }) (y := { np i with l := (A', v.length, c') }) hi ((((Kp.of_below HBd.out).trans' HK2.out fun k e => .inl (.inr e)).trans (Kp.of_below hb3)).trans (hkN.mono fun k e => .inl (by rw [e]; exact hcN))) ((HP2.out.below hb3).kp hkN hFN) HF.out (by rw [hz4]; exact Nat.le_refl _) (((hn3.set_ (k := 11) hi (by omega) _).set_ (k := 12) hi (by omega) _).congr fun j k hj hk => ?_) hcx rfl rfl ⟨rfl, rfl⟩ ?_ rfl HX.out⟩
        · by_cases e : j = i
          · simp only [if_pos e]
            rcases thirteen hk with rfl | rfl | rfl | rfl | rfl | rfl | rfl | rfl | rfl | rfl | rfl | rfl | rfl <;> rfl
          · simp only [if_neg e]
        · refine RdS.of_own (own_kp ho hkN fun k e e2 => ?_) fun k e => ?_
          · have := (ho.lt k e).1
            omega
          · have h' := ho.lt k e
            exact colX_4 (fun hf => by have := HP2.out.lt k hf; omega) (by omega) h'.1 h'.2)
      clear ho hb3 hcx hcnt hn3 c7' HC HD HX HP Hcx HBd HP2 HN2 HK2 HF HZ2 Hcnt
      go_wp2
      go_end0
      exact ⟨rfl, HT.out⟩
end
end Go.Proofs.Ytjapmolmgfaocaa

/- The program's room: a letter 2 that comes. -/
namespace Go.Proofs.Ytjapmolmgfaocaa
open Go.RowKit Go.Maps

section
variable {w : World} {col : Nat → Nat} {g N n sn sc rc : Nat} {A R : Option Addr} {np : Nat → Np} {es : List Mle} {r : Ro}
/-- What gather leaves: the vote to ask for, if there is one. -/
def GatherS (w : World) (col : Nat → Nat) (g N n : Nat) (r : Ro) (o : Option Vt) (e : Ending) (w' : World) : Prop :=
  ∃ (sl bn : Nat) (bd : Int) (vA : Option Addr) (vn vc : Nat) (col' : Nat → Nat), e = .returned (.tuple #[.agg #[.int .u64 (sl : Int), .int .u64 (bn : Int), .int .i64 bd, .slice vA vn vc], .bool o.isSome]) ∧ RoM w' col' g N n r ∧ Cl col col' w w' ∧ ∀ v, o = some v → sl = v.slot ∧ bn = v.bal.n ∧ bd = v.bal.node ∧ RdS w' col' (vA, vn, vc) v.val
theorem Nd.gather_no {x : Nd} {m : Ml} (h : x.pro = none ∨ Bl.eqB x.bal m.bal = false) : x.gather m = (none, x) := by
  unfold Nd.gather
  split
  · rfl
  · rename_i p hp
    rcases h with h | h
    · rw [h] at hp; cases hp
    · rw [if_pos h]
theorem GatherS.none_ {w' : World} (h : RoC w col g N n A sn sc R rc np es r) (hk : Kp (fun k => k = w.heap.size ∨ k = w.heap.size + 1) w w') : GatherS w col g N n r none (.returned (.tuple #[.agg #[.int .u64 0, .int .u64 0, .int .i64 0, .slice none 0 0], .bool false])) w' :=
  ⟨0, 0, 0, none, 0, 0, col, rfl, (h.kp hk (fun k e e2 => by have := h.lt k e; omega)).m, ⟨(Kp.refl _ _).trans' hk (fun k e => .inr (by omega)), fun _ _ => rfl⟩, fun v e => by cases e⟩
/-- Behind Propose: the vote in a block of its own. -/
def GFin (W3 : World) (F1 : Nat → Prop) (gp : Nat) (p2 : Pp) (v : Vt) (gb : Nat) (vA : Option Addr) (vc : Nat) (F2 : Nat → Prop) (wx : World) : Prop :=
  Bk wx gb 46 #[.int .u64 (v.slot : Int), .int .u64 (v.bal.n : Int), .int .i64 v.bal.node, .slice vA v.val.length vc] ∧ PPM wx F2 gp p2 ∧ Mv F1 F2 W3 wx ∧ wx.ownsRow W3.heap.size 5 1 (.slice vA v.val.length vc) v.val.length (u8s v.val) ∧ ∀ k, (Value.slice vA v.val.length vc).ownBlock = some k → ¬ F2 k
def GRes (W W5 : World) (F1 : Nat → Prop) (gp : Nat) (p2 : Pp) (v : Vt) (vA : Option Addr) (vc : Nat) (F2 : Nat → Prop) : Prop :=
  W5.ownsRow W.heap.size 5 1 (.slice vA v.val.length vc) v.val.length (u8s v.val) ∧ PPM W5 F2 gp p2 ∧ Mv F1 F2 W W5 ∧ ∀ k, (Value.slice vA v.val.length vc).ownBlock = some k → ¬ F2 k
def gz : Obj := .cells #[.int .u64 0, .int .u64 0, .int .i64 0, .slice none 0 0] 46
theorem GRes.zero {Wd W5 : World} {F1 F2 : Nat → Prop} {gp vc : Nat} {p2 : Pp} {v : Vt} {vA : Option Addr} (h : GRes (Wd.alloc gz) W5 F1 gp p2 v vA vc F2) (hF : ∀ k, F1 k → k < Wd.heap.size) : Bk W5 Wd.heap.size 46 #[.int .u64 0, .int .u64 0, .int .i64 0, .slice none 0 0] ∧ ¬ F2 Wd.heap.size := by
  have hn := Bk.new Wd 46 #[.int .u64 0, .int .u64 0, .int .i64 0, .slice none 0 0]
  have hF2 : ¬ F1 Wd.heap.size := fun hf => by have := hF _ hf; omega
  refine ⟨hn.kp h.2.2.1.kp hF2, fun hf => ?_⟩
  rcases h.2.2.1.new _ hf with h' | h'
  · exact hF2 h'
  · have : (Wd.alloc gz).heap.size = Wd.heap.size + 1 := by simp
    omega
theorem GRes.finA {W3 Wd W5 : World} {F1 F2 : Nat → Prop} {gp vc : Nat} {p2 : Pp} {v : Vt} {vA : Option Addr} (h : GRes (Wd.alloc gz) W5 F1 gp p2 v vA vc F2) (hb : Below W3.heap.size W3 Wd) (hF : ∀ k, F1 k → k < Wd.heap.size) :
    GFin W3 F1 gp p2 v Wd.heap.size vA vc F2 ((((W5.setCell ⟨Wd.heap.size, 0, none⟩ (.int .u64 (v.slot : Int))).setCell ⟨Wd.heap.size, 1, none⟩ (.int .u64 (v.bal.n : Int))).setCell ⟨Wd.heap.size, 2, none⟩ (.int .i64 v.bal.node)).setCell ⟨Wd.heap.size, 3, none⟩ (.slice vA v.val.length vc)) := by
  obtain ⟨hz, hnf⟩ := h.zero hF
  obtain ⟨q1, q2, q3, q4⟩ := h
  have hs : (Wd.alloc gz).heap.size = Wd.heap.size + 1 := by simp
  have hk := st4P W5 Wd.heap.size (.int .u64 (v.slot : Int)) (.int .u64 (v.bal.n : Int)) (.int .i64 v.bal.node) (.slice vA v.val.length vc)
  have hb2 : Below W3.heap.size W3 (Wd.alloc gz) := below_then hb (bel1P _)
  have hsz := hb.size
  refine ⟨hz.s4P _ _ _ _, q2.kp hk fun k hf e => hnf (by rw [← e]; exact hf), ⟨((Kp.of_below hb2).trans q3.kp).trans' hk fun k e => .inr (by omega), fun k hf => ?_⟩, own_mono (own_kp q1 hk fun k e e2 => ?_) (by omega), q4⟩
  · rcases q3.new k hf with h' | h'
    · exact .inl h'
    · exact .inr (by omega)
  · have := (q1.lt k e).1
    omega
theorem GRes.finB {W3 Wd W5 : World} {F1 F2 : Nat → Prop} {gp vc : Nat} {p2 : Pp} {v : Vt} {vA : Option Addr} (h : GRes Wd W5 F1 gp p2 v vA vc F2) (hb : Below W3.heap.size W3 Wd) :
    GFin W3 F1 gp p2 v W5.heap.size vA vc F2 (W5.alloc (.cells #[.int .u64 (v.slot : Int), .int .u64 (v.bal.n : Int), .int .i64 v.bal.node, .slice vA v.val.length vc] 46)) := by
  obtain ⟨q1, q2, q3, q4⟩ := h
  have hsz := hb.size
  have hb5 : Below W5.heap.size W5 (W5.alloc (.cells #[.int .u64 (v.slot : Int), .int .u64 (v.bal.n : Int), .int .i64 v.bal.node, .slice vA v.val.length vc] 46)) := bel1P _
  refine ⟨Bk.new W5 _ _, q2.below hb5, ⟨((Kp.of_below hb).trans q3.kp).trans (Kp.of_below hb5), fun k hf => ?_⟩, own_mono (own_below q1 hb5 fun k e => (q1.lt k e).2) (by omega), q4⟩
  rcases q3.new k hf with h' | h'
  · exact .inl h'
  · exact .inr (by omega)
set_option maxRecDepth 100000 in
set_option maxHeartbeats 8000000 in
theorem ngather_any (h : RoC w col g N n A sn sc R rc np es r) (i : Nat) (hi : i < n) (m : Ml) (s : S3) (vs : List Vtr) (hm : m.Ok r.q.n) (hv : VsS w col s vs) (hvs : m.votes = vs.map (·.1)) : Calls Try.prog 48 #[.pointer (some ⟨N, i * 13, none⟩), mlV m s] w (GatherS w col g N n (r.setN i ((r.node i).gather m).2) ((r.node i).gather m).1) := by
  obtain ⟨sA, sN, sC⟩ := s
  have hin : i < r.nodes.length := by rw [h.nlen]; exact hi
  have hx := h.ok.nodes _ (Ro.node_mem (r := r) hin)
  obtain ⟨kd, fr, ds, ⟨mb, md⟩, vl⟩ := m
  unfold mlV
  dsimp only
  obtain ⟨W0, hW0⟩ : ∃ W0, W0 = w.alloc (.cells #[.int .i64 (kd : Int), .int .i64 (fr : Int), .int .i64 (ds : Int), .int .u64 (mb : Int), .int .i64 md, .slice sA sN sC] 63) := ⟨_, rfl⟩
  obtain ⟨W1, hW1⟩ : ∃ W1, W1 = W0.alloc (.cells #[.int .u64 0, .int .u64 0, .int .i64 0, .slice none 0 0] 46) := ⟨_, rfl⟩
  have hb00 : Below w.heap.size w W0 := by rw [hW0]; exact bel1P _
  have hb01 : Below W0.heap.size W0 W1 := by rw [hW1]; exact bel1P _
  have hs0 : W0.heap.size = w.heap.size + 1 := by rw [hW0]; simp
  have hs1 : W1.heap.size = w.heap.size + 2 := by rw [hW1, World.size_alloc, hs0]
  have hb0 := below_then hb00 hb01
  have hkb : Bk W1 w.heap.size 63 #[.int .i64 (kd : Int), .int .i64 (fr : Int), .int .i64 (ds : Int), .int .u64 (mb : Int), .int .i64 md, .slice sA sN sC] := by
    have : Bk W0 w.heap.size 63 #[.int .i64 (kd : Int), .int .i64 (fr : Int), .int .i64 (ds : Int), .int .u64 (mb : Int), .int .i64 md, .slice sA sN sC] := by rw [hW0]; exact Bk.new w _ _
    exact this.below hb01 this.lt
  have hkz : Bk W1 (w.heap.size + 1) 46 #[.int .u64 0, .int .u64 0, .int .i64 0, .slice none 0 0] := by
    have := Bk.new W0 46 #[.int .u64 0, .int .u64 0, .int .i64 0, .slice none 0 0]
    rw [← hW1, hs0] at this
    exact this
  have k1 : W1.cell? ⟨w.heap.size, 1, none⟩ = some (.int .i64 (fr : Int)) := hkb.cell 1
  have k3 : W1.cell? ⟨w.heap.size, 3, none⟩ = some (.int .u64 (mb : Int)) := hkb.cell 3
  have k4 : W1.cell? ⟨w.heap.size, 4, none⟩ = some (.int .i64 md) := hkb.cell 4
  have k5 : W1.cell? ⟨w.heap.size, 5, none⟩ = some (.slice sA sN sC) := hkb.cell 5
  have h1 := h.below hb0
  obtain ⟨xb, hxb⟩ : ∃ xb, (r.node i).bal = xb := ⟨_, rfl⟩
  obtain ⟨bn, bd⟩ := xb
  have c8 : W1.cell? ⟨N, i * 13 + 8, none⟩ = some (.int .u64 (bn : Int)) := by rw [h1.nds.cell (k := 8) hi (by omega)]; show some (Value.int .u64 ((r.node i).bal.n : Int)) = _; rw [hxb]
  have c9 : W1.cell? ⟨N, i * 13 + 9, none⟩ = some (.int .i64 bd) := by rw [h1.nds.cell (k := 9) hi (by omega)]; show some (Value.int .i64 (r.node i).bal.node) = _; rw [hxb]
  have HW0 := Lib.hid hW0
  have HW := Lib.hid hW1
  have HB := Lib.hid hb0
  have HS0 := Lib.hid hs0
  have HS1 := Lib.hid hs1
  have HZ : Hid (∀ W, Below W1.heap.size W1 W → Bk W (w.heap.size + 1) 46 #[.int .u64 0, .int .u64 0, .int .i64 0, .slice none 0 0]) := Lib.hid fun W hb => hkz.below hb hkz.lt
  have HEnd : Hid (∀ W, Below W1.heap.size W1 W → Kp (fun k => k = w.heap.size ∨ k = w.heap.size + 1) w ((((W.setCell ⟨w.heap.size + 1, 0, none⟩ (.int .u64 0)).setCell ⟨w.heap.size + 1, 1, none⟩ (.int .u64 0)).setCell ⟨w.heap.size + 1, 2, none⟩ (.int .i64 0)).setCell ⟨w.heap.size + 1, 3, none⟩ (.slice none 0 0)) ∧ Bk ((((W.setCell ⟨w.heap.size + 1, 0, none⟩ (.int .u64 0)).setCell ⟨w.heap.size + 1, 1, none⟩ (.int .u64 0)).setCell ⟨w.heap.size + 1, 2, none⟩ (.int .i64 0)).setCell ⟨w.heap.size + 1, 3, none⟩ (.slice none 0 0)) (w.heap.size + 1) 46 #[.int .u64 0, .int .u64 0, .int .i64 0, .slice none 0 0]) := Lib.hid fun W hb =>
    ⟨(Kp.of_below (below_then hb0 hb)).trans ((st4P W (w.heap.size + 1) _ _ _ _).mono fun k e => .inr e), (HZ.out W hb).s4P _ _ _ _⟩
  by_cases hne : (r.node i).pro = none ∨ Bl.eqB (r.node i).bal ⟨mb, md⟩ = false
  · rw [Nd.gather_no hne]
    dsimp only
    rw [setN_same hin]
    have hdiff : ¬ (bn = mb ∧ bd = md) := by
      rintro ⟨rfl, rfl⟩
      rcases hne with e | e
      · have := hx.nopro e
        rw [hxb] at this
        have h0 := hm.bal.n0
        injection this with e1
        dsimp only at h0
        omega
      · rw [hxb] at e
        have := Bl.eqB_iff.2 (rfl : (⟨bn, bd⟩ : Bl) = ⟨bn, bd⟩)
        rw [this] at e
        cases e
    have HD := Lib.hid h
    clear h h1 hx hm hW0 hW1 hb0 hb00 hb01 hkb hkz hxb hne hin hv hvs hs1
    have hkey : ¬ ((bn : Int) = (mb : Int)) ∨ (bn = mb ∧ ¬ bd = md) := by
      by_cases e : bn = mb
      · exact .inr ⟨e, fun e2 => hdiff ⟨e, e2⟩⟩
      · exact .inl (by omega)
    clear hdiff
    rcases hkey with hk | ⟨rfl, hk⟩
    all_goals
      go_enter Try.func48, Try.ntmps48
      go_upto_region 1 with (fail)
      rw [← HW0.out, ← HW.out]
      go_wp2_with fail
      go_quiet (fail)
      have HBq : Hid (Below W1.heap.size W1 (W1.drewN nq)) := Lib.hid (bel_drewN (Below.refl _ _) nq)
      clear k1 k3 k4 k5 c8 c9 HW0 HW
      generalize W1.drewN nq = wq at *
      have hz := HZ.out wq HBq.out
      have z0 : wq.cell? ⟨w.heap.size + 1, 0, none⟩ = some (.int .u64 0) := hz.cell 0
      have z1 : wq.cell? ⟨w.heap.size + 1, 1, none⟩ = some (.int .u64 0) := hz.cell 1
      have z2 : wq.cell? ⟨w.heap.size + 1, 2, none⟩ = some (.int .i64 0) := hz.cell 2
      have z3 : wq.cell? ⟨w.heap.size + 1, 3, none⟩ = some (.slice none 0 0) := hz.cell 3
      have f0 := hz.frozen 0
      have f1 := hz.frozen 1
      have f2 := hz.frozen 2
      have f3 := hz.frozen 3
      obtain ⟨hkp, hk4⟩ := HEnd.out wq HBq.out
      have HG := Lib.hid (GatherS.none_ HD.out hkp)
      have HK4 := Lib.hid hk4
      clear hz hkp hk4 HZ HEnd
      go_wp2
      generalize ((((wq.setCell ⟨w.heap.size + 1, 0, none⟩ (.int .u64 0)).setCell ⟨w.heap.size + 1, 1, none⟩ (.int .u64 0)).setCell ⟨w.heap.size + 1, 2, none⟩ (.int .i64 0)).setCell ⟨w.heap.size + 1, 3, none⟩ (.slice none 0 0)) = w9 at *
      have j0 : w9.cell? ⟨w.heap.size + 1, 0, none⟩ = some (.int .u64 0) := HK4.out.cell 0
      have j1 : w9.cell? ⟨w.heap.size + 1, 1, none⟩ = some (.int .u64 0) := HK4.out.cell 1
      have j2 : w9.cell? ⟨w.heap.size + 1, 2, none⟩ = some (.int .i64 0) := HK4.out.cell 2
      have j3 : w9.cell? ⟨w.heap.size + 1, 3, none⟩ = some (.slice none 0 0) := HK4.out.cell 3
      refine bodyPost_ret (by simp [results, Try.results48, go_sem, j0, j1, j2, j3]; try rfl) rfl ?_
      exact HG.out
  · have hp : ∃ p, (r.node i).pro = some p := by
      cases e : (r.node i).pro with
      | none => exact absurd (.inl e) hne
      | some p => exact ⟨p, rfl⟩
    obtain ⟨p, hp⟩ := hp
    have hbe : Bl.eqB (r.node i).bal ⟨mb, md⟩ = true := by
      cases e : Bl.eqB (r.node i).bal ⟨mb, md⟩ with
      | true => rfl
      | false => exact absurd (.inr e) hne
    have hb2 : (r.node i).bal = ⟨mb, md⟩ := Bl.eqB_iff.1 hbe
    rw [hxb] at hb2
    injection hb2 with e1 e2
    subst e1 e2
    obtain ⟨gp, hgp, hP⟩ := h.pp i hi p hp
    obtain ⟨hok1, hok2, hok3, hok4, hok5, hok6⟩ := hx.pro p hp
    have c7 : W1.cell? ⟨N, i * 13 + 7, none⟩ = some (.pointer (some ⟨gp, 0, none⟩)) := by rw [h1.nds.cell (k := 7) hi (by omega)]; show some (prV (np i).p) = _; rw [hgp]; rfl
    have HRd : Hid (∀ W, Below w.heap.size w W → Calls Try.prog 55 #[.pointer (some ⟨gp, 0, none⟩)] W fun e w' => e = .returned (.bool p.ready) ∧ Below W.heap.size W w') := Lib.hid fun W hb => by
      obtain ⟨bt, bp, A', n', c', ts, ps, hq⟩ := hP.below hb
      exact pready_any hq
    have Hb0 := Lib.hid hb0
    cases hrd : p.ready with
    | true =>
      have hg : (r.node i).gather ⟨kd, fr, ds, ⟨bn, bd⟩, vl⟩ = (none, r.node i) := by
        unfold Nd.gather
        rw [hp]
        dsimp only
        rw [if_neg (by rw [hbe]; decide), if_pos hrd]
      rw [hg]
      dsimp only
      rw [setN_same hin]
      have HD := Lib.hid h
      rw [hrd] at HRd
      clear h h1 hx hm hW0 hW1 hb0 hb00 hb01 hkb hkz hxb hne hin hv hvs hs1 hbe hp hgp hP hok1 hok2 hok3 hok4 hok5 hok6 hrd hg
      go_enter Try.func48, Try.ntmps48
      go_upto_region 1 with (fail)
      rw [← HW0.out, ← HW.out]
      go_cut [21] (fun cv wx => cv = .bool true ∧ Hid (Below W1.heap.size W1 wx))
      case first =>
        go_wp2_with fail
        go_region_law (go_simp; go_at_call 55; (refine (HRd.out _ (below_then Hb0.out (by (repeat' (first | assumption | exact Below.refl _ _ | apply Below.drew | exact bel_drewN (Below.refl _ _) _))))).mono ?_); rintro x W5 ⟨rfl, hb5⟩; (have hd5 : Below W1.heap.size W1 W5 := (by first | exact below_then (Below.refl _ _).drew hb5 | exact below_then (Below.refl _ _).drew.drew hb5 | exact below_then (Below.refl _ _).drew.drew.drew hb5)))
        all_goals
          go_wp2_with fail
          go_meet
          exact ⟨rfl, Lib.hid hd5⟩
      case rest =>
        obtain ⟨rfl, HBq⟩ := hcut
        clear k1 k3 k4 k5 c7 c8 c9 HW0 HW
        generalize wc = wq at *
        have hz := HZ.out wq HBq.out
        have z0 : wq.cell? ⟨w.heap.size + 1, 0, none⟩ = some (.int .u64 0) := hz.cell 0
        have z1 : wq.cell? ⟨w.heap.size + 1, 1, none⟩ = some (.int .u64 0) := hz.cell 1
        have z2 : wq.cell? ⟨w.heap.size + 1, 2, none⟩ = some (.int .i64 0) := hz.cell 2
        have z3 : wq.cell? ⟨w.heap.size + 1, 3, none⟩ = some (.slice none 0 0) := hz.cell 3
        have f0 := hz.frozen 0
        have f1 := hz.frozen 1
        have f2 := hz.frozen 2
        have f3 := hz.frozen 3
        obtain ⟨hkp, hk4⟩ := HEnd.out wq HBq.out
        have HG := Lib.hid (GatherS.none_ HD.out hkp)
        have HK4 := Lib.hid hk4
        clear hz hkp hk4 HZ HEnd
        go_wp2
        generalize ((((wq.setCell ⟨w.heap.size + 1, 0, none⟩ (.int .u64 0)).setCell ⟨w.heap.size + 1, 1, none⟩ (.int .u64 0)).setCell ⟨w.heap.size + 1, 2, none⟩ (.int .i64 0)).setCell ⟨w.heap.size + 1, 3, none⟩ (.slice none 0 0)) = w9 at *
        have j0 : w9.cell? ⟨w.heap.size + 1, 0, none⟩ = some (.int .u64 0) := HK4.out.cell 0
        have j1 : w9.cell? ⟨w.heap.size + 1, 1, none⟩ = some (.int .u64 0) := HK4.out.cell 1
        have j2 : w9.cell? ⟨w.heap.size + 1, 2, none⟩ = some (.int .i64 0) := HK4.out.cell 2
        have j3 : w9.cell? ⟨w.heap.size + 1, 3, none⟩ = some (.slice none 0 0) := HK4.out.cell 3
        refine bodyPost_ret (by simp [results, Try.results48, go_sem, j0, j1, j2, j3]; try rfl) rfl ?_
        exact HG.out
    | false =>
      have hso := h.oo i hi
      have hol := hx.own
      have hvl : vs.length ≤ 1 := by have := hm.one; rw [hvs] at this; simpa using this
      have htl := one_key hok1.tsrt hok5
      have hpl := one_key hok1.psrt hok6
      have hgx := hx.gather hm
      have hg : (r.node i).gather ⟨kd, fr, ds, ⟨bn, bd⟩, vl⟩ = (if ((p.promise fr vl).2.propose 1 (r.node i).own).1 = 0 then some ((p.promise fr vl).2.propose 1 (r.node i).own).2.1 else none, { r.node i with pro := some ((p.promise fr vl).2.propose 1 (r.node i).own).2.2 }) := by
        unfold Nd.gather
        rw [hp]
        dsimp only
        rw [if_neg (by rw [hbe]; decide), if_neg (by rw [hrd]; decide)]
      replace hvs : vl = vs.map (·.1) := hvs
      have HPr : Hid (∀ W, Below w.heap.size w W → Calls Try.prog 56 #[.pointer (some ⟨gp, 0, none⟩), .int .i64 (fr : Int), .slice sA sN sC] W fun e w' => ∃ F' z, e = .returned (.int .i64 z) ∧ PPM w' F' gp (p.promise fr vl).2 ∧ Mv (fun k => col k = 5 + i) F' W w') := Lib.hid fun W hb => by
        obtain ⟨bt, bp, A', n', c', ts, ps, hq⟩ := hP.below hb
        have hv2 : VsR W (fun k => col k = 4 ∧ k < w.heap.size) sA sN sC vs := VsR.below (VsR.mono' hv fun k hk e => ⟨e, hk⟩) hb
        have := ppromise_any hq hv2 (fun k e e2 => by omega) (fun k e => Nat.lt_of_lt_of_le e.2 hb.size) (by have := hv2.len; omega) (fr : Int)
        rw [← hvs] at this
        refine this.mono ?_
        rintro e w' ⟨F', rfl, q1, q2⟩
        exact ⟨F', _, rfl, q1, q2⟩
      have hsame := Pp.promise_same p fr vl
      have hpl1 : (p.promise fr vl).2.props.length ≤ 1 := by rw [hsame.2.2.2.1]; exact hpl
      obtain ⟨p1, hp1⟩ : ∃ p1, (p.promise fr vl).2 = p1 := ⟨_, rfl⟩
      rw [hp1] at HPr hg hpl1
      obtain ⟨so, hso'⟩ : ∃ so, (np i).o = so := ⟨_, rfl⟩
      rw [hso'] at hso
      obtain ⟨oA, on, oc⟩ := so
      have HO : Hid (∀ W, Kp (fun k => col k = 5 + i) w W → Rd W W.heap.size oA on (r.node i).own) := Lib.hid fun W hk => (hso.rd.kp hk fun k e e2 => by omega).rd
      have hon : on ≤ 100 := by have := hso.len; dsimp only at this; omega
      have HPp : Hid (∀ W F1, PPM W F1 gp p1 → Rd W W.heap.size oA on (r.node i).own → Calls Try.prog 57 #[.pointer (some ⟨gp, 0, none⟩), .int .u64 1, .slice oA on oc] W (ProposeR W F1 gp (p1.propose 1 (r.node i).own))) := Lib.hid fun W F1 hq hrd => by
        obtain ⟨bt, bp, A', n', c', ts, ps, hq⟩ := hq
        exact ppropose_any hq 1 (by omega) oA on oc _ (by omega) hrd (by omega)
      have HNd : Hid (∀ W, Kp (fun k => col k = 5 + i) w W → NdsM W N n (fun i => ndC (r.node i) (np i))) := Lib.hid fun W hk => h.nds.kp hk (by have := h.cN; omega)
      have HD := Lib.hid h
      have Hg := Lib.hid hg
      have Hgx := Lib.hid hgx
      have HX := Lib.hid hgp
      have HXo := Lib.hid hso'
      rw [hrd] at HRd
      have HC : Hid (∀ W, Below W1.heap.size W1 W → W.cell? ⟨N, i * 13 + 7, none⟩ = some (.pointer (some ⟨gp, 0, none⟩)) ∧ W.cell? ⟨w.heap.size, 1, none⟩ = some (.int .i64 (fr : Int)) ∧ W.cell? ⟨w.heap.size, 4, none⟩ = some (.int .i64 bd) ∧ W.cell? ⟨w.heap.size, 5, none⟩ = some (.slice sA sN sC)) := Lib.hid fun W hb =>
        ⟨(hb.cell (p := ⟨N, i * 13 + 7, none⟩) h1.nds.lt).trans c7, (hb.cell (p := ⟨w.heap.size, 1, none⟩) hkb.lt).trans k1, (hb.cell (p := ⟨w.heap.size, 4, none⟩) hkb.lt).trans k4, (hb.cell (p := ⟨w.heap.size, 5, none⟩) hkb.lt).trans k5⟩
      clear h h1 hx hm hW0 hW1 hb0 hb00 hb01 hkb hkz hxb hne hin hv hvs hs1 hbe hp hgp hP hok1 hok2 hok3 hok4 hok5 hok6 hrd hg hgx hso hso' hvl htl hpl hsame hp1 hpl1 hol
      obtain ⟨X, hX⟩ : ∃ X, p1.propose 1 (r.node i).own = X := ⟨_, rfl⟩
      rw [hX] at HPp Hg
      clear hX
      obtain ⟨z, v, p2⟩ := X
      dsimp only at HPp Hg
      go_enter Try.func48, Try.ntmps48
      go_upto_region 1 with (fail)
      rw [← HW0.out, ← HW.out]
      go_cut [21] (fun cv wx => cv = .bool false ∧ Hid (Below W1.heap.size W1 wx))
      case first =>
        go_wp2_with fail
        go_region_law (go_simp; go_at_call 55; (refine (HRd.out _ (below_then Hb0.out (by (repeat' (first | assumption | exact Below.refl _ _ | apply Below.drew | exact bel_drewN (Below.refl _ _) _))))).mono ?_); rintro x W5 ⟨rfl, hb5⟩; (have hd5 : Below W1.heap.size W1 W5 := (by first | exact below_then (Below.refl _ _).drew hb5 | exact below_then (Below.refl _ _).drew.drew hb5 | exact below_then (Below.refl _ _).drew.drew.drew hb5)))
        all_goals
          go_wp2_with fail
          go_meet
          exact ⟨rfl, Lib.hid hd5⟩
      case rest =>
        obtain ⟨rfl, HBq⟩ := hcut
        clear k1 k3 k4 k5 c7 c8 c9 HW0 HW
        generalize wc = wq at *
        obtain ⟨c7, k1, k4, k5⟩ := HC.out wq HBq.out
        go_wp2_with fail
        go_still_tail 8, (by kernel_rfl)
        change wpList _ _ _ _ _ wq.drew
        go_wp2_with fail
        refine (HPr.out _ (below_then Hb0.out HBq.out.drew)).mono ?_
        rintro e W3 ⟨F1, z1, rfl, hP3, hM3⟩
        have hK3 : Kp (fun k => col k = 5 + i) w W3 := (Kp.of_below (below_then Hb0.out HBq.out.drew)).trans hM3.kp
        have hn3 := HNd.out W3 hK3
        have d7 : W3.cell? ⟨N, i * 13 + 7, none⟩ = some (.pointer (some ⟨gp, 0, none⟩)) := by rw [hn3.cell (k := 7) hi (by omega)]; show some (prV (np i).p) = _; rw [HX.out]; rfl
        have d10 : W3.cell? ⟨N, i * 13 + 10, none⟩ = some (.slice oA on oc) := by rw [hn3.cell (k := 10) hi (by omega)]; show some (s3V (np i).o) = _; rw [HXo.out]; rfl
        have HK3 := Lib.hid hK3
        have HP3 := Lib.hid hP3
        have HF3 : Hid (∀ k, F1 k → col k = 5 + i ∨ W1.heap.size ≤ k) := Lib.hid fun k hf => by
          rcases hM3.new k hf with h' | h'
          · exact .inl h'
          · exact .inr (Nat.le_trans HBq.out.size h')
        have HPq : Hid (∀ W, Below W3.heap.size W3 W → Calls Try.prog 57 #[.pointer (some ⟨gp, 0, none⟩), .int .u64 1, .slice oA on oc] W fun e w' => ∃ F2 vA vc, e = .returned (.tuple #[.agg #[.int .u64 (v.slot : Int), .int .u64 (v.bal.n : Int), .int .i64 v.bal.node, .slice vA v.val.length vc], .int .i64 z]) ∧ Hid (GRes W w' F1 gp p2 v vA vc F2)) := Lib.hid fun W hb => by
          refine (HPp.out W F1 (hP3.below hb) (HO.out W (hK3.trans (Kp.of_below hb)))).mono ?_
          rintro e w' ⟨F2, V, rfl, ho, q1, q2, q3⟩
          obtain ⟨vA, vc, rfl, _⟩ := own_shape ho
          exact ⟨F2, vA, vc, rfl, Lib.hid ⟨ho, q1, q2, q3⟩⟩
        have HZ13 : Hid (W1.heap.size ≤ W3.heap.size) := Lib.hid (Nat.le_trans HBq.out.size hM3.kp.size)
        have HZb : Hid (Bk W3 (w.heap.size + 1) 46 #[.int .u64 0, .int .u64 0, .int .i64 0, .slice none 0 0]) := Lib.hid ((HZ.out wq HBq.out).kp ((Kp.drew _ wq).trans hM3.kp) (fun e => by have := HD.out.lt (w.heap.size + 1) (by omega); omega))
        clear hP3 hM3 hK3 hn3 c7 k1 k4 k5 HPr HRd HC HPp HO HZ HEnd
        go_upto_region 4 with (fail)
        have HFl : Hid (∀ k, F1 k → k < W3.heap.size) := Lib.hid HP3.out.lt
        have HA : Hid (∀ Wd F2 W5 vA vc, Wd.heap.size = W3.heap.size → Below W3.heap.size W3 Wd → Hid (GRes (Wd.alloc gz) W5 F1 gp p2 v vA vc F2) → Hid (GFin W3 F1 gp p2 v W3.heap.size vA vc F2 ((((W5.setCell ⟨W3.heap.size, 0, none⟩ (.int .u64 (v.slot : Int))).setCell ⟨W3.heap.size, 1, none⟩ (.int .u64 (v.bal.n : Int))).setCell ⟨W3.heap.size, 2, none⟩ (.int .i64 v.bal.node)).setCell ⟨W3.heap.size, 3, none⟩ (.slice vA v.val.length vc))) ∧
            W5.cell? ⟨W3.heap.size, 0, none⟩ = some (.int .u64 0) ∧ W5.cell? ⟨W3.heap.size, 1, none⟩ = some (.int .u64 0) ∧ W5.cell? ⟨W3.heap.size, 2, none⟩ = some (.int .i64 0) ∧ W5.cell? ⟨W3.heap.size, 3, none⟩ = some (.slice none 0 0) ∧ W5.frozen? ⟨W3.heap.size, 0, none⟩ = false ∧ W5.frozen? ⟨W3.heap.size, 1, none⟩ = false ∧ W5.frozen? ⟨W3.heap.size, 2, none⟩ = false ∧ W5.frozen? ⟨W3.heap.size, 3, none⟩ = false) := Lib.hid fun Wd F2 W5 vA vc hs hb hq => by
          have hz := (hq.out.zero (by rw [hs]; exact HFl.out)).1
          have hf := hq.out.finA hb (by rw [hs]; exact HFl.out)
          rw [hs] at hz hf
          exact ⟨Lib.hid hf, hz.cell 0, hz.cell 1, hz.cell 2, hz.cell 3, hz.frozen 0, hz.frozen 1, hz.frozen 2, hz.frozen 3⟩
        have hbz : Below W3.heap.size W3 (W3.alloc (.cells #[.int .u64 0, .int .u64 0, .int .i64 0, .slice none 0 0] 46)) := bel1P _
        have d7a : (W3.alloc (.cells #[.int .u64 0, .int .u64 0, .int .i64 0, .slice none 0 0] 46)).cell? ⟨N, i * 13 + 7, none⟩ = some (.pointer (some ⟨gp, 0, none⟩)) := (hbz.cell (p := ⟨N, i * 13 + 7, none⟩) (World.block_lt_of_cell? W3 _ d7)).trans d7
        have d10a : (W3.alloc (.cells #[.int .u64 0, .int .u64 0, .int .i64 0, .slice none 0 0] 46)).cell? ⟨N, i * 13 + 10, none⟩ = some (.slice oA on oc) := (hbz.cell (p := ⟨N, i * 13 + 10, none⟩) (World.block_lt_of_cell? W3 _ d10)).trans d10
        clear hbz
        go_cut [6, 7] (fun pv ev wx => ∃ gb vA vc F2, pv = .pointer (some ⟨gb, 0, none⟩) ∧ ev = .int .i64 z ∧ Hid (GFin W3 F1 gp p2 v gb vA vc F2 wx))
        case first =>
          go_wp2_with fail
          go_region_law (go_simp; go_at_call 57; (refine (HPq.out _ (by (repeat' (first | assumption | exact Below.refl _ _ | apply Below.drew | exact bel_drewN (Below.refl _ _) _ | exact bel1P _ | exact (Below.refl _ _).drew.alloc (by simp) _)))).mono ?_); rintro x W5 ⟨F2, vA, vc, rfl, hq5⟩; (first | (have hq6 := HA.out W3.drew _ _ _ _ rfl ((Below.refl _ _).drew) hq5; obtain ⟨HFn, y0, y1, y2, y3, g0, g1, g2, g3⟩ := hq6) | (have hq6 := HA.out W3 _ _ _ _ rfl (Below.refl _ _) hq5; obtain ⟨HFn, y0, y1, y2, y3, g0, g1, g2, g3⟩ := hq6) | skip))
          all_goals
            go_wp2_with fail
            go_meet
            first
              | exact ⟨_, _, _, _, rfl, rfl, HFn⟩
              | exact ⟨_, _, _, _, rfl, rfl, Lib.hid (GRes.finB hq5.out (Below.refl _ _).drew)⟩
              | exact ⟨_, _, _, _, rfl, rfl, Lib.hid (GRes.finB hq5.out (Below.refl _ _))⟩
        case rest =>
          obtain ⟨gb, vA, vc, F2, rfl, rfl, HFn⟩ := hcut
          clear d7 d10 d7a d10a HPq HA
          generalize wc = W6 at *
          obtain ⟨hbv, hP6, hM6, ho6, hap6⟩ := HFn.out
          have hK6 : Kp (fun k => col k = 5 + i) w W6 := HK3.out.trans' hM6.kp fun k hf => by
            rcases HF3.out k hf with h' | h'
            · exact .inl h'
            · exact .inr (Nat.le_trans Hb0.out.size h')
          have hF6 : ∀ k, F2 k → col k = 5 + i ∨ W1.heap.size ≤ k := fun k hf => by
            rcases hM6.new k hf with h' | h'
            · exact HF3.out k h'
            · exact .inr (Nat.le_trans HZ13.out h')
          have hs1 : w.heap.size + 2 ≤ W1.heap.size := by have h' := HS1.out; omega
          have hnF : ∀ k, F2 k → ¬ k = w.heap.size + 1 := fun k hf e => by
            rcases hF6 k hf with h' | h'
            · have := HD.out.lt k (by omega)
              omega
            · omega
          have hz6 : Bk W6 (w.heap.size + 1) 46 #[.int .u64 0, .int .u64 0, .int .i64 0, .slice none 0 0] := HZb.out.kp hM6.kp fun hf => by
            rcases HF3.out _ hf with h' | h'
            · have := HD.out.lt (w.heap.size + 1) (by omega)
              omega
            · omega
          obtain ⟨W9, hW9⟩ : ∃ W9, W9 = ((((W6.setCell ⟨w.heap.size + 1, 0, none⟩ (.int .u64 (v.slot : Int))).setCell ⟨w.heap.size + 1, 1, none⟩ (.int .u64 (v.bal.n : Int))).setCell ⟨w.heap.size + 1, 2, none⟩ (.int .i64 v.bal.node)).setCell ⟨w.heap.size + 1, 3, none⟩ (.slice vA v.val.length vc)) := ⟨_, rfl⟩
          have hk9 : Kp (fun k => k = w.heap.size + 1) W6 W9 := by rw [hW9]; exact st4P W6 (w.heap.size + 1) _ _ _ _
          have hb9 : Bk W9 (w.heap.size + 1) 46 #[.int .u64 (v.slot : Int), .int .u64 (v.bal.n : Int), .int .i64 v.bal.node, .slice vA v.val.length vc] := by rw [hW9]; exact hz6.s4P _ _ _ _
          have hK9 : Kp (fun k => col k = 5 + i) w W9 := hK6.trans' hk9 fun k e => .inr (by omega)
          have hz9 := hk9.size
          have hP9 := hP6.kp hk9 hnF
          have ho9 := own_kp ho6 hk9 fun k e e2 => by have h' := (ho6.lt k e).1; have := HZ13.out; omega
          have hgx := Hgx.out
          rw [Hg.out] at hgx
          dsimp only at hgx
          have hcol4 : ∀ k, (Value.slice vA v.val.length vc).ownBlock = some k → colX col w.heap.size F2 i W3.heap.size W6.heap.size k = 4 := fun k e => by
            have h' := (ho6.lt k e)
            have := HZ13.out
            exact colX_4 (hap6 k e) (by omega) h'.1 h'.2
          have HT : Hid (RoM W9 (colX col w.heap.size F2 i W3.heap.size W6.heap.size) g N n (r.setN i { r.node i with pro := some p2 }) ∧ Cl col (colX col w.heap.size F2 i W3.heap.size W6.heap.size) w W9) := Lib.hid (HD.out.pturn (x := { r.node i with pro := some p2 }) (y := np i) hi (hK9.mono fun k e => .inr e) hP9 (fun k hf => by
            rcases hF6 k hf with h' | h'
            · exact .inl h'
            · exact .inr (by omega)) hz9 ((HNd.out W9 hK9).congr fun j k hj hk => by
              by_cases e : j = i
              · rw [if_pos e, e]
                rcases thirteen hk with rfl | rfl | rfl | rfl | rfl | rfl | rfl | rfl | rfl | rfl | rfl | rfl | rfl <;> rfl
              · rw [if_neg e]) hgx rfl rfl ⟨rfl, rfl⟩ (by
              have hl := HD.out.ll i hi
              refine ⟨hl.cap, (hl.rd.kp hK9 fun k e e2 => by omega).mono fun k e => ?_⟩
              exact (colX_old _ _ _ _ _ _ k (HD.out.lt k (by omega))).trans e) rfl HX.out)
          have HV : Hid (RdS W9 (colX col w.heap.size F2 i W3.heap.size W6.heap.size) (vA, v.val.length, vc) v.val) := Lib.hid (RdS.of_own ho9 hcol4)
          have HB9 := Lib.hid hb9
          have HW9 := Lib.hid hW9
          have z0 : W6.cell? ⟨w.heap.size + 1, 0, none⟩ = some (.int .u64 0) := hz6.cell 0
          have z1 : W6.cell? ⟨w.heap.size + 1, 1, none⟩ = some (.int .u64 0) := hz6.cell 1
          have z2 : W6.cell? ⟨w.heap.size + 1, 2, none⟩ = some (.int .i64 0) := hz6.cell 2
          have z3 : W6.cell? ⟨w.heap.size + 1, 3, none⟩ = some (.slice none 0 0) := hz6.cell 3
          have f0 := hz6.frozen 0
          have f1 := hz6.frozen 1
          have f2 := hz6.frozen 2
          have f3 := hz6.frozen 3
          have y0 : W6.cell? ⟨gb, 0, none⟩ = some (.int .u64 (v.slot : Int)) := hbv.cell 0
          have y1 : W6.cell? ⟨gb, 1, none⟩ = some (.int .u64 (v.bal.n : Int)) := hbv.cell 1
          have y2 : W6.cell? ⟨gb, 2, none⟩ = some (.int .i64 v.bal.node) := hbv.cell 2
          have y3 : W6.cell? ⟨gb, 3, none⟩ = some (.slice vA v.val.length vc) := hbv.cell 3
          have ho : (if z = 0 then some v else none).isSome = (z == 0) := by
            by_cases e : z = 0
            · rw [if_pos e]; simp [e]
            · rw [if_neg e]; simp [e]
          have HOs := Lib.hid ho
          clear ho hbv hP6 hM6 ho6 hap6 hK6 hF6 hnF hz6 hk9 hb9 hK9 hz9 hP9 ho9 hgx hcol4 hW9 HFn HZ13 HZb HK3 HP3 HF3 HFl
          go_wp2
          rw [← HW9.out]
          have j0 : W9.cell? ⟨w.heap.size + 1, 0, none⟩ = some (.int .u64 (v.slot : Int)) := HB9.out.cell 0
          have j1 : W9.cell? ⟨w.heap.size + 1, 1, none⟩ = some (.int .u64 (v.bal.n : Int)) := HB9.out.cell 1
          have j2 : W9.cell? ⟨w.heap.size + 1, 2, none⟩ = some (.int .i64 v.bal.node) := HB9.out.cell 2
          have j3 : W9.cell? ⟨w.heap.size + 1, 3, none⟩ = some (.slice vA v.val.length vc) := HB9.out.cell 3
          refine bodyPost_ret (by simp [results, Try.results48, go_sem, j0, j1, j2, j3]; try rfl) rfl ?_
          rw [Hg.out]
          refine ⟨v.slot, v.bal.n, v.bal.node, vA, v.val.length, vc, _, by rw [HOs.out], HT.out.1, HT.out.2, fun u e => ?_⟩
          by_cases e2 : z = 0
          · rw [if_pos e2] at e
            injection e with e
            subst e
            exact ⟨rfl, rfl, rfl, HV.out⟩
          · rw [if_neg e2] at e
            cases e
end
end Go.Proofs.Ytjapmolmgfaocaa

/- The program's room: letters that go back, and to all. -/
namespace Go.Proofs.Ytjapmolmgfaocaa
open Go.RowKit Go.Maps

section
variable {w : World} {col : Nat → Nat} {g N n : Nat} {r : Ro}
theorem RoM.cells (h : RoM w col g N n r) : w.cell? ⟨g, 5, none⟩ = some (.slice (some ⟨N, 0, none⟩) n n) ∧ g < w.heap.size := by
  obtain ⟨A, sn, sc, R, rc, np, es, h⟩ := h
  exact ⟨h.cells.2.2.2.2.2.1, h.bk.lt⟩
theorem send_any (h : RoM w col g N n r) (m : Ml) (s : S3) (vs : List Vtr) (hv : VsS w col s vs) (hm : m.votes = vs.map (·.1)) (hmo : m.Ok r.q.n) : Calls Try.prog 42 #[.pointer (some ⟨g, 6, none⟩), mlV m s] w (NodeR w col g N n (r.send m) (.bool (decide (r.row.length < 200)))) := by
  obtain ⟨A, sn, sc, R, rc, np, es, h⟩ := h
  exact rsend_any h m s vs hv hm hmo
set_option maxRecDepth 100000 in
set_option maxHeartbeats 4000000 in
theorem answer_any (h : RoM w col g N n r) (m : Ml) (s0 : S3) (kd : Nat) (s : S3) (vs : List Vtr) (l : List Vt) (hv : VsS w col s vs) (hm : l = vs.map (·.1)) (hmo : (⟨kd, m.dst, m.frm, m.bal, l⟩ : Ml).Ok r.q.n) :
    Calls Try.prog 46 #[.pointer (some ⟨g, 0, none⟩), mlV m s0, .int .i64 (kd : Int), .slice s.1 s.2.1 s.2.2] w (NodeR w col g N n (r.send ⟨kd, m.dst, m.frm, m.bal, l⟩) (.tuple #[])) := by
  obtain ⟨sA, sN, sC⟩ := s
  obtain ⟨kd0, fr, ds, ⟨mb, md⟩, vl⟩ := m
  unfold mlV
  dsimp only at *
  obtain ⟨W1, hW1⟩ : ∃ W1, W1 = w.alloc (.cells #[.int .i64 (kd0 : Int), .int .i64 (fr : Int), .int .i64 (ds : Int), .int .u64 (mb : Int), .int .i64 md, .slice s0.1 s0.2.1 s0.2.2] 63) := ⟨_, rfl⟩
  have hb0 : Below w.heap.size w W1 := by rw [hW1]; exact bel1P _
  have hkb : Bk W1 w.heap.size 63 #[.int .i64 (kd0 : Int), .int .i64 (fr : Int), .int .i64 (ds : Int), .int .u64 (mb : Int), .int .i64 md, .slice s0.1 s0.2.1 s0.2.2] := by rw [hW1]; exact Bk.new w _ _
  have k1 : W1.cell? ⟨w.heap.size, 1, none⟩ = some (.int .i64 (fr : Int)) := hkb.cell 1
  have k2 : W1.cell? ⟨w.heap.size, 2, none⟩ = some (.int .i64 (ds : Int)) := hkb.cell 2
  have k3 : W1.cell? ⟨w.heap.size, 3, none⟩ = some (.int .u64 (mb : Int)) := hkb.cell 3
  have k4 : W1.cell? ⟨w.heap.size, 4, none⟩ = some (.int .i64 md) := hkb.cell 4
  have HS : Hid (∀ W, Below w.heap.size w W → Calls Try.prog 42 #[.pointer (some ⟨g, 6, none⟩), .agg #[.int .i64 (kd : Int), .int .i64 (ds : Int), .int .i64 (fr : Int), .int .u64 (mb : Int), .int .i64 md, .slice sA sN sC]] W fun e w' => (∃ b, e = .returned (.bool b)) ∧ Hid (∃ col', RoM w' col' g N n (r.send ⟨kd, ds, fr, ⟨mb, md⟩, l⟩) ∧ Cl col col' w w')) := Lib.hid fun W hb => by
    refine (send_any (h.below hb) ⟨kd, ds, fr, ⟨mb, md⟩, l⟩ (sA, sN, sC) vs (VsS.cl hv (Cl.of_below hb)) hm hmo).mono ?_
    rintro e w' ⟨rfl, col', q1, q2⟩
    exact ⟨⟨_, rfl⟩, Lib.hid ⟨col', q1, (Cl.of_below hb).trans q2⟩⟩
  have HW := Lib.hid hW1
  have HB := Lib.hid hb0
  clear h hv hm hmo hW1 hb0 hkb
  go_enter Try.func46, Try.ntmps46
  go_upto_region 1 with (fail)
  rw [← HW.out]
  go_still_tail 12, (by kernel_rfl)
  change wpList _ _ _ _ _ W1.drew
  go_wp2_with fail
  refine (HS.out _ (HB.out.drew)).mono ?_
  rintro e w2 ⟨⟨b, rfl⟩, HT⟩
  go_wp2
  go_end0
  exact ⟨rfl, HT.out⟩
set_option maxRecDepth 100000 in
set_option maxHeartbeats 4000000 in
theorem sendAll_any (h : RoM w col g N n r) (fr kd : Nat) (b : Bl) (s : S3) (vs : List Vtr) (l : List Vt) (hv : VsS w col s vs) (hm : l = vs.map (·.1)) (hmo : ∀ i, i < r.q.n → (⟨kd, fr, i, b, l⟩ : Ml).Ok r.q.n) :
    Calls Try.prog 36 #[.pointer (some ⟨g, 0, none⟩), .int .i64 (fr : Int), .int .i64 (kd : Int), blV b, .slice s.1 s.2.1 s.2.2] w (NodeR w col g N n (r.sends r.nodes.length fr kd b l) (.tuple #[])) := by
  obtain ⟨sA, sN, sC⟩ := s
  obtain ⟨mb, md⟩ := b
  have hnn := h.nn
  have hnq : r.nodes.length = r.q.n := h.ok.len
  rw [← hnn]
  obtain ⟨W1, hW1⟩ : ∃ W1, W1 = w.alloc (.cells #[.int .u64 (mb : Int), .int .i64 md] 44) := ⟨_, rfl⟩
  have hb0 : Below w.heap.size w W1 := by rw [hW1]; exact bel1P _
  have hkb : Bk W1 w.heap.size 44 #[.int .u64 (mb : Int), .int .i64 md] := by rw [hW1]; exact Bk.new w _ _
  have hc0 : col w.heap.size = 0 := by
    by_cases e : col w.heap.size = 0
    · exact e
    · have := h.lt _ e
      omega
  have c5 := (h.below hb0).cells.1
  have HS : Hid (∀ W k col', k < n → RoM W col' g N n (r.sends k fr kd ⟨mb, md⟩ l) → Cl col col' w W → Calls Try.prog 42 #[.pointer (some ⟨g, 6, none⟩), .agg #[.int .i64 (kd : Int), .int .i64 (fr : Int), .int .i64 (k : Int), .int .u64 (mb : Int), .int .i64 md, .slice sA sN sC]] W fun e w' => (∃ b, e = .returned (.bool b)) ∧ Hid (∃ col'', RoM w' col'' g N n (r.sends (k + 1) fr kd ⟨mb, md⟩ l) ∧ Cl col col'' w w' ∧ Cl col' col'' W w')) := Lib.hid fun W k col' hk hq hc => by
    have hsq := (Ro.sends_same r k fr kd ⟨mb, md⟩ l).1
    refine (send_any hq ⟨kd, fr, k, ⟨mb, md⟩, l⟩ (sA, sN, sC) vs (VsS.cl hv hc) hm (by rw [hsq]; exact hmo k (by omega))).mono ?_
    rintro e w' ⟨rfl, col'', q1, q2⟩
    exact ⟨⟨_, rfl⟩, Lib.hid ⟨col'', q1, hc.trans q2, q2⟩⟩
  have H0 : Hid (RoM W1 col g N n (r.sends 0 fr kd ⟨mb, md⟩ l)) := Lib.hid (h.below hb0)
  have hn12 := (r.q.n_le h.ok.right).2.1
  have hn12 : n ≤ 12 := by omega
  have HW := Lib.hid hW1
  have HB := Lib.hid hb0
  have HK1 := Lib.hid hkb
  have Hc0 := Lib.hid hc0
  clear h hv hm hmo hW1 hb0 hkb hnn hnq hc0
  unfold blV
  dsimp only
  go_enter Try.func36, Try.ntmps36
  go_upto_region 1 with (fail)
  rw [← HW.out]
  go_wp2_with fail
  go_loopg [16] n (fun gk i wr => ∃ k : Nat, i = .int .i64 (k : Int) ∧ k + gk = n ∧ Hid (∃ col', RoM wr col' g N n (r.sends k fr kd ⟨mb, md⟩ l) ∧ Cl col col' w wr ∧ Bk wr w.heap.size 44 #[.int .u64 (mb : Int), .int .i64 md] ∧ col' w.heap.size = 0))
  case atStart => exact ⟨0, rfl, by omega, Lib.hid ⟨col, H0.out, Cl.of_below HB.out, HK1.out, Hc0.out⟩⟩
  case round =>
    obtain ⟨k, rfl, hkg, HI⟩ := hrel
    obtain ⟨col', hR, hC, hK, hz⟩ := HI.out
    by_cases hk : k < n
    · have hkI : (k : Int) < (n : Int) := by omega
      have k0 : wr.cell? ⟨w.heap.size, 0, none⟩ = some (.int .u64 (mb : Int)) := hK.cell 0
      have k1 : wr.cell? ⟨w.heap.size, 1, none⟩ = some (.int .i64 md) := hK.cell 1
      have HC2 : Hid (Calls Try.prog 42 #[.pointer (some ⟨g, 6, none⟩), .agg #[.int .i64 (kd : Int), .int .i64 (fr : Int), .int .i64 (k : Int), .int .u64 (mb : Int), .int .i64 md, .slice sA sN sC]] wr.drew fun e w' => (∃ b, e = .returned (.bool b)) ∧ Hid (∃ col', RoM w' col' g N n (r.sends (k + 1) fr kd ⟨mb, md⟩ l) ∧ Cl col col' w w' ∧ Bk w' w.heap.size 44 #[.int .u64 (mb : Int), .int .i64 md] ∧ col' w.heap.size = 0)) := Lib.hid (by
        refine (HS.out wr.drew k col' hk (hR.below ((Below.refl _ _).drew)) (hC.trans (Cl.of_below ((Below.refl _ _).drew)))).mono ?_
        rintro e w' ⟨hb, H⟩
        obtain ⟨col'', q1, q2, q3⟩ := H.out
        exact ⟨hb, Lib.hid ⟨col'', q1, q2, (hK.kp (Kp.drew (fun _ => False) _) (fun h => h)).kp q3.kp fun e => e.1 hz, (q3.old _ hK.lt).trans hz⟩⟩)
      clear hR hC hK HI hz
      go_upto_region 4 with (fail)
      go_still_tail 9, (by kernel_rfl)
      change wpList _ _ _ _ _ wr.drew
      go_wp2_with fail
      refine HC2.out.mono ?_
      rintro e w5 ⟨⟨b, rfl⟩, HT⟩
      go_wp2
      go_roundg (gk - 1)
      case measure => omega
      case rel => exact ⟨k + 1, by go_num, by omega, HT⟩
    · obtain rfl : k = n := by omega
      have HD : Hid (NodeR w col g N k (r.sends k fr kd ⟨mb, md⟩ l) (.tuple #[]) (.returned (.tuple #[])) wr) := Lib.hid ⟨rfl, col', hR, hC⟩
      clear hR hC hK HI hz
      go_wp2
      go_end0
      exact HD.out
end
end Go.Proofs.Ytjapmolmgfaocaa

/- The program's room: a letter arrives. -/
namespace Go.Proofs.Ytjapmolmgfaocaa
open Go.RowKit Go.Maps

section
variable {w : World} {col : Nat → Nat} {g N n : Nat} {r : Ro}
theorem promiseM (h : RoM w col g N n r) (i : Nat) (hi : i < n) (b : Bl) (hb : b.Fine r.q.n) : Calls Try.prog 45 #[.pointer (some ⟨N, i * 13, none⟩), blV b] w (NodeR w col g N n (r.setN i ((r.node i).promise b).2) (.bool ((r.node i).promise b).1)) := by
  obtain ⟨A, sn, sc, R, rc, np, es, h⟩ := h
  exact promise_any h i hi b hb
theorem votesM (h : RoM w col g N n r) (i : Nat) (hi : i < n) : Calls Try.prog 47 #[.pointer (some ⟨N, i * 13, none⟩)] w (VotesS w col g N n r (r.node i).votes) := by
  obtain ⟨A, sn, sc, R, rc, np, es, h⟩ := h
  exact nvotes_any h i hi
theorem gatherM (h : RoM w col g N n r) (i : Nat) (hi : i < n) (m : Ml) (s : S3) (vs : List Vtr) (hm : m.Ok r.q.n) (hv : VsS w col s vs) (hvs : m.votes = vs.map (·.1)) : Calls Try.prog 48 #[.pointer (some ⟨N, i * 13, none⟩), mlV m s] w (GatherS w col g N n (r.setN i ((r.node i).gather m).2) ((r.node i).gather m).1) := by
  obtain ⟨A, sn, sc, R, rc, np, es, h⟩ := h
  exact ngather_any h i hi m s vs hm hv hvs
theorem countM (h : RoM w col g N n r) (i : Nat) (hi : i < n) (m : Ml) (s : S3) (hm : m.Ok r.q.n) : Calls Try.prog 49 #[.pointer (some ⟨N, i * 13, none⟩), mlV m s] w (NodeR w col g N n (r.setN i ((r.node i).count m)) (.tuple #[])) := by
  obtain ⟨A, sn, sc, R, rc, np, es, h⟩ := h
  exact ncount_any h i hi m s hm
theorem RoM.newB {w' : World} (h : RoM w col g N n r) (hb : Below w.heap.size w w') : RoM w' (colN col w w') g N n r ∧ Cl col (colN col w w') w w' := by
  obtain ⟨A, sn, sc, R, rc, np, es, h⟩ := h
  exact ⟨(h.newB hb).1.m, (h.newB hb).2⟩
theorem Ro.setN_len (r : Ro) (i : Nat) (x : Nd) : (r.setN i x).nodes.length = r.nodes.length := by unfold Ro.setN; simp
/-- The box of the letter. -/
structure MBox (w W1 : World) (m : Ml) (sA : Option Addr) (sN sC : Nat) : Prop where
  b : Below w.heap.size w W1
  k : Bk W1 w.heap.size 63 #[.int .i64 (m.kind : Int), .int .i64 (m.frm : Int), .int .i64 (m.dst : Int), .int .u64 (m.bal.n : Int), .int .i64 m.bal.node, .slice sA sN sC]
theorem MBox.cells {W1 W : World} {m : Ml} {sA : Option Addr} {sN sC : Nat} (h : MBox w W1 m sA sN sC) {G : Nat → Prop} (hk : Kp G W1 W) (hg : ¬ G w.heap.size) : W.cell? ⟨w.heap.size, 0, none⟩ = some (.int .i64 (m.kind : Int)) ∧ W.cell? ⟨w.heap.size, 1, none⟩ = some (.int .i64 (m.frm : Int)) ∧ W.cell? ⟨w.heap.size, 2, none⟩ = some (.int .i64 (m.dst : Int)) ∧
    W.cell? ⟨w.heap.size, 3, none⟩ = some (.int .u64 (m.bal.n : Int)) ∧ W.cell? ⟨w.heap.size, 4, none⟩ = some (.int .i64 m.bal.node) ∧ W.cell? ⟨w.heap.size, 5, none⟩ = some (.slice sA sN sC) :=
  have h2 := h.k.kp hk hg
  ⟨h2.cell 0, h2.cell 1, h2.cell 2, h2.cell 3, h2.cell 4, h2.cell 5⟩
attribute [local go_sem ↓] bVts_eq
attribute [local go_sem] run_bVts
set_option maxRecDepth 100000 in
set_option maxHeartbeats 8000000 in
theorem arrive_any (h : RoM w col g N n r) (m : Ml) (s : S3) (vs : List Vtr) (hm : m.Ok r.q.n) (hv : VsS w col s vs) (hvs : m.votes = vs.map (·.1)) : Calls Try.prog 37 #[.pointer (some ⟨g, 0, none⟩), mlV m s] w (NodeR w col g N n (r.arrive m) (.tuple #[])) := by
  obtain ⟨sA, sN, sC⟩ := s
  have hnn := h.nn
  have hnq : r.nodes.length = r.q.n := h.ok.len
  have hdn : m.dst < n := by have := hm.dst; omega
  have hdr : m.dst < r.nodes.length := by omega
  have hn12 := h.ok.n12
  have hok := h.ok
  obtain ⟨W1, hW1⟩ : ∃ W1, W1 = w.alloc (.cells #[.int .i64 (m.kind : Int), .int .i64 (m.frm : Int), .int .i64 (m.dst : Int), .int .u64 (m.bal.n : Int), .int .i64 m.bal.node, .slice sA sN sC] 63) := ⟨_, rfl⟩
  have hb0 : Below w.heap.size w W1 := by rw [hW1]; exact bel1P _
  have hkb : Bk W1 w.heap.size 63 #[.int .i64 (m.kind : Int), .int .i64 (m.frm : Int), .int .i64 (m.dst : Int), .int .u64 (m.bal.n : Int), .int .i64 m.bal.node, .slice sA sN sC] := by rw [hW1]; exact Bk.new w _ _
  have hmb : MBox w W1 m sA sN sC := ⟨hb0, hkb⟩
  have hc0 : col w.heap.size = 0 := by
    by_cases e : col w.heap.size = 0
    · exact e
    · have := h.lt _ e
      omega
  have h1 := h.below hb0
  have hv1 : VsS W1 col (sA, sN, sC) vs := VsS.cl hv (Cl.of_below hb0)
  have c5 := h1.cells.1
  obtain ⟨k0, k1, k2, k3, k4, k5⟩ := hmb.cells (Kp.refl (fun _ => False) W1) (fun h => h)
  have HW := Lib.hid hW1
  have HM := Lib.hid hmb
  have H1 := Lib.hid h1
  have HV1 := Lib.hid hv1
  have HC0 := Lib.hid hc0
  have Hm := Lib.hid hm
  have Hvs := Lib.hid hvs
  have Hok := Lib.hid hok
  have hdI : (m.dst : Int) < (n : Int) := by omega
  have hnn' := Lib.hid hnn
  have hnq' := Lib.hid hnq
  rcases (by have := hm.kind; omega : m.kind = 1 ∨ m.kind = 2 ∨ m.kind = 3 ∨ m.kind = 4) with hk | hk | hk | hk
  · have ha : r.arrive m = if ((r.node m.dst).promise m.bal).1 then (r.setN m.dst ((r.node m.dst).promise m.bal).2).send ⟨2, m.dst, m.frm, m.bal, ((r.node m.dst).promise m.bal).2.votes⟩ else r.setN m.dst ((r.node m.dst).promise m.bal).2 := by unfold Ro.arrive; rw [if_pos hk]
    have HF : Hid (∀ W, Below W1.heap.size W1 W → RoM W col g N n r ∧ VsS W col (sA, sN, sC) vs ∧ Below w.heap.size w W ∧ MBox w W m sA sN sC) := Lib.hid fun W hb => ⟨h1.below hb, VsS.cl hv1 (Cl.of_below hb), below_then hb0 hb, ⟨below_then hb0 hb, hkb.below hb hkb.lt⟩⟩
    have HP : Hid (∀ W, RoM W col g N n r → Calls Try.prog 45 #[.pointer (some ⟨N, m.dst * 13, none⟩), blV m.bal] W (NodeR W col g N n (r.setN m.dst ((r.node m.dst).promise m.bal).2) (.bool ((r.node m.dst).promise m.bal).1))) := Lib.hid fun W hq => promiseM hq m.dst hdn m.bal hm.bal
    have hxo := (hok.nodes _ (Ro.node_mem hdr)).promise hm.bal
    obtain ⟨X, hX⟩ : ∃ X, (r.node m.dst).promise m.bal = X := ⟨_, rfl⟩
    rw [hX] at ha HP hxo
    have hr1 : (r.setN m.dst X.2).node m.dst = X.2 := by rw [Ro.node_set r X.2 hdr, if_pos rfl]
    have hvo := Nd.votes_ok hxo
    have hlo : (⟨2, m.dst, m.frm, m.bal, X.2.votes⟩ : Ml).Ok r.q.n := ⟨⟨by show 1 ≤ 2; omega, by show 2 ≤ 4; omega⟩, hm.dst, hm.frm, hm.bal, hvo.1, hvo.2, fun e => by cases e⟩
    have HVt : Hid (∀ W col', RoM W col' g N n (r.setN m.dst X.2) → Calls Try.prog 47 #[.pointer (some ⟨N, m.dst * 13, none⟩)] W (VotesS W col' g N n (r.setN m.dst X.2) X.2.votes)) := Lib.hid fun W col' hq => by
      have := votesM hq m.dst hdn
      rw [hr1] at this
      exact this
    have HAn : Hid (∀ W col' B k c vs', RoM W col' g N n (r.setN m.dst X.2) → VsS W col' (B, k, c) vs' → X.2.votes = vs'.map (·.1) → Calls Try.prog 46 #[.pointer (some ⟨g, 0, none⟩), mlV m (sA, sN, sC), .int .i64 2, .slice B k c] W (NodeR W col' g N n ((r.setN m.dst X.2).send ⟨2, m.dst, m.frm, m.bal, X.2.votes⟩) (.tuple #[]))) := Lib.hid fun W col' B k c vs' hq hv' he => answer_any hq m (sA, sN, sC) 2 (B, k, c) vs' X.2.votes hv' he hlo
    obtain ⟨Ra, hRa⟩ : ∃ Ra, r.arrive m = Ra := ⟨_, rfl⟩
    rw [hRa] at ha ⊢
    have Ha := Lib.hid ha
    have e1 : ((m.kind : Int) == 1) = true := by rw [hk]; rfl
    have e2 : ¬ (m.kind : Int) = 2 := by omega
    have e3 : ¬ (m.kind : Int) = 3 := by omega
    clear h hm hv hvs hnn hnq hdr hn12 hok hW1 hb0 hkb hmb hc0 h1 hv1 ha hk hxo hX hr1 hvo hlo hRa
    obtain ⟨kd, fr, ds, ⟨mb, md⟩, vl⟩ := m
    unfold mlV at HAn ⊢
    unfold blV at HP
    dsimp only at *
    obtain ⟨xb, X2⟩ := X
    dsimp only at *
    go_enter Try.func37, Try.ntmps37
    go_upto_region 1 with (fail)
    rw [← HW.out]
    go_wp2_with fail
    go_region
    obtain ⟨hRd, hVd, hBd, hMd⟩ := HF.out W1.drew ((Below.refl _ _).drew)
    have HRd := Lib.hid hRd
    have HBd := Lib.hid hBd
    have HMd := Lib.hid hMd
    clear k0 k1 k2 k3 k4 k5 c5 hRd hVd hBd hMd HF H1 HV1 HW HM
    generalize W1.drew = Wd at *
    obtain ⟨k0, k1, k2, k3, k4, k5⟩ := HMd.out.cells (Kp.refl (fun _ => False) Wd) (fun h => h)
    dsimp only at k0 k1 k2 k3 k4 k5
    go_upto_region 4 with (fail)
    go_still_tail 5, (by kernel_rfl)
    change wpList _ _ _ _ _ Wd.drew
    go_wp2_with fail
    refine (HP.out _ (HRd.out.below (Below.refl _ _).drew)).mono ?_
    rintro e W4 ⟨rfl, col4, hR4, hC4⟩
    have hC4' := hC4
    replace hC4 : Cl col col4 w W4 := (Cl.of_below HBd.out.drew).trans hC4'
    cases xb with
    | false =>
      have HT : Hid (∃ col', RoM W4 col' g N n Ra ∧ Cl col col' w W4) := Lib.hid ⟨col4, by rw [Ha.out, if_neg (by decide)]; exact hR4, hC4⟩
      clear hR4 hC4 hC4'
      go_wp2
      go_end0
      exact ⟨rfl, HT.out⟩
    | true =>
      have Ha2 : Hid (Ra = (r.setN ds X2).send ⟨2, ds, fr, ⟨mb, md⟩, X2.votes⟩) := Lib.hid (by rw [Ha.out, if_pos rfl])
      have hB4 := HMd.out.k.kp ((Kp.drew _ Wd).trans hC4'.kp) fun e => e.1 HC0.out
      dsimp only at hB4
      have HVt5 : Hid (∀ W, Below W4.heap.size W4 W → Calls Try.prog 47 #[.pointer (some ⟨N, ds * 13, none⟩)] W fun e w' => ∃ B k c, e = .returned (.slice B k c) ∧ (w'.cell? ⟨w.heap.size, 0, none⟩ = some (.int .i64 (kd : Int)) ∧ w'.cell? ⟨w.heap.size, 1, none⟩ = some (.int .i64 (fr : Int)) ∧ w'.cell? ⟨w.heap.size, 2, none⟩ = some (.int .i64 (ds : Int)) ∧ w'.cell? ⟨w.heap.size, 3, none⟩ = some (.int .u64 (mb : Int)) ∧ w'.cell? ⟨w.heap.size, 4, none⟩ = some (.int .i64 md) ∧ w'.cell? ⟨w.heap.size, 5, none⟩ = some (.slice sA sN sC)) ∧ Hid (VotesS w col g N n (r.setN ds X2) X2.votes (.returned (.slice B k c)) w')) := Lib.hid fun W hb => by
        refine (HVt.out W col4 (hR4.below hb)).mono ?_
        rintro e w' ⟨B, k, c, vs', col5, rfl, q1, q2, q3, q4⟩
        have hb5 := (hB4.below hb hB4.lt).kp q4.kp fun e => by
          have : col4 w.heap.size = 0 := by rw [hC4'.old _ (by have := HMd.out.k.lt; exact this)]; exact HC0.out
          exact e.1 this
        exact ⟨B, k, c, rfl, ⟨hb5.cell 0, hb5.cell 1, hb5.cell 2, hb5.cell 3, hb5.cell 4, hb5.cell 5⟩, Lib.hid ⟨B, k, c, vs', col5, rfl, q1, q2, q3, (hC4.trans (Cl.of_below hb)).trans q4⟩⟩
      have HAn5 : Hid (∀ W B k c, Hid (VotesS w col g N n (r.setN ds X2) X2.votes (.returned (.slice B k c)) W) → Calls Try.prog 46 #[.pointer (some ⟨g, 0, none⟩), .agg #[.int .i64 (kd : Int), .int .i64 (fr : Int), .int .i64 (ds : Int), .int .u64 (mb : Int), .int .i64 md, .slice sA sN sC], .int .i64 2, .slice B k c] W fun e w' => e = .returned (.tuple #[]) ∧ Hid (∃ col', RoM w' col' g N n Ra ∧ Cl col col' w w')) := Lib.hid fun W B k c hv' => by
        obtain ⟨B', k', c', vs', col5, he, q1, q2, q3, q4⟩ := hv'.out
        injection he with he
        injection he with e1 e2 e3
        subst e1 e2 e3
        refine (HAn.out W col5 B k c vs' q3 q1 q2).mono ?_
        rintro e w' ⟨rfl, col', p1, p2⟩
        exact ⟨rfl, Lib.hid ⟨col', by rw [Ha2.out]; exact p1, q4.trans p2⟩⟩
      have y0 : W4.cell? ⟨w.heap.size, 0, none⟩ = some (.int .i64 (kd : Int)) := hB4.cell 0
      have y1 : W4.cell? ⟨w.heap.size, 1, none⟩ = some (.int .i64 (fr : Int)) := hB4.cell 1
      have y2 : W4.cell? ⟨w.heap.size, 2, none⟩ = some (.int .i64 (ds : Int)) := hB4.cell 2
      have y3 : W4.cell? ⟨w.heap.size, 3, none⟩ = some (.int .u64 (mb : Int)) := hB4.cell 3
      have y4 : W4.cell? ⟨w.heap.size, 4, none⟩ = some (.int .i64 md) := hB4.cell 4
      have y5 : W4.cell? ⟨w.heap.size, 5, none⟩ = some (.slice sA sN sC) := hB4.cell 5
      clear hR4 hC4 hC4' hB4 HVt HAn HP k0 k1 k2 k3 k4 k5
      go_upto_region 5 with (fail)
      go_region_law (go_simp; (first | (go_at_call 47; (refine (HVt5.out _ (by (repeat' (first | assumption | exact Below.refl _ _ | apply Below.drew | exact bel_drewN (Below.refl _ _) _)))).mono ?_); rintro x W5 ⟨B, k, c, rfl, ⟨u0, u1, u2, u3, u4, u5⟩, HV5⟩) | (go_at_call 46; (refine (HAn5.out _ _ _ _ HV5).mono ?_); rintro x W6 ⟨rfl, HT⟩)))
      all_goals
        go_wp2
        go_end0
        exact ⟨rfl, HT.out⟩
  · have ha : r.arrive m = (match ((r.node m.dst).gather m).1 with
      | some v => (r.setN m.dst ((r.node m.dst).gather m).2).sends r.nodes.length m.dst 3 m.bal [v]
      | none => r.setN m.dst ((r.node m.dst).gather m).2) := by unfold Ro.arrive; rw [if_neg (by omega), if_pos hk]; rfl
    have HF : Hid (∀ W, Below W1.heap.size W1 W → Below w.heap.size w W ∧ MBox w W m sA sN sC) := Lib.hid fun W hb => ⟨below_then hb0 hb, ⟨below_then hb0 hb, hkb.below hb hkb.lt⟩⟩
    have hgv := fun v => Nd.gather_vote (v := v) (hok.nodes _ (Ro.node_mem hdr)) hm
    have HG : Hid (∀ W, Below W1.heap.size W1 W → Calls Try.prog 48 #[.pointer (some ⟨N, m.dst * 13, none⟩), mlV m (sA, sN, sC)] W (GatherS W col g N n (r.setN m.dst ((r.node m.dst).gather m).2) ((r.node m.dst).gather m).1)) := Lib.hid fun W hb => gatherM (h1.below hb) m.dst hdn m _ vs hm (VsS.cl hv1 (Cl.of_below hb)) hvs
    obtain ⟨X, hX⟩ : ∃ X, (r.node m.dst).gather m = X := ⟨_, rfl⟩
    rw [hX] at ha HG
    have hgv : ∀ v, X.1 = some v → v.slot = 1 ∧ v.bal = m.bal ∧ v.val.length ≤ 100 := fun v e => hgv v (by rw [hX]; exact e)
    have HSA : Hid (∀ W col' s' vs' v, X.1 = some v → RoM W col' g N n (r.setN m.dst X.2) → VsS W col' s' vs' → [v] = vs'.map (·.1) → Calls Try.prog 36 #[.pointer (some ⟨g, 0, none⟩), .int .i64 (m.dst : Int), .int .i64 3, blV m.bal, .slice s'.1 s'.2.1 s'.2.2] W (NodeR W col' g N n ((r.setN m.dst X.2).sends r.nodes.length m.dst 3 m.bal [v]) (.tuple #[]))) := Lib.hid fun W col' s' vs' v hv0 hq hv' he => by
      obtain ⟨g1, g2, g3⟩ := hgv v hv0
      have := sendAll_any hq m.dst 3 m.bal s' vs' [v] hv' he (fun i hi => ⟨⟨by show 1 ≤ 3; omega, by show 3 ≤ 4; omega⟩, hm.dst, hi, hm.bal, by show 1 ≤ 1; omega, fun u hu => by rw [List.mem_singleton.1 hu]; exact ⟨g1, by rw [g2]; exact hm.bal, g3⟩, fun _ e => by cases e⟩)
      rw [Ro.setN_len] at this
      exact this
    have HOne : Hid (∀ v, X.1 = some v → v.One r.q.n) := Lib.hid fun v e => by
      obtain ⟨g1, g2, g3⟩ := hgv v e
      exact ⟨g1, by rw [g2]; exact hm.bal, g3⟩
    have Hn12 := Lib.hid hn12
    obtain ⟨Ra, hRa⟩ : ∃ Ra, r.arrive m = Ra := ⟨_, rfl⟩
    rw [hRa] at ha ⊢
    have Ha := Lib.hid ha
    have e1 : ¬ (m.kind : Int) = 1 := by omega
    have e2 : ((m.kind : Int) == 2) = true := by rw [hk]; rfl
    have e3 : ¬ (m.kind : Int) = 3 := by omega
    clear h hm hv hvs hnn hnq hdr hn12 hok hW1 hb0 hkb hmb hc0 h1 hv1 ha hk hX hRa Hvs hgv
    obtain ⟨kd, fr, ds, ⟨mb, md⟩, vl⟩ := m
    unfold mlV at HG ⊢
    unfold blV at HSA
    dsimp only at *
    obtain ⟨O, X2⟩ := X
    dsimp only at *
    go_enter Try.func37, Try.ntmps37
    go_upto_region 1 with (fail)
    rw [← HW.out]
    go_wp2_with fail
    go_region
    obtain ⟨hBd, hMd⟩ := HF.out W1.drew ((Below.refl _ _).drew)
    have HBd := Lib.hid hBd
    have HMd := Lib.hid hMd
    have HGd := Lib.hid (HG.out W1.drew ((Below.refl _ _).drew))
    clear k0 k1 k2 k3 k4 k5 c5 hBd hMd HF H1 HV1 HW HM HG
    generalize W1.drew = Wd at *
    obtain ⟨k0, k1, k2, k3, k4, k5⟩ := HMd.out.cells (Kp.refl (fun _ => False) Wd) (fun h => h)
    dsimp only at k0 k1 k2 k3 k4 k5
    go_wp2_with fail
    refine HGd.out.mono ?_
    rintro e W4 ⟨sl, bn, bd, vA, vn, vc, col4, rfl, hR4, hC4, hO⟩
    cases O with
    | none =>
      have HT : Hid (∀ W5, Below W4.heap.size W4 W5 → ∃ col', RoM W5 col' g N n Ra ∧ Cl col col' w W5) := Lib.hid fun W5 hb => ⟨col4, by rw [Ha.out]; exact hR4.below hb, ((Cl.of_below HBd.out).trans hC4).trans (Cl.of_below hb)⟩
      clear hR4 hC4 hO k0 k1 k2 k3 k4 k5
      simp only [Option.isSome_none]
      go_wp2
      go_end0
      exact ⟨rfl, HT.out _ (bel1P _)⟩
    | some v =>
      obtain ⟨rfl, rfl, rfl, hrd⟩ := hO v rfl
      have hB4 := HMd.out.k.kp hC4.kp fun e => e.1 HC0.out
      dsimp only at hB4
      obtain ⟨W5, hW5⟩ : ∃ W5, W5 = W4.alloc (.cells #[.int .u64 (v.slot : Int), .int .u64 (v.bal.n : Int), .int .i64 v.bal.node, .slice vA vn vc] 46) := ⟨_, rfl⟩
      have hb5 : Below W4.heap.size W4 W5 := by rw [hW5]; exact bel1P _
      have hz5 : W5.heap.size = W4.heap.size + 1 := by rw [hW5]; simp
      have hv5 : Bk W5 W4.heap.size 46 #[.int .u64 (v.slot : Int), .int .u64 (v.bal.n : Int), .int .i64 v.bal.node, .slice vA vn vc] := by rw [hW5]; exact Bk.new W4 _ _
      obtain ⟨W6, hW6⟩ : ∃ W6, W6 = W5.alloc (.cells #[.int .u64 (v.slot : Int), .int .u64 (v.bal.n : Int), .int .i64 v.bal.node, .slice vA vn vc] 46) := ⟨_, rfl⟩
      have hb6 : Below W5.heap.size W5 W6 := by rw [hW6]; exact bel1P _
      have hz6 : W6.heap.size = W5.heap.size + 1 := by rw [hW6]; simp
      have hb46 := below_then hb5 hb6
      have hRN := hR4.newB hb46
      have hcl5 : Cl col4 (colN col4 W4 W6) W4 W5 := ⟨Kp.of_below hb5, colN_old _ _ _⟩
      have hvs6 := VsS.one (col' := colN col4 W4 W6) (RdS.cl hrd hcl5) (HOne.out v rfl) Hn12.out (fun _ _ => rfl) (colN_new (by omega) (by omega))
      dsimp only at hvs6
      rw [← hW6] at hvs6
      have HS5 : Hid (Calls Try.prog 36 #[.pointer (some ⟨g, 0, none⟩), .int .i64 (ds : Int), .int .i64 3, .agg #[.int .u64 (mb : Int), .int .i64 md], .slice (some ⟨W5.heap.size, 0, none⟩) 1 1] W6 fun e w' => e = .returned (.tuple #[]) ∧ Hid (∃ col', RoM w' col' g N n Ra ∧ Cl col col' w w')) := Lib.hid (by
        refine (HSA.out W6 _ _ _ v rfl hRN.1 hvs6 rfl).mono ?_
        rintro e w' ⟨rfl, col', p1, p2⟩
        exact ⟨rfl, Lib.hid ⟨col', by rw [Ha.out]; exact p1, (((Cl.of_below HBd.out).trans hC4).trans hRN.2).trans p2⟩⟩)
      have hB5 := hB4.below hb5 hB4.lt
      have y2 : W5.cell? ⟨w.heap.size, 2, none⟩ = some (.int .i64 (ds : Int)) := hB5.cell 2
      have y3 : W5.cell? ⟨w.heap.size, 3, none⟩ = some (.int .u64 (mb : Int)) := hB5.cell 3
      have y4 : W5.cell? ⟨w.heap.size, 4, none⟩ = some (.int .i64 md) := hB5.cell 4
      have u0 : W5.cell? ⟨W4.heap.size, 0, none⟩ = some (.int .u64 (v.slot : Int)) := hv5.cell 0
      have u1 : W5.cell? ⟨W4.heap.size, 1, none⟩ = some (.int .u64 (v.bal.n : Int)) := hv5.cell 1
      have u2 : W5.cell? ⟨W4.heap.size, 2, none⟩ = some (.int .i64 v.bal.node) := hv5.cell 2
      have u3 : W5.cell? ⟨W4.heap.size, 3, none⟩ = some (.slice vA vn vc) := hv5.cell 3
      have HW5 := Lib.hid hW5
      have HW6 := Lib.hid hW6
      clear hR4 hC4 hO hB4 hW5 hb5 hz5 hv5 hW6 hb6 hz6 hb46 hRN hcl5 hvs6 hB5 hrd HSA k0 k1 k2 k3 k4 k5
      simp only [Option.isSome_some]
      go_upto_region 9 with (fail)
      rw [← HW5.out]
      go_wp2_with fail
      rw [← HW6.out]
      refine HS5.out.mono ?_
      rintro e w7 ⟨rfl, HT⟩
      go_wp2
      go_end0
      exact ⟨rfl, HT.out⟩
  · have ha : r.arrive m = if ((r.node m.dst).promise m.bal).1 then (r.setN m.dst { ((r.node m.dst).promise m.bal).2 with vote := m.votes.headD Vt.none_ }).send ⟨4, m.dst, m.frm, m.bal, []⟩ else r.setN m.dst ((r.node m.dst).promise m.bal).2 := by unfold Ro.arrive; rw [if_neg (by omega), if_neg (by omega), if_pos hk]
    have HF : Hid (∀ W, Below W1.heap.size W1 W → RoM W col g N n r ∧ VsS W col (sA, sN, sC) vs ∧ Below w.heap.size w W ∧ MBox w W m sA sN sC) := Lib.hid fun W hb => ⟨h1.below hb, VsS.cl hv1 (Cl.of_below hb), below_then hb0 hb, ⟨below_then hb0 hb, hkb.below hb hkb.lt⟩⟩
    have HP : Hid (∀ W, RoM W col g N n r → Calls Try.prog 45 #[.pointer (some ⟨N, m.dst * 13, none⟩), blV m.bal] W (NodeR W col g N n (r.setN m.dst ((r.node m.dst).promise m.bal).2) (.bool ((r.node m.dst).promise m.bal).1))) := Lib.hid fun W hq => promiseM hq m.dst hdn m.bal hm.bal
    have hxo := (hok.nodes _ (Ro.node_mem hdr)).promise hm.bal
    obtain ⟨X, hX⟩ : ∃ X, (r.node m.dst).promise m.bal = X := ⟨_, rfl⟩
    rw [hX] at ha HP hxo
    have hr1 : (r.setN m.dst X.2).node m.dst = X.2 := by rw [Ro.node_set r X.2 hdr, if_pos rfl]
    obtain ⟨⟨v0, ⟨vA, vn, vc⟩⟩, vr, hvr⟩ : ∃ e l, vs = e :: l := by
      cases vs with
      | nil => exact absurd (by rw [hvs]; rfl) (hm.three hk)
      | cons e l => exact ⟨e, l, rfl⟩
    have hhd : m.votes.headD Vt.none_ = v0 := by rw [hvs, hvr]; rfl
    have hvo : v0.One r.q.n := hm.votes v0 (by rw [hvs, hvr]; exact List.mem_cons_self ..)
    rw [hhd] at ha
    have hlo : (⟨4, m.dst, m.frm, m.bal, []⟩ : Ml).Ok r.q.n := ⟨⟨by show 1 ≤ 4; omega, by show 4 ≤ 4; omega⟩, hm.dst, hm.frm, hm.bal, Nat.zero_le _, fun u hu => (List.not_mem_nil hu).elim, fun e => by cases e⟩
    have HAn : Hid (∀ W col' R, R.q = r.q → RoM W col' g N n R → Calls Try.prog 46 #[.pointer (some ⟨g, 0, none⟩), mlV m (sA, sN, sC), .int .i64 4, .slice none 0 0] W (NodeR W col' g N n (R.send ⟨4, m.dst, m.frm, m.bal, []⟩) (.tuple #[]))) := Lib.hid fun W col' R hRq hq => answer_any hq m (sA, sN, sC) 4 s3N [] [] (VsS.nil _ _) rfl (by rw [hRq]; exact hlo)
    obtain ⟨Ra, hRa⟩ : ∃ Ra, r.arrive m = Ra := ⟨_, rfl⟩
    rw [hRa] at ha ⊢
    have Ha := Lib.hid ha
    have Hr1 := Lib.hid hr1
    have Hxo := Lib.hid hxo
    have Hvo := Lib.hid hvo
    have Hvr := Lib.hid hvr
    have hnq2 := Lib.hid hdr
    have e1 : ¬ (m.kind : Int) = 1 := by omega
    have e2 : ¬ (m.kind : Int) = 2 := by omega
    have e3 : ((m.kind : Int) == 3) = true := by rw [hk]; rfl
    clear h hm hv hvs hnn hnq hdr hn12 hok hW1 hb0 hkb hmb hc0 h1 hv1 ha hk hxo hX hr1 hvo hlo hRa hhd hvr Hvs
    obtain ⟨kd, fr, ds, ⟨mb, md⟩, vl⟩ := m
    unfold mlV at HAn ⊢
    unfold blV at HP
    dsimp only at *
    obtain ⟨xb, X2⟩ := X
    dsimp only at *
    go_enter Try.func37, Try.ntmps37
    go_upto_region 1 with (fail)
    rw [← HW.out]
    go_wp2_with fail
    go_region
    obtain ⟨hRd, hVd, hBd, hMd⟩ := HF.out W1.drew ((Below.refl _ _).drew)
    have HRd := Lib.hid hRd
    have HVd := Lib.hid hVd
    have HBd := Lib.hid hBd
    have HMd := Lib.hid hMd
    clear k0 k1 k2 k3 k4 k5 c5 hRd hVd hBd hMd HF H1 HV1 HW HM
    generalize W1.drew = Wd at *
    obtain ⟨k0, k1, k2, k3, k4, k5⟩ := HMd.out.cells (Kp.refl (fun _ => False) Wd) (fun h => h)
    dsimp only at k0 k1 k2 k3 k4 k5
    go_upto_region 11 with (fail)
    go_still_tail 5, (by kernel_rfl)
    change wpList _ _ _ _ _ Wd.drew
    go_wp2_with fail
    refine (HP.out _ (HRd.out.below (Below.refl _ _).drew)).mono ?_
    rintro e W4 ⟨rfl, col4, hR4, hC4⟩
    have hC4' := hC4
    replace hC4 : Cl col col4 w W4 := (Cl.of_below HBd.out.drew).trans hC4'
    cases xb with
    | false =>
      have HT : Hid (∃ col', RoM W4 col' g N n Ra ∧ Cl col col' w W4) := Lib.hid ⟨col4, by rw [Ha.out, if_neg (by decide)]; exact hR4, hC4⟩
      clear hR4 hC4 hC4'
      go_wp2
      go_end0
      exact ⟨rfl, HT.out⟩
    | true =>
      have hB4 := HMd.out.k.kp ((Kp.drew _ Wd).trans hC4'.kp) fun e => e.1 HC0.out
      dsimp only at hB4
      have hv4 : VsS W4 col4 (sA, sN, sC) vs := VsS.cl (VsS.cl HVd.out (Cl.of_below (Below.refl _ _).drew)) hC4'
      rw [Hvr.out] at hv4
      have hsn := hv4.len
      simp only [List.length_cons] at hsn
      obtain ⟨R', o', hsA, hR'4, hR'l, hcell⟩ := hv4.row (by dsimp only; omega)
      dsimp only at hsA
      subst hsA
      obtain ⟨v00, v01, v02, v03⟩ := hcell 0 (by simp)
      simp only [Nat.zero_mul, Nat.add_zero, List.getElem_cons_zero] at v00 v01 v02 v03
      obtain ⟨ve1, ve2, ve3, _⟩ := hv4.each _ (List.mem_cons_self ..)
      dsimp only at ve1 ve2 ve3
      obtain ⟨A4, sn4, sc4, Rr4, rc4, np4, es4, h4⟩ := hR4
      have hn4 := h4.nds
      have c2 := hn4.cell (k := 2) hdn (by omega)
      have c3 := hn4.cell (k := 3) hdn (by omega)
      have c4 := hn4.cell (k := 4) hdn (by omega)
      have c5 := hn4.cell (k := 5) hdn (by omega)
      have f2 := hn4.frozen (ds * 13 + 2)
      have f3 := hn4.frozen (ds * 13 + 3)
      have f4 := hn4.frozen (ds * 13 + 4)
      have f5 := hn4.frozen (ds * 13 + 5)
      obtain ⟨W5, hW5⟩ : ∃ W5, W5 = (((W4.setCell ⟨N, ds * 13 + 2, none⟩ (.int .u64 (v0.slot : Int))).setCell ⟨N, ds * 13 + 3, none⟩ (.int .u64 (v0.bal.n : Int))).setCell ⟨N, ds * 13 + 4, none⟩ (.int .i64 v0.bal.node)).setCell ⟨N, ds * 13 + 5, none⟩ (.slice vA vn vc) := ⟨_, rfl⟩
      have hk5 : Kp (fun k => k = N) W4 W5 := by rw [hW5]; exact (((Kp.set_ (F := fun k => k = N) (p := ⟨N, ds * 13 + 2, none⟩) rfl _).trans (Kp.set_ (F := fun k => k = N) (p := ⟨N, ds * 13 + 3, none⟩) rfl _)).trans (Kp.set_ (F := fun k => k = N) (p := ⟨N, ds * 13 + 4, none⟩) rfl _)).trans (Kp.set_ (F := fun k => k = N) (p := ⟨N, ds * 13 + 5, none⟩) rfl _)
      have hn5 := (((hn4.set_ (k := 2) hdn (by omega) (.int .u64 (v0.slot : Int))).set_ (k := 3) hdn (by omega) (.int .u64 (v0.bal.n : Int))).set_ (k := 4) hdn (by omega) (.int .i64 v0.bal.node)).set_ (k := 5) hdn (by omega) (.slice vA vn vc)
      rw [← hW5] at hn5
      have hcN4 := h4.cN
      have hz5 := hk5.size
      have hNw : ¬ w.heap.size = N := fun e => by
        have h' : col4 w.heap.size = 0 := by rw [hC4'.old _ HMd.out.k.lt]; exact HC0.out
        rw [e] at h'
        omega
      have hB5 := hB4.kp hk5 hNw
      have hm4 : ∀ k, col4 k = 4 → ¬ k = N := fun k e e2 => by rw [e2] at e; omega
      have hT := h4.turn (col' := col4) (x := { X2 with vote := v0 }) (y := { np4 ds with v := (vA, vn, vc) }) hdn (fun _ _ => rfl) (fun k hk => Nat.lt_of_lt_of_le (h4.lt k hk) hz5) (hk5.mono fun k e => .inl (by rw [e]; exact hcN4)) (hn5.congr fun j k hj hk => by
        by_cases e : j = ds
        · simp only [if_pos e, Hr1.out]
          rcases thirteen hk with rfl | rfl | rfl | rfl | rfl | rfl | rfl | rfl | rfl | rfl | rfl | rfl | rfl <;> rfl
        · simp only [if_neg e]) ⟨Hxo.out.seen, Hxo.out.prom, .inr Hvo.out, Hxo.out.pro, Hxo.out.nopro, Hxo.out.own, Hxo.out.len⟩ ⟨⟨ve1, ve2⟩, ve3.kp hk5 hm4⟩ (by
          have h' := h4.oo ds hdn
          rw [Hr1.out] at h'
          exact h'.kp hk5 hm4) (by
          have h' := h4.ll ds hdn
          rw [Hr1.out] at h'
          exact h'.kp hk5 hm4) (fun q hq => by
          obtain ⟨gp, g1, g2⟩ := h4.pp ds hdn q (by rw [Hr1.out]; exact hq)
          exact ⟨gp, g1, g2.kp hk5 fun k e e2 => by rw [e2] at e; omega⟩) (fun hq => h4.pn ds hdn (by rw [Hr1.out]; exact hq))
      have hss : (r.setN ds X2).setN ds { X2 with vote := v0 } = r.setN ds { X2 with vote := v0 } := by unfold Ro.setN; dsimp only; rw [List.set_set]
      rw [hss] at hT
      have HAn5 : Hid (Calls Try.prog 46 #[.pointer (some ⟨g, 0, none⟩), .agg #[.int .i64 (kd : Int), .int .i64 (fr : Int), .int .i64 (ds : Int), .int .u64 (mb : Int), .int .i64 md, .slice (some ⟨R', o', none⟩) sN sC], .int .i64 4, .slice none 0 0] W5 fun e w' => e = .returned (.tuple #[]) ∧ Hid (∃ col', RoM w' col' g N n Ra ∧ Cl col col' w w')) := Lib.hid (by
        refine (HAn.out W5 col4 (r.setN ds { X2 with vote := v0 }) rfl hT.1.m).mono ?_
        rintro e w' ⟨rfl, col', p1, p2⟩
        exact ⟨rfl, Lib.hid ⟨col', by rw [Ha.out, if_pos rfl]; exact p1, (hC4.trans hT.2).trans p2⟩⟩)
      have HW5 := Lib.hid hW5
      have y5 : W4.cell? ⟨w.heap.size, 5, none⟩ = some (.slice (some ⟨R', o', none⟩) sN sC) := hB4.cell 5
      have HB5 := Lib.hid hB5
      have hsnI : (0 : Int) < (sN : Int) := by omega
      have hsn0 : 0 < sN := by omega
      clear hC4 hC4' hB4 HP k0 k1 k2 k3 k4 k5 h4 hn4 hW5 hk5 hn5 hB5 hT hv4 hcell hR'4 hR'l ve1 ve2 ve3 hss hm4 hNw hsn HAn
      go_upto_region 13 with (fail)
      rw [← HW5.out]
      clear c2 c3 c4 c5 f2 f3 f4 f5 v00 v01 v02 v03 y5
      have z0 : W5.cell? ⟨w.heap.size, 0, none⟩ = some (.int .i64 (kd : Int)) := HB5.out.cell 0
      have z1 : W5.cell? ⟨w.heap.size, 1, none⟩ = some (.int .i64 (fr : Int)) := HB5.out.cell 1
      have z2 : W5.cell? ⟨w.heap.size, 2, none⟩ = some (.int .i64 (ds : Int)) := HB5.out.cell 2
      have z3 : W5.cell? ⟨w.heap.size, 3, none⟩ = some (.int .u64 (mb : Int)) := HB5.out.cell 3
      have z4 : W5.cell? ⟨w.heap.size, 4, none⟩ = some (.int .i64 md) := HB5.out.cell 4
      have z5 : W5.cell? ⟨w.heap.size, 5, none⟩ = some (.slice (some ⟨R', o', none⟩) sN sC) := HB5.out.cell 5
      go_wp2_with fail
      refine HAn5.out.mono ?_
      rintro e w6 ⟨rfl, HT⟩
      go_wp2
      go_end0
      exact ⟨rfl, HT.out⟩
  · have ha : r.arrive m = r.setN m.dst ((r.node m.dst).count m) := by unfold Ro.arrive; rw [if_neg (by omega), if_neg (by omega), if_neg (by omega), if_pos hk]
    have HC : Hid (Calls Try.prog 49 #[.pointer (some ⟨N, m.dst * 13, none⟩), mlV m (sA, sN, sC)] W1.drew (NodeR W1.drew col g N n (r.setN m.dst ((r.node m.dst).count m)) (.tuple #[]))) := Lib.hid (countM (h1.below ((Below.refl _ _).drew)) m.dst hdn m _ hm)
    rw [ha]
    have e1 : ¬ (m.kind : Int) = 1 := by omega
    have e2 : ¬ (m.kind : Int) = 2 := by omega
    have e3 : ¬ (m.kind : Int) = 3 := by omega
    have e4 : ((m.kind : Int) == 4) = true := by rw [hk]; rfl
    clear h hm hv hvs hnn hnq hdr hn12 hok hW1 hb0 hkb hmb hc0 h1 hv1 ha hk
    obtain ⟨kd, fr, ds, ⟨mb, md⟩, vl⟩ := m
    unfold mlV at HC ⊢
    dsimp only at *
    go_enter Try.func37, Try.ntmps37
    go_upto_region 1 with (fail)
    rw [← HW.out]
    go_wp2_with fail
    go_region
    go_wp2_with fail
    refine HC.out.mono ?_
    rintro e w2 ⟨rfl, col', q1, q2⟩
    have HT : Hid (∃ col', RoM w2 col' g N n (r.setN ds ((r.node ds).count ⟨kd, fr, ds, ⟨mb, md⟩, vl⟩)) ∧ Cl col col' w w2) := Lib.hid ⟨col', q1, (Cl.of_below HM.out.b.drew).trans q2⟩
    clear q1 q2
    go_wp2
    go_end0
    exact ⟨rfl, HT.out⟩
end
end Go.Proofs.Ytjapmolmgfaocaa

/- The program's room: Take, Drop, Twice, Crash. -/
namespace Go.Proofs.Ytjapmolmgfaocaa
open Go.RowKit Go.Maps

section
variable {w : World} {col : Nat → Nat} {g N n : Nat} {r : Ro}
theorem thereM (h : RoM w col g N n r) (a : Int) : Calls Try.prog 33 #[.pointer (some ⟨g, 0, none⟩), .int .i64 a] w fun e w' => e = .returned (.bool (r.is a)) ∧ w = w' := by
  obtain ⟨A, sn, sc, R, rc, np, es, h⟩ := h
  exact there_any h a
theorem cutM (h : RoM w col g N n r) (k : Nat) (hk : k < r.row.length) : Calls Try.prog 34 #[.pointer (some ⟨g, 6, none⟩), .int .i64 (k : Int)] w (CutS w col g N n r k) := by
  obtain ⟨A, sn, sc, R, rc, np, es, h⟩ := h
  exact rcut_any h k hk
theorem findM (h : RoM w col g N n r) (a : Int) : Calls Try.prog 30 #[.pointer (some ⟨g, 0, none⟩), .int .i64 a] w fun e w' => e = .returned (nodeP N r a) ∧ w = w' := by
  obtain ⟨A, sn, sc, R, rc, np, es, h⟩ := h
  exact find_any h a
set_option maxRecDepth 100000 in
set_option maxHeartbeats 4000000 in
theorem take_any (h : RoM w col g N n r) (a : Int) : Calls Try.prog 22 #[.pointer (some ⟨g, 0, none⟩), .int .i64 a] w (NodeR w col g N n (r.take a).2 (.bool (r.take a).1)) := by
  have HT := Lib.hid (thereM h a)
  cases hi : r.is a with
  | false =>
    have ht : r.take a = (false, r) := by unfold Ro.take; rw [if_neg (by rw [hi]; decide)]
    rw [ht]
    rw [hi] at HT
    have HD := Lib.hid h
    clear h hi ht
    go_enter Try.func22, Try.ntmps22
    go_wp2_with fail
    refine HT.out.mono ?_
    rintro e w2 ⟨rfl, rfl⟩
    go_wp2
    go_ret
    exact ⟨rfl, col, HD.out, Cl.refl _ _⟩
  | true =>
    have hi' := Ro.is_iff.1 hi
    obtain ⟨k, rfl⟩ := Int.eq_ofNat_of_zero_le hi'.1
    rw [Int.toNat_natCast] at hi'
    have ht : r.take (k : Int) = (true, (r.cut k).arrive (r.at_ k)) := by unfold Ro.take; rw [if_pos hi, Int.toNat_natCast]
    have hmo := h.ok.row _ (Ro.at_mem hi)
    rw [ht]
    rw [hi] at HT
    have HC := Lib.hid (cutM h k hi'.2)
    have HA : Hid (∀ W s vs, RoM W col g N n (r.cut k) → VsS W col s vs → (r.at_ k).votes = vs.map (·.1) → Calls Try.prog 37 #[.pointer (some ⟨g, 0, none⟩), mlV (r.at_ k) s] W (NodeR W col g N n ((r.cut k).arrive (r.at_ k)) (.tuple #[]))) := Lib.hid fun W s vs hq hv he => arrive_any hq (r.at_ k) s vs hmo hv he
    clear h hi ht hmo hi'
    go_enter Try.func22, Try.ntmps22
    go_wp2_with fail
    refine HT.out.mono ?_
    rintro e w2 ⟨rfl, rfl⟩
    go_wp2_with fail
    refine HC.out.mono ?_
    rintro e w3 ⟨sA, sN, sC, vs, rfl, hv, he, hR, hC⟩
    generalize r.at_ (k : Int) = m at *
    unfold mlV
    dsimp only
    have HA3 : Hid (Calls Try.prog 37 #[.pointer (some ⟨g, 0, none⟩), .agg #[.int .i64 (m.kind : Int), .int .i64 (m.frm : Int), .int .i64 (m.dst : Int), .int .u64 (m.bal.n : Int), .int .i64 m.bal.node, .slice sA sN sC]] w3 fun e w' => e = .returned (.tuple #[]) ∧ Hid (∃ col', RoM w' col' g N n ((r.cut k).arrive m) ∧ Cl col col' w w')) := Lib.hid (by
      refine (HA.out w3 (sA, sN, sC) vs hR hv he).mono ?_
      rintro e w' ⟨rfl, col', p1, p2⟩
      exact ⟨rfl, Lib.hid ⟨col', p1, hC.trans p2⟩⟩)
    clear hv he hR hC HC HA HT
    go_wp2_with fail
    refine HA3.out.mono ?_
    rintro e w4 ⟨rfl, HT⟩
    go_wp2
    go_ret
    exact ⟨rfl, HT.out⟩
set_option maxRecDepth 100000 in
set_option maxHeartbeats 4000000 in
theorem drop_any (h : RoM w col g N n r) (a : Int) : Calls Try.prog 20 #[.pointer (some ⟨g, 0, none⟩), .int .i64 a] w (NodeR w col g N n (r.drop a).2 (.bool (r.drop a).1)) := by
  have HT := Lib.hid (thereM h a)
  cases hi : r.is a with
  | false =>
    have ht : r.drop a = (false, r) := by unfold Ro.drop; rw [if_neg (by rw [hi]; decide)]
    rw [ht]
    rw [hi] at HT
    have HD := Lib.hid h
    clear h hi ht
    go_enter Try.func20, Try.ntmps20
    go_wp2_with fail
    refine HT.out.mono ?_
    rintro e w2 ⟨rfl, rfl⟩
    go_wp2
    go_ret
    exact ⟨rfl, col, HD.out, Cl.refl _ _⟩
  | true =>
    have hi' := Ro.is_iff.1 hi
    obtain ⟨k, rfl⟩ := Int.eq_ofNat_of_zero_le hi'.1
    rw [Int.toNat_natCast] at hi'
    have ht : r.drop (k : Int) = (true, r.cut k) := by unfold Ro.drop; rw [if_pos hi, Int.toNat_natCast]
    rw [ht]
    rw [hi] at HT
    have HC := Lib.hid (cutM h k hi'.2)
    clear h hi ht hi'
    go_enter Try.func20, Try.ntmps20
    go_wp2_with fail
    refine HT.out.mono ?_
    rintro e w2 ⟨rfl, rfl⟩
    go_wp2_with fail
    refine HC.out.mono ?_
    rintro e w3 ⟨sA, sN, sC, vs, rfl, hv, he, hR, hC⟩
    have HF := Lib.hid (And.intro hR hC)
    clear hv he hR hC HC HT
    unfold mlV
    generalize r.at_ (k : Int) = m at *
    go_wp2
    go_ret
    exact ⟨rfl, col, HF.out.1, HF.out.2⟩
set_option maxRecDepth 100000 in
set_option maxHeartbeats 4000000 in
theorem twice_any (h : RoM w col g N n r) (a : Int) : Calls Try.prog 28 #[.pointer (some ⟨g, 0, none⟩), .int .i64 a] w (NodeR w col g N n (r.twice a).2 (.bool (r.twice a).1)) := by
  have HT := Lib.hid (fun W (hb : Below w.heap.size w W) => thereM (h.below hb) a)
  cases hi : r.is a with
  | false =>
    have ht : r.twice a = (false, r) := by unfold Ro.twice; rw [if_neg (by rw [hi]; decide)]
    rw [ht]
    rw [hi] at HT
    have HD := Lib.hid h
    clear h hi ht
    have HQ : Hid (∀ q, Calls Try.prog 33 #[.pointer (some ⟨g, 0, none⟩), .int .i64 a] (w.drewN q) fun e w' => e = .returned (.bool false) ∧ w' = w.drewN q) := Lib.hid fun q => (HT.out (w.drewN q) (bel_drewN (Below.refl _ _) q)).mono fun _ _ h => ⟨h.1, h.2.symm⟩
    clear HT
    go_enter Try.func28, Try.ntmps28
    go_wp2_with fail
    go_quiet ((go_at_call 33; exact Calls.quiet_of_same (HQ.out _)))
    go_wp2
    go_ret
    exact ⟨rfl, col, HD.out.below (bel_drewN (Below.refl _ _) _), Cl.of_below (bel_drewN (Below.refl _ _) _)⟩
  | true =>
    have hi' := Ro.is_iff.1 hi
    obtain ⟨k, rfl⟩ := Int.eq_ofNat_of_zero_le hi'.1
    rw [Int.toNat_natCast] at hi'
    have hmo := h.ok.row _ (Ro.at_mem hi)
    have ht : r.twice (k : Int) = (decide (r.row.length < 200), r.send (r.at_ k)) := by
      unfold Ro.twice
      rw [if_pos hi]
      split
      · rename_i h2
        rw [decide_eq_false (by omega)]
        unfold Ro.send
        rw [if_pos h2]
      · rename_i h2
        rw [decide_eq_true (by omega)]
    rw [ht]
    rw [hi] at HT
    obtain ⟨A, sn, sc, R, rc, np, es, hc⟩ := h
    have hel := hc.elen
    have hke : k < es.length := by omega
    obtain ⟨b, hR, hnc, hcm, q0, q1, q2, q3, q4, q5⟩ := hc.letter k hke
    subst hR
    have hat : r.at_ (k : Int) = es[k].1 := by
      unfold Ro.at_
      rw [← hc.eq]
      simp [List.getD, hke]
    have heach := hc.each _ (List.getElem_mem hke)
    have c6 := hc.bk.cell 6
    replace c6 : w.cell? ⟨g, 6, none⟩ = some (.slice (some ⟨b, 0, none⟩) es.length rc) := c6
    rw [hat] at hmo ⊢
    obtain ⟨⟨m, ⟨sA, sN, sC⟩, vs⟩, hek⟩ : ∃ x, es[k] = x := ⟨_, rfl⟩
    rw [hek] at q0 q1 q2 q3 q4 q5 heach hmo ⊢
    dsimp only at q0 q1 q2 q3 q4 q5 heach hmo ⊢
    have HS : Hid (∀ W, Below w.heap.size w W → Calls Try.prog 42 #[.pointer (some ⟨g, 6, none⟩), .agg #[.int .i64 (m.kind : Int), .int .i64 (m.frm : Int), .int .i64 (m.dst : Int), .int .u64 (m.bal.n : Int), .int .i64 m.bal.node, .slice sA sN sC]] W fun e w' => e = .returned (.bool (decide (r.row.length < 200))) ∧ Hid (∃ col', RoM w' col' g N n (r.send m) ∧ Cl col col' w w')) := Lib.hid fun W hb => by
      refine (rsend_any (hc.below hb) m (sA, sN, sC) vs (VsS.cl heach.1 (Cl.of_below hb)) heach.2 hmo).mono ?_
      rintro e w' ⟨rfl, col', p1, p2⟩
      exact ⟨rfl, Lib.hid ⟨col', p1, (Cl.of_below hb).trans p2⟩⟩
    have hkI : (k : Int) < (es.length : Int) := by omega
    clear hc hel hek hat heach hi ht hmo hi'
    generalize decide (r.row.length < 200) = dl at *
    generalize es.length = L at *
    go_enter Try.func28, Try.ntmps28
    go_upto_region 1 with (fail)
    go_cut [4] (fun cv wx => cv = .bool dl ∧ Hid (∃ col', RoM wx col' g N n (r.send m) ∧ Cl col col' w wx))
    case first =>
      go_wp2_with fail
      go_region_law (go_simp; (first | (go_at_call 33; (refine (HT.out _ (by (repeat' (first | assumption | exact Below.refl _ _ | apply Below.drew | exact bel_drewN (Below.refl _ _) _)))).mono ?_); rintro x W5 ⟨rfl, rfl⟩) | (go_at_call 42; (refine (HS.out _ (by (repeat' (first | assumption | exact Below.refl _ _ | apply Below.drew | exact bel_drewN (Below.refl _ _) _)))).mono ?_); rintro x W6 ⟨rfl, HF⟩)))
      all_goals
        go_wp2_with fail
        go_meet
        exact ⟨rfl, HF⟩
    case rest =>
      obtain ⟨rfl, HF⟩ := hcut
      go_wp2
      go_ret
      exact ⟨rfl, HF.out⟩
set_option maxRecDepth 100000 in
set_option maxHeartbeats 8000000 in
theorem crash_any (h : RoM w col g N n r) (a : Int) : Calls Try.prog 29 #[.pointer (some ⟨g, 0, none⟩), .int .i64 a] w (NodeR w col g N n (r.crash a).2 (.int .i64 (r.crash a).1)) := by
  have HT := Lib.hid (findM h a)
  cases hi : r.has a with
  | false =>
    have ht : r.crash a = (2, r) := by unfold Ro.crash; rw [if_neg (by rw [hi]; decide)]
    rw [ht]
    have hp : nodeP N r a = .pointer none := by unfold nodeP; rw [if_neg (by rw [hi]; decide)]
    rw [hp] at HT
    have HD := Lib.hid h
    clear h hi ht hp
    go_enter Try.func29, Try.ntmps29
    go_wp2_with fail
    refine HT.out.mono ?_
    rintro e w2 ⟨rfl, rfl⟩
    go_wp2
    go_ret
    exact ⟨rfl, col, HD.out, Cl.refl _ _⟩
  | true =>
    have hi' := Ro.has_iff.1 hi
    obtain ⟨k, rfl⟩ := Int.eq_ofNat_of_zero_le hi'.1
    rw [Int.toNat_natCast] at hi'
    have ht : r.crash (k : Int) = (0, r.setN k (r.node k).crash) := by unfold Ro.crash; rw [if_pos hi, Int.toNat_natCast]
    have hp : nodeP N r (k : Int) = .pointer (some ⟨N, k * 13, none⟩) := by unfold nodeP; rw [if_pos hi, Int.toNat_natCast]
    rw [ht]
    rw [hp] at HT
    obtain ⟨A, sn', sc, R, rc, np, es, hc⟩ := h
    have hkn : k < n := by rw [← hc.nlen]; exact hi'.2
    obtain ⟨⟨⟨pn, pd⟩, ⟨vs, ⟨vb, vd⟩, vl⟩, sn, po, ba, ow, le, kn⟩, hX⟩ : ∃ X, r.node k = X := ⟨_, rfl⟩
    obtain ⟨⟨vA, vn, vc⟩, hv⟩ : ∃ y, (np k).v = y := ⟨_, rfl⟩
    have hxo := (hc.ok.nodes _ (Ro.node_mem hi'.2)).crash
    have hvv := hc.vv k hkn
    rw [hv] at hvv
    have c0 : w.cell? ⟨N, k * 13, none⟩ = some (.int .u64 (pn : Int)) := by rw [hc.nds.cell0 hkn, hX]; rfl
    have f0 := hc.nds.frozen (k * 13)
    have c1 : w.cell? ⟨N, k * 13 + 1, none⟩ = some (.int .i64 pd) := by rw [hc.nds.cell (k := 1) hkn (by omega), hX]; rfl
    have f1 := hc.nds.frozen (k * 13 + 1)
    have c2 : w.cell? ⟨N, k * 13 + 2, none⟩ = some (.int .u64 (vs : Int)) := by rw [hc.nds.cell (k := 2) hkn (by omega), hX]; rfl
    have f2 := hc.nds.frozen (k * 13 + 2)
    have c3 : w.cell? ⟨N, k * 13 + 3, none⟩ = some (.int .u64 (vb : Int)) := by rw [hc.nds.cell (k := 3) hkn (by omega), hX]; rfl
    have f3 := hc.nds.frozen (k * 13 + 3)
    have c4 : w.cell? ⟨N, k * 13 + 4, none⟩ = some (.int .i64 vd) := by rw [hc.nds.cell (k := 4) hkn (by omega), hX]; rfl
    have f4 := hc.nds.frozen (k * 13 + 4)
    have c5 : w.cell? ⟨N, k * 13 + 5, none⟩ = some (.slice vA vn vc) := by rw [hc.nds.cell (k := 5) hkn (by omega), hX]; show some (s3V (np k).v) = _; rw [hv]; rfl
    have f5 := hc.nds.frozen (k * 13 + 5)
    have c6 : w.cell? ⟨N, k * 13 + 6, none⟩ = some (.int .u64 (sn : Int)) := by rw [hc.nds.cell (k := 6) hkn (by omega), hX]; rfl
    have f6 := hc.nds.frozen (k * 13 + 6)
    have c7 := hc.nds.cell (k := 7) hkn (by omega)
    have f7 := hc.nds.frozen (k * 13 + 7)
    have c8 := hc.nds.cell (k := 8) hkn (by omega)
    have f8 := hc.nds.frozen (k * 13 + 8)
    have c9 := hc.nds.cell (k := 9) hkn (by omega)
    have f9 := hc.nds.frozen (k * 13 + 9)
    have c10 := hc.nds.cell (k := 10) hkn (by omega)
    have f10 := hc.nds.frozen (k * 13 + 10)
    have c11 := hc.nds.cell (k := 11) hkn (by omega)
    have f11 := hc.nds.frozen (k * 13 + 11)
    have c12 := hc.nds.cell (k := 12) hkn (by omega)
    have f12 := hc.nds.frozen (k * 13 + 12)
    obtain ⟨W5, hW5⟩ : ∃ W5, W5 = (((((((((((((w.setCell ⟨N, k * 13, none⟩ (.int .u64 (pn : Int))).setCell ⟨N, k * 13 + 1, none⟩ (.int .i64 pd)).setCell ⟨N, k * 13 + 2, none⟩ (.int .u64 (vs : Int))).setCell ⟨N, k * 13 + 3, none⟩ (.int .u64 (vb : Int))).setCell ⟨N, k * 13 + 4, none⟩ (.int .i64 vd)).setCell ⟨N, k * 13 + 5, none⟩ (.slice vA vn vc)).setCell ⟨N, k * 13 + 6, none⟩ (.int .u64 (sn : Int))).setCell ⟨N, k * 13 + 7, none⟩ (.pointer none)).setCell ⟨N, k * 13 + 8, none⟩ (.int .u64 0)).setCell ⟨N, k * 13 + 9, none⟩ (.int .i64 0)).setCell ⟨N, k * 13 + 10, none⟩ (.slice none 0 0)).setCell ⟨N, k * 13 + 11, none⟩ (.slice none 0 0)).setCell ⟨N, k * 13 + 12, none⟩ (.bool false)) := ⟨_, rfl⟩
    have hk5 : Kp (fun k => k = N) w W5 := by rw [hW5]; exact ((((((((((((Kp.set_ (F := fun k => k = N) (p := ⟨N, k * 13, none⟩) rfl _).trans (Kp.set_ (F := fun k => k = N) (p := ⟨N, k * 13 + 1, none⟩) rfl _)).trans (Kp.set_ (F := fun k => k = N) (p := ⟨N, k * 13 + 2, none⟩) rfl _)).trans (Kp.set_ (F := fun k => k = N) (p := ⟨N, k * 13 + 3, none⟩) rfl _)).trans (Kp.set_ (F := fun k => k = N) (p := ⟨N, k * 13 + 4, none⟩) rfl _)).trans (Kp.set_ (F := fun k => k = N) (p := ⟨N, k * 13 + 5, none⟩) rfl _)).trans (Kp.set_ (F := fun k => k = N) (p := ⟨N, k * 13 + 6, none⟩) rfl _)).trans (Kp.set_ (F := fun k => k = N) (p := ⟨N, k * 13 + 7, none⟩) rfl _)).trans (Kp.set_ (F := fun k => k = N) (p := ⟨N, k * 13 + 8, none⟩) rfl _)).trans (Kp.set_ (F := fun k => k = N) (p := ⟨N, k * 13 + 9, none⟩) rfl _)).trans (Kp.set_ (F := fun k => k = N) (p := ⟨N, k * 13 + 10, none⟩) rfl _)).trans (Kp.set_ (F := fun k => k = N) (p := ⟨N, k * 13 + 11, none⟩) rfl _)).trans (Kp.set_ (F := fun k => k = N) (p := ⟨N, k * 13 + 12, none⟩) rfl _)
    have hn5 := ((((((((((((hc.nds.set0 hkn (.int .u64 (pn : Int))).set_ (k := 1) hkn (by omega) (.int .i64 pd)).set_ (k := 2) hkn (by omega) (.int .u64 (vs : Int))).set_ (k := 3) hkn (by omega) (.int .u64 (vb : Int))).set_ (k := 4) hkn (by omega) (.int .i64 vd)).set_ (k := 5) hkn (by omega) (.slice vA vn vc)).set_ (k := 6) hkn (by omega) (.int .u64 (sn : Int))).set_ (k := 7) hkn (by omega) (.pointer none)).set_ (k := 8) hkn (by omega) (.int .u64 0)).set_ (k := 9) hkn (by omega) (.int .i64 0)).set_ (k := 10) hkn (by omega) (.slice none 0 0)).set_ (k := 11) hkn (by omega) (.slice none 0 0)).set_ (k := 12) hkn (by omega) (.bool false)
    rw [← hW5] at hn5
    have hcN := hc.cN
    have hz5 := hk5.size
    have hm4 : ∀ k, col k = 4 → ¬ k = N := fun k e e2 => by rw [e2] at e; omega
    have hT := hc.turn (col' := col) (x := (r.node k).crash) (y := ⟨(vA, vn, vc), none, s3N, s3N⟩) hkn (fun _ _ => rfl) (fun k hk => Nat.lt_of_lt_of_le (hc.lt k hk) hz5) (hk5.mono fun k e => .inl (by rw [e]; exact hcN)) (hn5.congr fun j m hj hm => by
      by_cases e : j = k
      · simp only [if_pos e, hX]
        rcases thirteen hm with rfl | rfl | rfl | rfl | rfl | rfl | rfl | rfl | rfl | rfl | rfl | rfl | rfl <;> rfl
      · simp only [if_neg e]) hxo (hvv.kp hk5 hm4) (RdS.nil _ _) (RdS.nil _ _) (fun q hq => by cases hq) (fun _ => rfl)
    have HT5 : Hid (RoM W5 col g N n (r.setN k (r.node k).crash) ∧ Cl col col w W5) := Lib.hid ⟨hT.1.m, hT.2⟩
    have HW5 := Lib.hid hW5
    clear hc hi ht hp hX hv hxo hvv hW5 hk5 hn5 hcN hz5 hm4 hT hi'
    go_enter Try.func29, Try.ntmps29
    go_wp2_with fail
    refine HT.out.mono ?_
    rintro e w2 ⟨rfl, rfl⟩
    go_wp2
    rw [← HW5.out]
    go_ret
    exact ⟨rfl, col, HT5.out⟩
end
end Go.Proofs.Ytjapmolmgfaocaa

/- The program's room: Learned, Voted, Look. -/
namespace Go.Proofs.Ytjapmolmgfaocaa
open Go.RowKit Go.Maps

section
variable {w : World} {col : Nat → Nat} {g N n : Nat} {r : Ro}
theorem findH (h : RoM w col g N n r) (a : Int) : Calls Try.prog 30 #[.pointer (some ⟨g, 0, none⟩), .int .i64 a] w fun e w' => e = .returned (nodeP N r a) ∧ w = w' := by
  obtain ⟨A, sn, sc, R, rc, np, es, h⟩ := h
  exact find_any h a
/-- What a node knows, as a copy. -/
def LearnR (w : World) (l : List UInt8) (b : Bool) (e : Ending) (w' : World) : Prop := ∃ A c, e = .returned (.tuple #[.slice A l.length c, .bool b]) ∧ w'.ownsRow w.heap.size 5 1 (.slice A l.length c) l.length (u8s l) ∧ Below w.heap.size w w'
def Ro.learned (r : Ro) (a : Int) : List UInt8 × Bool := if r.has a then ((r.node a.toNat).learned, (r.node a.toNat).knows) else ([], false)
theorem cloneS {W : World} {B c : Nat} {A : Option Addr} {l : List UInt8} (hr : Rd W B A l.length l) (hB : B ≤ W.heap.size) (hl : l.length ≤ 100) : Calls Try.prog 31 #[.slice A l.length c] W fun e w' => ∃ oA oc, e = .returned (.slice oA l.length oc) ∧ w'.ownsRow W.heap.size 5 1 (.slice oA l.length oc) l.length (u8s l) ∧ Below W.heap.size W w' := by
  refine (cloneB_any A l.length c B l W (by omega) hB hr).mono ?_
  rintro e w' ⟨u, rfl, ho, hb⟩
  obtain ⟨oA, oc, rfl, _⟩ := own_shape ho
  exact ⟨oA, oc, rfl, ho, hb⟩
set_option maxRecDepth 100000 in
set_option maxHeartbeats 4000000 in
theorem learned_any (h : RoM w col g N n r) (a : Int) : Calls Try.prog 13 #[.pointer (some ⟨g, 0, none⟩), .int .i64 a] w (LearnR w (r.learned a).1 (r.learned a).2) := by
  have HT := Lib.hid (findH h a)
  cases hi : r.has a with
  | false =>
    have ht : r.learned a = ([], false) := by unfold Ro.learned; rw [if_neg (by rw [hi]; decide)]
    rw [ht]
    have hp : nodeP N r a = .pointer none := by unfold nodeP; rw [if_neg (by rw [hi]; decide)]
    rw [hp] at HT
    clear h hi ht hp
    go_enter Try.func13, Try.ntmps13
    go_wp2_with fail
    refine HT.out.mono ?_
    rintro e w2 ⟨rfl, rfl⟩
    go_wp2
    go_ret2
    exact ⟨none, 0, rfl, World.ownsRow_nil _ _ _ _, Below.refl _ _⟩
  | true =>
    have hi' := Ro.has_iff.1 hi
    obtain ⟨k, rfl⟩ := Int.eq_ofNat_of_zero_le hi'.1
    rw [Int.toNat_natCast] at hi'
    have ht : r.learned (k : Int) = ((r.node k).learned, (r.node k).knows) := by unfold Ro.learned; rw [if_pos hi, Int.toNat_natCast]
    have hp : nodeP N r (k : Int) = .pointer (some ⟨N, k * 13, none⟩) := by unfold nodeP; rw [if_pos hi, Int.toNat_natCast]
    rw [ht]
    rw [hp] at HT
    obtain ⟨A, sn', sc, R, rc, np, es, hc⟩ := h
    have hkn : k < n := by rw [← hc.nlen]; exact hi'.2
    have hll := hc.ll k hkn
    have hxo := (hc.ok.nodes _ (Ro.node_mem hi'.2)).len
    have c11 : w.cell? ⟨N, k * 13 + 11, none⟩ = some (s3V (np k).l) := hc.nds.cell (k := 11) hkn (by omega)
    have c12 : w.cell? ⟨N, k * 13 + 12, none⟩ = some (.bool (r.node k).knows) := hc.nds.cell (k := 12) hkn (by omega)
    obtain ⟨⟨lA, ln, lc⟩, hv⟩ : ∃ y, (np k).l = y := ⟨_, rfl⟩
    rw [hv] at hll c11
    generalize (r.node k).knows = kn at *
    generalize (r.node k).learned = l at *
    obtain rfl : l.length = ln := hll.len
    have HC : Hid (∀ W, Below w.heap.size w W → W.cell? ⟨N, k * 13 + 12, none⟩ = some (.bool kn) ∧ W.cell? ⟨N, k * 13 + 11, none⟩ = some (.slice lA l.length lc) ∧ Calls Try.prog 31 #[.slice lA l.length lc] W fun e w' => ∃ oA oc, e = .returned (.slice oA l.length oc) ∧ w'.ownsRow W.heap.size 5 1 (.slice oA l.length oc) l.length (u8s l) ∧ Below W.heap.size W w') := Lib.hid fun W hb =>
      ⟨(hb.cell (p := ⟨N, k * 13 + 12, none⟩) hc.nds.lt).trans c12, (hb.cell (p := ⟨N, k * 13 + 11, none⟩) hc.nds.lt).trans c11, cloneS (hll.rd.below hb).rd (Nat.le_refl _) hxo⟩
    clear hc hi ht hp hv hll hxo c11 c12 hi'
    go_enter Try.func13, Try.ntmps13
    go_wp2_with fail
    refine HT.out.mono ?_
    rintro e w2 ⟨rfl, rfl⟩
    obtain ⟨c12, c11, _⟩ := HC.out w (Below.refl _ _)
    go_upto_region 4 with (fail)
    go_cut [4, 5] (fun sv bv wx => ∃ A c, sv = .slice A l.length c ∧ bv = .bool kn ∧ Hid (wx.ownsRow w.heap.size 5 1 (.slice A l.length c) l.length (u8s l) ∧ Below w.heap.size w wx))
    case first =>
      go_wp2_with fail
      go_region_law (go_simp; go_at_call 31; (refine ((HC.out _ (by (repeat' (first | assumption | exact Below.refl _ _ | apply Below.drew | exact bel_drewN (Below.refl _ _) _)))).2.2).mono ?_); rintro x W5 ⟨oA, oc, rfl, ho, hb⟩; (have hb5 : Below w.heap.size w W5 := bel_of_drewN (q := 1) hb); (have d12 := (HC.out W5 hb5).1))
      all_goals
        go_wp2_with fail
        go_meet
        exact ⟨oA, oc, rfl, rfl, Lib.hid ⟨ho, hb5⟩⟩
    case rest =>
      obtain ⟨A', c', rfl, rfl, HF⟩ := hcut
      clear c11 c12 HC HT
      go_wp2
      go_ret2
      exact ⟨A', c', rfl, HF.out.1, HF.out.2⟩
/-- A vote, as a copy. -/
def CloneV (w : World) (v : Vt) (e : Ending) (w' : World) : Prop := ∃ A c, e = .returned (.agg #[.int .u64 (v.slot : Int), .int .u64 (v.bal.n : Int), .int .i64 v.bal.node, .slice A v.val.length c]) ∧ w'.ownsRow w.heap.size 5 1 (.slice A v.val.length c) v.val.length (u8s v.val) ∧ Below w.heap.size w w'
theorem st4H (w : World) (B : Nat) (a b c d : Value) : Kp (fun j => j = B) w ((((w.setCell ⟨B, 0, none⟩ a).setCell ⟨B, 1, none⟩ b).setCell ⟨B, 2, none⟩ c).setCell ⟨B, 3, none⟩ d) := st4P w B a b c d
set_option maxRecDepth 100000 in
set_option maxHeartbeats 4000000 in
theorem vclone_any (v : Vt) (vA : Option Addr) (vc : Nat) (w : World) (hr : Rd w w.heap.size vA v.val.length v.val) (hl : v.val.length ≤ 100) : Calls Try.prog 32 #[.agg #[.int .u64 (v.slot : Int), .int .u64 (v.bal.n : Int), .int .i64 v.bal.node, .slice vA v.val.length vc]] w (CloneV w v) := by
  obtain ⟨W0, hW0⟩ : ∃ W0, W0 = w.alloc (.cells #[.int .u64 (v.slot : Int), .int .u64 (v.bal.n : Int), .int .i64 v.bal.node, .slice vA v.val.length vc] 46) := ⟨_, rfl⟩
  obtain ⟨W1, hW1⟩ : ∃ W1, W1 = W0.alloc (.cells #[.int .u64 0, .int .u64 0, .int .i64 0, .slice none 0 0] 46) := ⟨_, rfl⟩
  have hb00 : Below w.heap.size w W0 := by rw [hW0]; exact bel1P _
  have hb01 : Below W0.heap.size W0 W1 := by rw [hW1]; exact bel1P _
  have hs0 : W0.heap.size = w.heap.size + 1 := by rw [hW0]; simp
  have hs1 : W1.heap.size = w.heap.size + 2 := by rw [hW1, World.size_alloc, hs0]
  have hb0 := below_then hb00 hb01
  have hkb : Bk W1 w.heap.size 46 #[.int .u64 (v.slot : Int), .int .u64 (v.bal.n : Int), .int .i64 v.bal.node, .slice vA v.val.length vc] := by
    have : Bk W0 w.heap.size 46 #[.int .u64 (v.slot : Int), .int .u64 (v.bal.n : Int), .int .i64 v.bal.node, .slice vA v.val.length vc] := by rw [hW0]; exact Bk.new w _ _
    exact this.below hb01 this.lt
  have hkz : Bk W1 (w.heap.size + 1) 46 #[.int .u64 0, .int .u64 0, .int .i64 0, .slice none 0 0] := by
    have := Bk.new W0 46 #[.int .u64 0, .int .u64 0, .int .i64 0, .slice none 0 0]
    rw [← hW1, hs0] at this
    exact this
  have k3 : W1.cell? ⟨w.heap.size, 3, none⟩ = some (.slice vA v.val.length vc) := hkb.cell 3
  have HC := Lib.hid (cloneS (c := vc) (hr.up hb0) (Nat.le_refl _) hl)
  have HW0 := Lib.hid hW0
  have HW1 := Lib.hid hW1
  have HB := Lib.hid hb0
  have HKb := Lib.hid hkb
  have HKz := Lib.hid hkz
  have HS1 := Lib.hid hs1
  obtain ⟨sl, ⟨bn, bd⟩, vl⟩ := v
  dsimp only at *
  clear hr hl hW0 hW1 hb00 hb01 hb0 hkb hkz hs1
  go_enter Try.func32, Try.ntmps32
  go_upto_region 1 with (fail)
  rw [← HW0.out, ← HW1.out]
  go_wp2_with fail
  refine HC.out.mono ?_
  rintro e W2 ⟨oA, oc, rfl, ho, hb2⟩
  have hk2 := HKb.out.below hb2 HKb.out.lt
  have hz2 := HKz.out.below hb2 HKz.out.lt
  have u3 : W2.cell? ⟨w.heap.size, 3, none⟩ = some (.slice vA vl.length vc) := hk2.cell 3
  have g3 := hk2.frozen 3
  have hs := HS1.out
  have hk3 := hk2.set_ 3 (.slice oA vl.length oc)
  obtain ⟨W3, hW3⟩ : ∃ W3, W3 = W2.setCell ⟨w.heap.size, 3, none⟩ (.slice oA vl.length oc) := ⟨_, rfl⟩
  have hkp3 : Kp (fun k => k = w.heap.size) W2 W3 := by rw [hW3]; exact Kp.set_ (F := fun k => k = w.heap.size) (p := ⟨w.heap.size, 3, none⟩) rfl _
  rw [← hW3] at hk3
  have hz3 := hz2.kp hkp3 (fun e => by omega)
  have ho3 := own_kp ho hkp3 fun k e e2 => by have := (ho.lt k e).1; omega
  have hK3 : Kp (fun k => k = w.heap.size) w W3 := (Kp.of_below (below_then HB.out hb2)).trans hkp3
  have HW3 := Lib.hid hW3
  have HZ3 := Lib.hid hz3
  have HO3 := Lib.hid ho3
  have HK3 := Lib.hid hK3
  have c0 : W3.cell? ⟨w.heap.size, 0, none⟩ = some (.int .u64 (sl : Int)) := hk3.cell 0
  have c1 : W3.cell? ⟨w.heap.size, 1, none⟩ = some (.int .u64 (bn : Int)) := hk3.cell 1
  have c2 : W3.cell? ⟨w.heap.size, 2, none⟩ = some (.int .i64 bd) := hk3.cell 2
  have c3 : W3.cell? ⟨w.heap.size, 3, none⟩ = some (.slice oA vl.length oc) := hk3.cell 3
  have z0 : W3.cell? ⟨w.heap.size + 1, 0, none⟩ = some (.int .u64 0) := hz3.cell 0
  have z1 : W3.cell? ⟨w.heap.size + 1, 1, none⟩ = some (.int .u64 0) := hz3.cell 1
  have z2 : W3.cell? ⟨w.heap.size + 1, 2, none⟩ = some (.int .i64 0) := hz3.cell 2
  have z3 : W3.cell? ⟨w.heap.size + 1, 3, none⟩ = some (.slice none 0 0) := hz3.cell 3
  have f0 := hz3.frozen 0
  have f1 := hz3.frozen 1
  have f2 := hz3.frozen 2
  have f3 := hz3.frozen 3
  clear hk2 hz2 hk3 hW3 hkp3 hz3 ho3 hK3 ho hb2 hs k3 HC
  go_upto_region 2 with (fail)
  rw [← HW3.out]
  clear u3 g3
  go_wp2
  have hkp := st4P W3 (w.heap.size + 1) (.int .u64 (sl : Int)) (.int .u64 (bn : Int)) (.int .i64 bd) (.slice oA vl.length oc)
  have hk4 := HZ3.out.s4P (.int .u64 (sl : Int)) (.int .u64 (bn : Int)) (.int .i64 bd) (.slice oA vl.length oc)
  generalize ((((W3.setCell ⟨w.heap.size + 1, 0, none⟩ (.int .u64 (sl : Int))).setCell ⟨w.heap.size + 1, 1, none⟩ (.int .u64 (bn : Int))).setCell ⟨w.heap.size + 1, 2, none⟩ (.int .i64 bd)).setCell ⟨w.heap.size + 1, 3, none⟩ (.slice oA vl.length oc)) = w9 at *
  have j0 : w9.cell? ⟨w.heap.size + 1, 0, none⟩ = some (.int .u64 (sl : Int)) := hk4.cell 0
  have j1 : w9.cell? ⟨w.heap.size + 1, 1, none⟩ = some (.int .u64 (bn : Int)) := hk4.cell 1
  have j2 : w9.cell? ⟨w.heap.size + 1, 2, none⟩ = some (.int .i64 bd) := hk4.cell 2
  have j3 : w9.cell? ⟨w.heap.size + 1, 3, none⟩ = some (.slice oA vl.length oc) := hk4.cell 3
  refine bodyPost_ret (by simp [results, Try.results32, go_sem, j0, j1, j2, j3]; try rfl) rfl ?_
  have hs := HS1.out
  refine ⟨oA, oc, rfl, own_mono (own_kp HO3.out hkp fun k e e2 => ?_) (by omega), ((HK3.out.mono fun k e => (by omega : w.heap.size ≤ k)).trans (hkp.mono fun k e => (by omega : w.heap.size ≤ k))).below (fun k e => e) (Nat.le_refl _)⟩
  have := (HO3.out.lt k e).1
  omega
def Ro.voted (r : Ro) (a : Int) : Bl × Vt := if r.has a then ((r.node a.toNat).prom, (r.node a.toNat).vote) else (Bl.zero, Vt.none_)
def VotedR (w : World) (b : Bl) (v : Vt) (e : Ending) (w' : World) : Prop := ∃ A c, e = .returned (.tuple #[.agg #[.int .u64 (b.n : Int), .int .i64 b.node], .agg #[.int .u64 (v.slot : Int), .int .u64 (v.bal.n : Int), .int .i64 v.bal.node, .slice A v.val.length c]]) ∧ w'.ownsRow w.heap.size 5 1 (.slice A v.val.length c) v.val.length (u8s v.val) ∧ Below w.heap.size w w'
set_option maxRecDepth 100000 in
set_option maxHeartbeats 8000000 in
theorem voted_any (h : RoM w col g N n r) (a : Int) : Calls Try.prog 16 #[.pointer (some ⟨g, 0, none⟩), .int .i64 a] w (VotedR w (r.voted a).1 (r.voted a).2) := by
  obtain ⟨W0, hW0⟩ : ∃ W0, W0 = w.alloc (.cells #[.int .u64 0, .int .i64 0] 44) := ⟨_, rfl⟩
  obtain ⟨W1, hW1⟩ : ∃ W1, W1 = W0.alloc (.cells #[.int .u64 0, .int .u64 0, .int .i64 0, .slice none 0 0] 46) := ⟨_, rfl⟩
  have hb00 : Below w.heap.size w W0 := by rw [hW0]; exact bel1P _
  have hb01 : Below W0.heap.size W0 W1 := by rw [hW1]; exact bel1P _
  have hs0 : W0.heap.size = w.heap.size + 1 := by rw [hW0]; simp
  have hs1 : W1.heap.size = w.heap.size + 2 := by rw [hW1, World.size_alloc, hs0]
  have hb0 := below_then hb00 hb01
  have hkb : Bk W1 w.heap.size 44 #[.int .u64 0, .int .i64 0] := by
    have : Bk W0 w.heap.size 44 #[.int .u64 0, .int .i64 0] := by rw [hW0]; exact Bk.new w _ _
    exact this.below hb01 this.lt
  have hkz : Bk W1 (w.heap.size + 1) 46 #[.int .u64 0, .int .u64 0, .int .i64 0, .slice none 0 0] := by
    have := Bk.new W0 46 #[.int .u64 0, .int .u64 0, .int .i64 0, .slice none 0 0]
    rw [← hW1, hs0] at this
    exact this
  have HT := Lib.hid (findH (h.below hb0) a)
  have HW0 := Lib.hid hW0
  have HW1 := Lib.hid hW1
  have HZ : Hid (∀ W, Below W1.heap.size W1 W → (W.cell? ⟨w.heap.size, 0, none⟩ = some (.int .u64 0) ∧ W.cell? ⟨w.heap.size, 1, none⟩ = some (.int .i64 0) ∧ W.cell? ⟨w.heap.size + 1, 0, none⟩ = some (.int .u64 0) ∧ W.cell? ⟨w.heap.size + 1, 1, none⟩ = some (.int .u64 0) ∧ W.cell? ⟨w.heap.size + 1, 2, none⟩ = some (.int .i64 0) ∧ W.cell? ⟨w.heap.size + 1, 3, none⟩ = some (.slice none 0 0)) ∧
      (W.frozen? ⟨w.heap.size, 0, none⟩ = false ∧ W.frozen? ⟨w.heap.size, 1, none⟩ = false ∧ W.frozen? ⟨w.heap.size + 1, 0, none⟩ = false ∧ W.frozen? ⟨w.heap.size + 1, 1, none⟩ = false ∧ W.frozen? ⟨w.heap.size + 1, 2, none⟩ = false ∧ W.frozen? ⟨w.heap.size + 1, 3, none⟩ = false)) := Lib.hid fun W hb => by
    have q1 := hkb.below hb hkb.lt
    have q2 := hkz.below hb hkz.lt
    exact ⟨⟨q1.cell 0, q1.cell 1, q2.cell 0, q2.cell 1, q2.cell 2, q2.cell 3⟩, ⟨q1.frozen 0, q1.frozen 1, q2.frozen 0, q2.frozen 1, q2.frozen 2, q2.frozen 3⟩⟩
  -- the two results, stored
  have HSt : Hid (∀ (W : World) (pn : Nat) (pd : Int) (v : Vt) (A : Option Addr) (c : Nat), Below W1.heap.size W1 W → W.ownsRow W1.heap.size 5 1 (.slice A v.val.length c) v.val.length (u8s v.val) → ∀ w9, w9 = (((((W.setCell ⟨w.heap.size, 0, none⟩ (.int .u64 (pn : Int))).setCell ⟨w.heap.size, 1, none⟩ (.int .i64 pd)).setCell ⟨w.heap.size + 1, 0, none⟩ (.int .u64 (v.slot : Int))).setCell ⟨w.heap.size + 1, 1, none⟩ (.int .u64 (v.bal.n : Int))).setCell ⟨w.heap.size + 1, 2, none⟩ (.int .i64 v.bal.node)).setCell ⟨w.heap.size + 1, 3, none⟩ (.slice A v.val.length c) →
      Bk w9 w.heap.size 44 #[.int .u64 (pn : Int), .int .i64 pd] ∧ Bk w9 (w.heap.size + 1) 46 #[.int .u64 (v.slot : Int), .int .u64 (v.bal.n : Int), .int .i64 v.bal.node, .slice A v.val.length c] ∧ w9.ownsRow w.heap.size 5 1 (.slice A v.val.length c) v.val.length (u8s v.val) ∧ Below w.heap.size w w9) := Lib.hid fun W pn pd v A c hb ho w9 hw9 => by
    have q1 := hkb.below hb hkb.lt
    have q2 := hkz.below hb hkz.lt
    obtain ⟨w8, hw8⟩ : ∃ w8, w8 = (W.setCell ⟨w.heap.size, 0, none⟩ (.int .u64 (pn : Int))).setCell ⟨w.heap.size, 1, none⟩ (.int .i64 pd) := ⟨_, rfl⟩
    have e1 : Kp (fun k => k = w.heap.size) W w8 := by rw [hw8]; exact (Kp.set_ (F := fun k => k = w.heap.size) (p := ⟨w.heap.size, 0, none⟩) rfl _).trans (Kp.set_ (F := fun k => k = w.heap.size) (p := ⟨w.heap.size, 1, none⟩) rfl _)
    have q3 : Bk w8 w.heap.size 44 #[.int .u64 (pn : Int), .int .i64 pd] := by rw [hw8]; exact (q1.set_ 0 (.int .u64 (pn : Int))).set_ 1 (.int .i64 pd)
    rw [← hw8] at hw9
    have e2 : Kp (fun k => k = w.heap.size + 1) w8 w9 := by rw [hw9]; exact st4P w8 (w.heap.size + 1) _ _ _ _
    have q4 := q2.kp e1 (fun e => by omega)
    have q5 : Bk w9 (w.heap.size + 1) 46 #[.int .u64 (v.slot : Int), .int .u64 (v.bal.n : Int), .int .i64 v.bal.node, .slice A v.val.length c] := by rw [hw9]; exact q4.s4P _ _ _ _
    have hsz := hb.size
    refine ⟨q3.kp e2 (fun e => by omega), q5, own_mono (own_kp (own_kp ho e1 fun k e e' => by have := (ho.lt k e).1; omega) e2 fun k e e' => by have := (ho.lt k e).1; omega) (by omega), ?_⟩
    exact (((Kp.of_below (below_then hb0 hb) : Kp (fun k => w.heap.size ≤ k) w W).trans (e1.mono fun k e => (by omega : w.heap.size ≤ k))).trans (e2.mono fun k e => (by omega : w.heap.size ≤ k))).below (fun k e => e) (Nat.le_refl _)
  cases hi : r.has a with
  | false =>
    have ht : r.voted a = (Bl.zero, Vt.none_) := by unfold Ro.voted; rw [if_neg (by rw [hi]; decide)]
    rw [ht]
    have hp : nodeP N r a = .pointer none := by unfold nodeP; rw [if_neg (by rw [hi]; decide)]
    rw [hp] at HT
    clear h hi ht hp hW0 hW1 hb00 hb01 hb0 hkb hkz hs1
    go_enter Try.func16, Try.ntmps16
    go_upto_region 1 with (fail)
    rw [← HW0.out, ← HW1.out]
    go_wp2_with fail
    refine HT.out.mono ?_
    rintro e w2 ⟨rfl, rfl⟩
    obtain ⟨⟨c0, c1, c2, c3, c4, c5⟩, ⟨f0, f1, f2, f3, f4, f5⟩⟩ := HZ.out W1 (Below.refl _ _)
    go_wp2
    obtain ⟨w9, hw9⟩ : ∃ w9, w9 = (((((W1.setCell ⟨w.heap.size, 0, none⟩ (.int .u64 0)).setCell ⟨w.heap.size, 1, none⟩ (.int .i64 0)).setCell ⟨w.heap.size + 1, 0, none⟩ (.int .u64 0)).setCell ⟨w.heap.size + 1, 1, none⟩ (.int .u64 0)).setCell ⟨w.heap.size + 1, 2, none⟩ (.int .i64 0)).setCell ⟨w.heap.size + 1, 3, none⟩ (.slice none 0 0) := ⟨_, rfl⟩
    rw [← hw9]
    obtain ⟨p1, p2, p3, p4⟩ := HSt.out W1 0 0 Vt.none_ none 0 (Below.refl _ _) (World.ownsRow_nil _ _ _ _) w9 hw9
    have j0 : w9.cell? ⟨w.heap.size, 0, none⟩ = some (.int .u64 0) := p1.cell 0
    have j1 : w9.cell? ⟨w.heap.size, 1, none⟩ = some (.int .i64 0) := p1.cell 1
    have j2 : w9.cell? ⟨w.heap.size + 1, 0, none⟩ = some (.int .u64 0) := p2.cell 0
    have j3 : w9.cell? ⟨w.heap.size + 1, 1, none⟩ = some (.int .u64 0) := p2.cell 1
    have j4 : w9.cell? ⟨w.heap.size + 1, 2, none⟩ = some (.int .i64 0) := p2.cell 2
    have j5 : w9.cell? ⟨w.heap.size + 1, 3, none⟩ = some (.slice none 0 0) := p2.cell 3
    clear hw9
    refine bodyPost_ret (by simp [results, Try.results16, go_sem, j0, j1, j2, j3, j4, j5]; try rfl) rfl ?_
    exact ⟨none, 0, rfl, p3, p4⟩
  | true =>
    have hi' := Ro.has_iff.1 hi
    obtain ⟨k, rfl⟩ := Int.eq_ofNat_of_zero_le hi'.1
    rw [Int.toNat_natCast] at hi'
    have ht : r.voted (k : Int) = ((r.node k).prom, (r.node k).vote) := by unfold Ro.voted; rw [if_pos hi, Int.toNat_natCast]
    have hp : nodeP N r (k : Int) = .pointer (some ⟨N, k * 13, none⟩) := by unfold nodeP; rw [if_pos hi, Int.toNat_natCast]
    rw [ht]
    rw [hp] at HT
    obtain ⟨A, sn', sc, R, rc, np, es, hc⟩ := h.below hb0
    have hkn : k < n := by rw [← hc.nlen]; exact hi'.2
    have hvv := hc.vv k hkn
    have hxo := (hc.ok.nodes _ (Ro.node_mem hi'.2)).vote
    have hlen : (r.node k).vote.val.length ≤ 100 := by
      rcases hxo with e | e
      · rw [e]; exact Nat.zero_le _
      · exact e.len
    have c0 : W1.cell? ⟨N, k * 13, none⟩ = some (.int .u64 ((r.node k).prom.n : Int)) := hc.nds.cell0 hkn
    have c1 : W1.cell? ⟨N, k * 13 + 1, none⟩ = some (.int .i64 (r.node k).prom.node) := hc.nds.cell (k := 1) hkn (by omega)
    have c2 : W1.cell? ⟨N, k * 13 + 2, none⟩ = some (.int .u64 ((r.node k).vote.slot : Int)) := hc.nds.cell (k := 2) hkn (by omega)
    have c3 : W1.cell? ⟨N, k * 13 + 3, none⟩ = some (.int .u64 ((r.node k).vote.bal.n : Int)) := hc.nds.cell (k := 3) hkn (by omega)
    have c4 : W1.cell? ⟨N, k * 13 + 4, none⟩ = some (.int .i64 (r.node k).vote.bal.node) := hc.nds.cell (k := 4) hkn (by omega)
    have c5 : W1.cell? ⟨N, k * 13 + 5, none⟩ = some (s3V (np k).v) := hc.nds.cell (k := 5) hkn (by omega)
    obtain ⟨⟨vA, vn, vc⟩, hv⟩ : ∃ y, (np k).v = y := ⟨_, rfl⟩
    rw [hv] at hvv c5
    generalize (r.node k).prom = b at *
    generalize (r.node k).vote = v at *
    obtain rfl : v.val.length = vn := hvv.len
    have HC : Hid (∀ W, Below W1.heap.size W1 W → (W.cell? ⟨N, k * 13, none⟩ = some (.int .u64 (b.n : Int)) ∧ W.cell? ⟨N, k * 13 + 1, none⟩ = some (.int .i64 b.node)) ∧ Calls Try.prog 32 #[.agg #[.int .u64 (v.slot : Int), .int .u64 (v.bal.n : Int), .int .i64 v.bal.node, .slice vA v.val.length vc]] W (CloneV W v)) := Lib.hid fun W hb =>
      ⟨⟨(hb.cell (p := ⟨N, k * 13, none⟩) hc.nds.lt).trans c0, (hb.cell (p := ⟨N, k * 13 + 1, none⟩) hc.nds.lt).trans c1⟩, vclone_any v vA vc W (hvv.rd.below hb).rd hlen⟩
    obtain ⟨bn, bd⟩ := b
    obtain ⟨sl, ⟨vb, vd⟩, vl⟩ := v
    dsimp only at *
    clear h hi ht hp hW0 hW1 hb00 hb01 hb0 hkb hkz hs1 hc hv hvv hxo hlen hi'
    have e5 : W1.cell? ⟨N, k * 13 + 5, none⟩ = some (.slice vA vl.length vc) := c5
    clear c5
    go_enter Try.func16, Try.ntmps16
    go_upto_region 1 with (fail)
    rw [← HW0.out, ← HW1.out]
    go_wp2_with fail
    refine HT.out.mono ?_
    rintro e w2 ⟨rfl, rfl⟩
    go_upto_region 4 with (fail)
    go_cut [24] (fun _ wx => Hid (∃ W A c, Below W1.heap.size W1 W ∧ W.ownsRow W1.heap.size 5 1 (.slice A vl.length c) vl.length (u8s vl) ∧ wx = (((((W.setCell ⟨w.heap.size, 0, none⟩ (.int .u64 (bn : Int))).setCell ⟨w.heap.size, 1, none⟩ (.int .i64 bd)).setCell ⟨w.heap.size + 1, 0, none⟩ (.int .u64 (sl : Int))).setCell ⟨w.heap.size + 1, 1, none⟩ (.int .u64 (vb : Int))).setCell ⟨w.heap.size + 1, 2, none⟩ (.int .i64 vd)).setCell ⟨w.heap.size + 1, 3, none⟩ (.slice A vl.length c)))
    case first =>
      go_wp2_with fail
      go_region_law (go_simp; go_at_call 32; (refine ((HC.out _ (by (repeat' (first | assumption | exact Below.refl _ _ | apply Below.drew | exact bel_drewN (Below.refl _ _) _)))).2).mono ?_); rintro x W5 ⟨oA, oc, rfl, ho, hb⟩; (have hb5 : Below W1.heap.size W1 W5 := bel_of_drewN (q := 1) hb); (obtain ⟨⟨d0, d1⟩, _⟩ := HC.out W5 hb5); (obtain ⟨⟨x0, x1, x2, x3, x4, x5⟩, ⟨g0, g1, g2, g3, g4, g5⟩⟩ := HZ.out W5 hb5))
      all_goals
        go_wp2_with fail
        go_meet
        exact Lib.hid ⟨W5, oA, oc, hb5, ho, rfl⟩
    case rest =>
      obtain ⟨W, A', c', q1, q2, q3⟩ := hcut.out
      obtain ⟨p1, p2, p3, p4⟩ := HSt.out W bn bd ⟨sl, ⟨vb, vd⟩, vl⟩ A' c' q1 q2 wc q3
      clear q1 q2 q3 hcut c0 c1 c2 c3 c4 e5 HC HT HZ HSt
      go_wp2
      have j0 : wc.cell? ⟨w.heap.size, 0, none⟩ = some (.int .u64 (bn : Int)) := p1.cell 0
      have j1 : wc.cell? ⟨w.heap.size, 1, none⟩ = some (.int .i64 bd) := p1.cell 1
      have j2 : wc.cell? ⟨w.heap.size + 1, 0, none⟩ = some (.int .u64 (sl : Int)) := p2.cell 0
      have j3 : wc.cell? ⟨w.heap.size + 1, 1, none⟩ = some (.int .u64 (vb : Int)) := p2.cell 1
      have j4 : wc.cell? ⟨w.heap.size + 1, 2, none⟩ = some (.int .i64 vd) := p2.cell 2
      have j5 : wc.cell? ⟨w.heap.size + 1, 3, none⟩ = some (.slice A' vl.length c') := p2.cell 3
      refine bodyPost_ret (by simp [results, Try.results16, go_sem, j0, j1, j2, j3, j4, j5]; try rfl) rfl ?_
      exact ⟨A', c', rfl, p3, p4⟩
end
end Go.Proofs.Ytjapmolmgfaocaa

/- The program's room: a node's new proposer. -/
namespace Go.Proofs.Ytjapmolmgfaocaa
open Go.RowKit Go.Maps

section
variable {w : World} {col : Nat → Nat} {g N n sn sc rc : Nat} {A R : Option Addr} {np : Nat → Np} {es : List Mle} {r : Ro}
theorem RoC.q (h : RoC w col g N n A sn sc R rc np es r) : Qi w r.q A sn sc := ⟨h.qi.1, h.qi.2.1, h.qi.2.2.1, h.qi.2.2.2, h.sit.cap, h.sit.rd⟩
set_option maxRecDepth 100000 in
set_option maxHeartbeats 8000000 in
theorem nstart_any (h : RoC w col g N n A sn sc R rc np es r) (i : Nat) (hi : i < n) (b : Bl) (hb : b.Fine r.q.n) (vA : Option Addr) (vn vc : Nat) (v : List UInt8) (hv : RdG w (fun k => col k = 0) vA vn v) (hvl : v.length ≤ 100) :
    Calls Try.prog 35 #[.pointer (some ⟨N, i * 13, none⟩), qV r.q (.slice A sn sc), blV b, .slice vA vn vc] w (NodeR w col g N n (r.setN i ((r.node i).start r.q b v)) (.tuple #[])) := by
  have hin : i < r.nodes.length := by rw [h.nlen]; exact hi
  have hx := (h.ok.nodes _ (Ro.node_mem (r := r) hin)).start h.ok.right hb hvl
  have h12 := h.ok.n12
  obtain ⟨W0, hW0⟩ : ∃ W0, W0 = w.alloc (.cells #[.int .i64 r.q.kind, .int .i64 r.q.nodes, .int .i64 r.q.one, .int .i64 r.q.two, .slice A sn sc] 24) := ⟨_, rfl⟩
  obtain ⟨W1, hW1⟩ : ∃ W1, W1 = W0.alloc (.cells #[.int .u64 (b.n : Int), .int .i64 b.node] 44) := ⟨_, rfl⟩
  have hb00 : Below w.heap.size w W0 := by rw [hW0]; exact bel1P _
  have hb01 : Below W0.heap.size W0 W1 := by rw [hW1]; exact bel1P _
  have hs0 : W0.heap.size = w.heap.size + 1 := by rw [hW0]; simp
  have hs1 : W1.heap.size = w.heap.size + 2 := by rw [hW1, World.size_alloc, hs0]
  have hb0 := below_then hb00 hb01
  have hkq : Bk W1 w.heap.size 24 #[.int .i64 r.q.kind, .int .i64 r.q.nodes, .int .i64 r.q.one, .int .i64 r.q.two, .slice A sn sc] := by
    have : Bk W0 w.heap.size 24 #[.int .i64 r.q.kind, .int .i64 r.q.nodes, .int .i64 r.q.one, .int .i64 r.q.two, .slice A sn sc] := by rw [hW0]; exact Bk.new w _ _
    exact this.below hb01 this.lt
  have hkb : Bk W1 (w.heap.size + 1) 44 #[.int .u64 (b.n : Int), .int .i64 b.node] := by
    have := Bk.new W0 44 #[.int .u64 (b.n : Int), .int .i64 b.node]
    rw [← hW1, hs0] at this
    exact this
  have h1 := h.below hb0
  have hn1 := h1.nds
  have hNl := h.nds.lt
  -- the stores
  have hn2 := hn1.set_ (k := 6) hi (by omega) (.int .u64 (b.n : Int))
  have hn3 := (hn2.set_ (k := 8) hi (by omega) (.int .u64 (b.n : Int))).set_ (k := 9) hi (by omega) (.int .i64 b.node)
  obtain ⟨W2, hW2⟩ : ∃ W2, W2 = W1.setCell ⟨N, i * 13 + 6, none⟩ (.int .u64 (b.n : Int)) := ⟨_, rfl⟩
  rw [← hW2] at hn2 hn3
  obtain ⟨W3, hW3⟩ : ∃ W3, W3 = (W2.setCell ⟨N, i * 13 + 8, none⟩ (.int .u64 (b.n : Int))).setCell ⟨N, i * 13 + 9, none⟩ (.int .i64 b.node) := ⟨_, rfl⟩
  rw [← hW3] at hn3
  have hk2 : Kp (fun k => k = N) W1 W2 := by rw [hW2]; exact Kp.set_ (F := fun k => k = N) (p := ⟨N, i * 13 + 6, none⟩) rfl _
  have hk3 : Kp (fun k => k = N) W2 W3 := by rw [hW3]; exact (Kp.set_ (F := fun k => k = N) (p := ⟨N, i * 13 + 8, none⟩) rfl _).trans (Kp.set_ (F := fun k => k = N) (p := ⟨N, i * 13 + 9, none⟩) rfl _)
  have hk13 := hk2.trans hk3
  have hcN := h.cN
  have hkN4 : ∀ k, col k = 4 → ¬ k = N := fun k e e2 => by rw [e2] at e; omega
  have hsz3 : W3.heap.size = W1.heap.size := by rw [hW3, hW2]; simp [World.setCell]
  have hq0 := hkq.kp hk13 (fun e => by omega)
  have hb3 := hkb.kp hk13 (fun e => by omega)
  have hq2 := hkq.kp hk2 (fun e => by omega)
  have hb2 := hkb.kp hk2 (fun e => by omega)
  have hv3 := (hv.below hb0).kp hk13 (fun k e e2 => by rw [e2] at e; omega)
  have hvn : vn = v.length := hv.1.symm
  subst hvn
  have HCl : Hid (Calls Try.prog 31 #[.slice vA v.length vc] W3 fun e w' => ∃ oA oc, e = .returned (.slice oA v.length oc) ∧ w'.ownsRow W3.heap.size 5 1 (.slice oA v.length oc) v.length (u8s v) ∧ Below W3.heap.size W3 w') := Lib.hid (by
    refine (cloneB_any vA v.length vc W3.heap.size v W3 (by omega) (Nat.le_refl _) hv3.rd).mono ?_
    rintro e w' ⟨u, rfl, ho, hb⟩
    obtain ⟨oA, oc, rfl, _⟩ := own_shape ho
    exact ⟨oA, oc, rfl, ho, hb⟩)
  have hKw3 : Kp (fun k => k = N) w W3 := (Kp.of_below hb0).trans hk13
  have HNew : Hid (∀ W, Kp (fun k => k = N) w W → Calls Try.prog 44 #[qV r.q (.slice A sn sc), blV b, .int .u64 1] W (NewR r.q b 1 W)) := Lib.hid fun W hk => by
    have hq : Qi W r.q A sn sc := ⟨h.qi.1, h.qi.2.1, h.qi.2.2.1, h.qi.2.2.2, h.sit.cap, (h.sit.kp hk hkN4).rd⟩
    exact pnew_any r.q A sn sc b 1 W hq h.ok.right (hb.right h12) (by have := hb.n1; omega) (by omega) (by omega) h.sn6
  have HD := Lib.hid h
  have Hx := Lib.hid hx
  have HN3 := Lib.hid hn3
  have HQ3 := Lib.hid hq0
  have HB3 := Lib.hid hb3
  have HK3 := Lib.hid hKw3
  have HW0 := Lib.hid hW0
  have HW1 := Lib.hid hW1
  have HW2 := Lib.hid hW2
  have HW3 := Lib.hid hW3
  have HZ3 : Hid (W3.heap.size = w.heap.size + 2) := Lib.hid (by omega)
  have b10 : W1.cell? ⟨w.heap.size + 1, 0, none⟩ = some (.int .u64 (b.n : Int)) := hkb.cell 0
  have b20 : W2.cell? ⟨w.heap.size + 1, 0, none⟩ = some (.int .u64 (b.n : Int)) := hb2.cell 0
  have b21 : W2.cell? ⟨w.heap.size + 1, 1, none⟩ = some (.int .i64 b.node) := hb2.cell 1
  have c6 := hn1.cell (k := 6) hi (by omega)
  have c8 := hn2.cell (k := 8) hi (by omega)
  have c9 := hn2.cell (k := 9) hi (by omega)
  have f6 := hn1.frozen (i * 13 + 6)
  have f8 := hn2.frozen (i * 13 + 8)
  have f9 := hn2.frozen (i * 13 + 9)
  have HcN := Lib.hid hcN
  have HNl := Lib.hid hNl
  have HS0 := hs0
  clear h hx hv hW0 hW1 hW2 hW3 hb00 hb01 hs1 hb0 hkq hkb h1 hn1 hn2 hn3 hk2 hk3 hk13 hcN hkN4 hsz3 hq0 hb3 hq2 hb2 hv3 hKw3 hNl hs0 hin
  unfold qV at HNew ⊢
  unfold blV at HNew ⊢
  go_enter Try.func35, Try.ntmps35
  go_upto_region 1 with (fail)
  rw [← HW0.out, ← HW1.out]
  go_upto_region 2 with (fail)
  rw [← HW2.out]
  go_upto_region 3 with (fail)
  rw [← HW3.out]
  clear b10 b20 b21 c6 c8 c9 f6 f8 f9
  go_wp2_with fail
  refine HCl.out.mono ?_
  rintro e W4 ⟨oA, oc, rfl, ho4, hb4⟩
  have hn4 := HN3.out.kp (Kp.of_below (F := fun _ => False) hb4) (fun h => h)
  have c10 := hn4.cell (k := 10) hi (by omega)
  have f10 := hn4.frozen (i * 13 + 10)
  obtain ⟨W5, hW5⟩ : ∃ W5, W5 = W4.setCell ⟨N, i * 13 + 10, none⟩ (.slice oA v.length oc) := ⟨_, rfl⟩
  have hk5 : Kp (fun k => k = N) W4 W5 := by rw [hW5]; exact Kp.set_ (F := fun k => k = N) (p := ⟨N, i * 13 + 10, none⟩) rfl _
  have hn5 := hn4.set_ (k := 10) hi (by omega) (.slice oA v.length oc)
  rw [← hW5] at hn5
  have hz5 : W5.heap.size = W4.heap.size := by rw [hW5]; simp [World.setCell]
  have hNs : ¬ w.heap.size = N := fun e => by have := HNl.out; omega
  have hNs1 : ¬ w.heap.size + 1 = N := fun e => by have := HNl.out; omega
  have hq5 := (HQ3.out.below hb4 HQ3.out.lt).kp hk5 hNs
  have hb5 := (HB3.out.below hb4 HB3.out.lt).kp hk5 hNs1
  have hKw5 := (HK3.out.trans (Kp.of_below hb4)).trans hk5
  have ho5 := own_kp ho4 hk5 fun k e e2 => by have := (ho4.lt k e).1; have := HZ3.out; have := HNl.out; omega
  have HKw5 := Lib.hid hKw5
  have HN5 := Lib.hid hn5
  have HO5 := Lib.hid ho5
  have HW5 := Lib.hid hW5
  have HZ5 := Lib.hid hz5
  have HZ4 := Lib.hid hb4.size
  have q0 : W5.cell? ⟨w.heap.size, 0, none⟩ = some (.int .i64 r.q.kind) := hq5.cell 0
  have q1 : W5.cell? ⟨w.heap.size, 1, none⟩ = some (.int .i64 r.q.nodes) := hq5.cell 1
  have q2 : W5.cell? ⟨w.heap.size, 2, none⟩ = some (.int .i64 r.q.one) := hq5.cell 2
  have q3 : W5.cell? ⟨w.heap.size, 3, none⟩ = some (.int .i64 r.q.two) := hq5.cell 3
  have q4 : W5.cell? ⟨w.heap.size, 4, none⟩ = some (.slice A sn sc) := hq5.cell 4
  have b0 : W5.cell? ⟨w.heap.size + 1, 0, none⟩ = some (.int .u64 (b.n : Int)) := hb5.cell 0
  have b1 : W5.cell? ⟨w.heap.size + 1, 1, none⟩ = some (.int .i64 b.node) := hb5.cell 1
  have HNw := Lib.hid (HNew.out W5 hKw5)
  clear hn4 hk5 hn5 hz5 hNs hNs1 hq5 hb5 hKw5 ho5 hW5 ho4 hb4 HNew HCl HN3 HQ3 HB3 HK3
  go_upto_region 4 with (fail)
  rw [← HW5.out]
  clear c10 f10
  go_wp2_with fail
  refine HNw.out.mono ?_
  rintro e W6 ⟨gp, F, rfl, hP6, hF6, hb6⟩
  have hn6 := HN5.out.kp (Kp.of_below (F := fun _ => False) hb6) (fun h => h)
  have c7 := hn6.cell (k := 7) hi (by omega)
  have f7 := hn6.frozen (i * 13 + 7)
  have HT : Hid (∃ col', RoM (W6.setCell ⟨N, i * 13 + 7, none⟩ (.pointer (some ⟨gp, 0, none⟩))) col' g N n (r.setN i ((r.node i).start r.q b v)) ∧ Cl col col' w (W6.setCell ⟨N, i * 13 + 7, none⟩ (.pointer (some ⟨gp, 0, none⟩)))) := Lib.hid (by
    have hk7 : Kp (fun k => k = N) W6 (W6.setCell ⟨N, i * 13 + 7, none⟩ (.pointer (some ⟨gp, 0, none⟩))) := Kp.set_ (F := fun k => k = N) (p := ⟨N, i * 13 + 7, none⟩) rfl _
    have hz7 : (W6.setCell ⟨N, i * 13 + 7, none⟩ (.pointer (some ⟨gp, 0, none⟩))).heap.size = W6.heap.size := by simp [World.setCell]
    have hn7 := hn6.set_ (k := 7) hi (by omega) (.pointer (some ⟨gp, 0, none⟩))
    have hkw7 : Kp (fun k => k = N) w (W6.setCell ⟨N, i * 13 + 7, none⟩ (.pointer (some ⟨gp, 0, none⟩))) := (HKw5.out.trans (Kp.of_below hb6)).trans hk7
    have hcN := HcN.out
    have hNl := HNl.out
    have hz3 := HZ3.out
    have hz4 := HZ4.out
    have hz5 := HZ5.out
    have hz6 := hb6.size
    have hkT : Kp (fun k => col k = 2 ∨ col k = 5 + i) w (W6.setCell ⟨N, i * 13 + 7, none⟩ (.pointer (some ⟨gp, 0, none⟩))) := hkw7.mono fun k e => .inl (by rw [e]; exact hcN)
    have h4 : ∀ k, col k = 4 → ¬ (col k = 2 ∨ col k = 5 + i) := fun k e => by omega
    have hold := colX_old col w.heap.size F i W3.heap.size W4.heap.size
    have m4 : ∀ k, col k = 4 → colX col w.heap.size F i W3.heap.size W4.heap.size k = 4 := fun k e => (hold k (HD.out.lt k (by omega))).trans e
    have hlt : ∀ k, colX col w.heap.size F i W3.heap.size W4.heap.size k ≠ 0 → k < (W6.setCell ⟨N, i * 13 + 7, none⟩ (.pointer (some ⟨gp, 0, none⟩))).heap.size := by
      rw [hz7]
      exact colX_lt (fun k hk => by have := HD.out.lt k hk; omega) hP6.lt (by omega)
    obtain ⟨q1, q2⟩ := HD.out.turn (col' := colX col w.heap.size F i W3.heap.size W4.heap.size) (x := (r.node i).start r.q b v) (y := { np i with p := some gp, o := (oA, v.length, oc) }) hi hold hlt hkT (hn7.congr fun j k hj hk => by
        by_cases e : j = i
        · simp only [if_pos e]
          rcases thirteen hk with rfl | rfl | rfl | rfl | rfl | rfl | rfl | rfl | rfl | rfl | rfl | rfl | rfl <;> rfl
        · simp only [if_neg e]) Hx.out ⟨(HD.out.vv i hi).cap, ((HD.out.vv i hi).rd.kp hkT h4).mono m4⟩ (by
          refine RdS.of_own (own_kp (own_below HO5.out hb6 fun k e => (HO5.out.lt k e).2) hk7 fun k e e2 => ?_) fun k e => ?_
          · have := (HO5.out.lt k e).1
            omega
          · have h' := HO5.out.lt k e
            exact colX_4 (fun hf => by have := hF6 k hf; omega) (by omega) h'.1 (by omega)) ⟨(HD.out.ll i hi).cap, ((HD.out.ll i hi).rd.kp hkT h4).mono m4⟩ (fun p hp => by
          injection hp with hp
          subst hp
          exact ⟨gp, rfl, (hP6.kp hk7 fun k hf e => by have := hF6 k hf; omega).mono (fun k hf => colX_f hf fun hk => by have := hF6 k hf; omega) fun k e => hlt k (by omega)⟩) (fun e => by cases e)
    exact ⟨_, q1.m, q2⟩)
  clear hP6 hF6 hb6 hn6 HN5 HO5 HW5 HNw HKw5
  go_wp2
  go_end0
  exact ⟨rfl, HT.out⟩
end
end Go.Proofs.Ytjapmolmgfaocaa

/- The program's room: New, Start. -/
namespace Go.Proofs.Ytjapmolmgfaocaa
open Go.RowKit Go.Maps

def nodeZ : Array Value := #[.int .u64 0, .int .i64 0, .int .u64 0, .int .u64 0, .int .i64 0, .slice none 0 0, .int .u64 0, .pointer none, .int .u64 0, .int .i64 0, .slice none 0 0, .slice none 0 0, .bool false]
theorem Try.infoNode : (Try.prog.info? 78).map (fun i => (i.zero, i.size, i.bytes)) = some (some (.agg nodeZ), 13, 152) := by kernel_rfl
theorem nodeZ_at (m : Nat) (h : m < 13) : nodeZ[m]! = ndC Nd.zero Np.zero m := by
  rcases thirteen h with rfl | rfl | rfl | rfl | rfl | rfl | rfl | rfl | rfl | rfl | rfl | rfl | rfl <;> rfl
theorem made_nodes (w : World) (n : Nat) : NdsM (w.alloc (.cells (madeCells (Value.agg nodeZ).cells (n * 13)) 78)) w.heap.size n (fun _ => ndC Nd.zero Np.zero) := by
  refine ⟨_, Bk.new w _ _, by rw [size_madeCells], fun i k hi hk => ?_⟩
  have hlt : i * 13 + k < n * 13 := by omega
  unfold madeCells
  rw [Array.getElem?_map, Array.getElem?_range, if_pos hlt]
  show some ((nodeZ)[(i * 13 + k) % 13]!) = _
  rw [show (i * 13 + k) % 13 = k by omega, nodeZ_at k hk]
/-- A room of the call's own. -/
def NewS (q : Qm) (w : World) (e : Ending) (w' : World) : Prop := ∃ g N col, e = .returned (.tuple #[.pointer (some ⟨g, 0, none⟩), .int .i64 0]) ∧ RoM w' col g N q.n (Ro.new q) ∧ (∀ k, col k ≠ 0 → w.heap.size ≤ k) ∧ Below w.heap.size w w'
theorem Ro.new_node (q : Qm) (i : Nat) : (Ro.new q).node i = Nd.zero := by
  unfold Ro.new Ro.node
  dsimp only
  rw [List.getD_eq_getElem?_getD, List.getElem?_replicate]
  split <;> rfl
section
variable {q : Qm} {A : Option Addr} {n c : Nat} {w : World}
theorem RoC.fresh (hr : q.right = 0) {W : World} {A5 : Option Addr} {c5 m : Nat} (hb : Below w.heap.size w W) (hq : i64In q.kind ∧ i64In q.nodes ∧ i64In q.one ∧ i64In q.two) (hsit : Sit W (fun k => w.heap.size ≤ k ∧ k < W.heap.size) A5 m c5 q.sites) (hm : m ≤ 1000000) {W9 : World}
    (hW9 : W9 = ((W.alloc (.cells (madeCells (Value.agg nodeZ).cells (q.n * 13)) 78)).alloc (.cells #[.int .i64 q.kind, .int .i64 q.nodes, .int .i64 q.one, .int .i64 q.two, .slice A5 m c5, .slice (some ⟨W.heap.size, 0, none⟩) q.n q.n, .slice none 0 0] 85)).drew) :
    NewS q w (.returned (.tuple #[.pointer (some ⟨W.heap.size + 1, 0, none⟩), .int .i64 0])) W9 := by
  obtain ⟨W7, hW7⟩ : ∃ W7, W7 = W.alloc (.cells (madeCells (Value.agg nodeZ).cells (q.n * 13)) 78) := ⟨_, rfl⟩
  obtain ⟨W8, hW8⟩ : ∃ W8, W8 = W7.alloc (.cells #[.int .i64 q.kind, .int .i64 q.nodes, .int .i64 q.one, .int .i64 q.two, .slice A5 m c5, .slice (some ⟨W.heap.size, 0, none⟩) q.n q.n, .slice none 0 0] 85) := ⟨_, rfl⟩
  rw [← hW7, ← hW8] at hW9
  have hb7 : Below W.heap.size W W7 := by rw [hW7]; exact bel1P _
  have hb8 : Below W7.heap.size W7 W8 := by rw [hW8]; exact bel1P _
  have hb9 : Below W8.heap.size W8 W9 := by rw [hW9]; exact (Below.refl _ _).drew
  have hs7 : W7.heap.size = W.heap.size + 1 := by rw [hW7]; simp
  have hs8 : W8.heap.size = W.heap.size + 2 := by rw [hW8, World.size_alloc, hs7]
  have hs9 : W9.heap.size = W.heap.size + 2 := by rw [hW9]; exact hs8
  have hn7 : NdsM W7 W.heap.size q.n (fun _ => ndC Nd.zero Np.zero) := by rw [hW7]; exact made_nodes W q.n
  have hk8 : Bk W8 (W.heap.size + 1) 85 #[.int .i64 q.kind, .int .i64 q.nodes, .int .i64 q.one, .int .i64 q.two, .slice A5 m c5, .slice (some ⟨W.heap.size, 0, none⟩) q.n q.n, .slice none 0 0] := by rw [hW8, ← hs7]; exact Bk.new W7 _ _
  have hb89 := below_then hb8 hb9
  have hb79 := below_then hb7 hb89
  have hz := hb.size
  obtain ⟨col, hcol⟩ : ∃ col : Nat → Nat, col = fun k => if k = W.heap.size + 1 then 1 else if k = W.heap.size then 2 else if w.heap.size ≤ k ∧ k < W.heap.size then 4 else 0 := ⟨_, rfl⟩
  have c1 : col (W.heap.size + 1) = 1 := by rw [hcol]; dsimp only; rw [if_pos rfl]
  have c2 : col W.heap.size = 2 := by rw [hcol]; dsimp only; rw [if_neg (by omega), if_pos rfl]
  have c4 : ∀ k, w.heap.size ≤ k ∧ k < W.heap.size → col k = 4 := fun k hk => by rw [hcol]; dsimp only; rw [if_neg (by omega), if_neg (by omega), if_pos hk]
  have cl : ∀ k, col k ≠ 0 → w.heap.size ≤ k ∧ k < W.heap.size + 2 := fun k hk => by
    rw [hcol] at hk
    dsimp only at hk
    split at hk
    · omega
    split at hk
    · omega
    split at hk
    · omega
    · exact absurd rfl hk
  refine ⟨W.heap.size + 1, W.heap.size, col, rfl, ⟨A5, m, c5, none, 0, fun _ => Np.zero, [], ?_⟩, fun k hk => (cl k hk).1, hb.trans (hb79.mono hz)⟩
  refine ⟨hk8.below hb9 hk8.lt, rfl, hq, (hsit.keep (F' := fun k => col k = 4) (Kp.of_below (F := fun _ => False) hb79) (fun _ _ _ h => h) fun k hk => c4 k hk), hm, ?_, World.ownsRow_nil _ _ _ _, fun e he => (List.not_mem_nil he).elim, rfl, fun i hi => ?_, fun i hi => ?_, fun i hi => ?_, fun i hi p hp => ?_, fun i hi hp => rfl, c1, c2, (fun k e => by cases e), fun k hk => by have := (cl k hk).2; omega, Ro.Ok.new hr⟩
  · refine (hn7.kp (Kp.of_below (F := fun _ => False) hb89) (fun h => h)).congr fun i k hi hk => ?_
    rw [Ro.new_node]
  · rw [Ro.new_node]; exact RdS.nil _ _
  · rw [Ro.new_node]; exact RdS.nil _ _
  · rw [Ro.new_node]; exact RdS.nil _ _
  · rw [Ro.new_node] at hp; cases hp
set_option maxRecDepth 100000 in
set_option maxHeartbeats 4000000 in
theorem new_bad (hq : Qi w q A n c) (hr : q.right ≠ 0) : Calls Try.prog 23 #[qV q (.slice A n c)] w fun e w' => e = .returned (.tuple #[.pointer none, .int .i64 q.right]) ∧ Below w.heap.size w w' := by
  obtain ⟨w1, HW1, HB1, HK1⟩ := boxed q.kind q.nodes q.one q.two A n c w
  have HRT := Lib.hid (right_any q A n c w1 (hq.up HB1.out))
  generalize q.right = rr at *
  obtain ⟨q0, q1, q2, q3, q4⟩ := QB.cells _ _ _ _ _ _ _ HK1.out
  unfold qV at *
  clear hq HK1
  obtain ⟨kd, nd, on, tw, l⟩ := q
  dsimp only at *
  go_enter Try.func23, Try.ntmps23
  go_upto_region 1 with (fail)
  rw [← HW1.out]
  go_wp2_with fail
  refine HRT.out.mono ?_
  rintro e w3 ⟨rfl, hb3⟩
  have HB3 := Lib.hid (below_then HB1.out hb3)
  clear hb3 q0 q1 q2 q3 q4 HRT
  go_wp2
  go_ret2
  exact ⟨rfl, HB3.out⟩
set_option maxRecDepth 100000 in
set_option maxHeartbeats 8000000 in
theorem new_ok (hq : Qi w q A n c) (hr : q.right = 0) (hn : n ≤ 1000000) : Calls Try.prog 23 #[qV q (.slice A n c)] w (NewS q w) := by
  obtain ⟨w1, HW1, HB1, HK1⟩ := boxed q.kind q.nodes q.one q.two A n c w
  have hs1 : w1.heap.size = w.heap.size + 1 := by rw [HW1.out]; simp
  have HRT := Lib.hid (right_any q A n c w1 (hq.up HB1.out))
  rw [hr] at HRT
  have HCl := Lib.hid (fun W (hb : Below w1.heap.size w1 W) => cloneI_any A n c q.sites W hn (hq.up (below_then HB1.out hb)).rd)
  have hnq := (q.n_le hr)
  have HQ : Hid (∀ W, Below w1.heap.size w1 W → QB q.kind q.nodes q.one q.two A n c W w.heap.size) := Lib.hid fun W hb => HK1.out.below hb HK1.out.lt
  obtain ⟨iw, hiw, hzw, hsw, hbw⟩ := info_parts Try.infoNode
  have hmk : ∀ W : World, (Instr.makeSlice 81 (.int .i64 q.nodes) (.int .i64 q.nodes)).run Try.prog W = .ok (.slice (some ⟨W.heap.size, 0, none⟩) q.n q.n) (W.alloc (.cells (madeCells (Value.agg nodeZ).cells (q.n * 13)) 78)) := fun W => by
    have h := run_make (P := Try.prog) W 81 78 iw _ Try.underlying81 hiw hzw .i64 .i64 q.n q.n (by omega) (Int.le_refl _) (by rw [hbw]; omega) (by omega)
    rw [hsw] at h
    rw [hnq.2.2]
    simpa only [Int.toNat_natCast] using h
  have HF : Hid (∀ W A5 c5 W9, Below w.heap.size w W → Sit W (fun k => w.heap.size ≤ k ∧ k < W.heap.size) A5 n c5 q.sites → W9 = ((W.alloc (.cells (madeCells (Value.agg nodeZ).cells (q.n * 13)) 78)).alloc (.cells #[.int .i64 q.kind, .int .i64 q.nodes, .int .i64 q.one, .int .i64 q.two, .slice A5 n c5, .slice (some ⟨W.heap.size, 0, none⟩) q.n q.n, .slice none 0 0] 85)).drew → NewS q w (.returned (.tuple #[.pointer (some ⟨W.heap.size + 1, 0, none⟩), .int .i64 0])) W9) := Lib.hid fun W A5 c5 W9 hb hs he => RoC.fresh hr hb ⟨hq.kind, hq.nodes, hq.one, hq.two⟩ hs hn he
  obtain ⟨q0, q1, q2, q3, q4⟩ := QB.cells _ _ _ _ _ _ _ HK1.out
  unfold qV at *
  have HS1 := Lib.hid hs1
  clear hq HK1 hr hnq hiw hzw hsw hbw hs1 hn
  generalize hZ : madeCells (Value.agg nodeZ).cells (q.n * 13) = Z at *
  clear hZ
  obtain ⟨qn, hqn⟩ : ∃ x, q.n = x := ⟨_, rfl⟩
  rw [hqn] at hmk HF
  go_enter Try.func23, Try.ntmps23
  go_upto_region 1 with (fail)
  rw [← HW1.out]
  go_wp2_with fail
  refine HRT.out.mono ?_
  rintro e w3 ⟨rfl, hb3⟩
  have HB3 := Lib.hid hb3
  clear hb3 q0 q1 q2 q3 q4 HRT
  have hk3 := HQ.out w3 HB3.out
  have q4 : w3.cell? ⟨w.heap.size, 4, none⟩ = some (.slice A n c) := hk3.cell 4
  have fr4 := hk3.frozen 4
  clear hk3
  go_wp2_with fail
  refine (HCl.out w3 HB3.out).mono ?_
  rintro e w5 ⟨A5, c5, rfl, hsit, hb5⟩
  have hk5 := HQ.out w5 (below_then HB3.out hb5)
  clear q4 fr4
  have q4 : w5.cell? ⟨w.heap.size, 4, none⟩ = some (.slice A n c) := hk5.cell 4
  have fr4 := hk5.frozen 4
  have hk6 : Kp (fun j => j = w.heap.size) w5 (w5.setCell ⟨w.heap.size, 4, none⟩ (.slice A5 n c5)) := Kp.set_ (F := fun j => j = w.heap.size) (p := ⟨w.heap.size, 4, none⟩) rfl _
  have hkb6 := hk5.set_ 4 (.slice A5 n c5)
  obtain ⟨w6, hw6⟩ : ∃ w6, w6 = w5.setCell ⟨w.heap.size, 4, none⟩ (.slice A5 n c5) := ⟨_, rfl⟩
  rw [← hw6] at hk6 hkb6
  have hb15 := below_then HB1.out (below_then HB3.out hb5)
  have hs3 := HB3.out.size
  have hs5 := hb5.size
  have hz1 := HS1.out
  have hz6 : w6.heap.size = w5.heap.size := by rw [hw6]; simp [World.setCell]
  have hsit0 := hsit.keep (F' := fun k => w3.heap.size ≤ k) hk6 (fun hn k e1 e2 => by have h1 := hsit.foot hn k e1; omega) (fun k hk => hk)
  have hsit6 : Sit w6 (fun k => w.heap.size ≤ k ∧ k < w6.heap.size) A5 n c5 q.sites := ⟨hsit0.cap, hsit0.len, hsit0.num, hsit0.own, fun hn k e => ⟨by have := hsit0.foot hn k e; omega, ((hsit0.own hn).lt k e).2⟩⟩
  have HF6 := Lib.hid (HF.out w6 A5 c5 _ (hb15.trans (hk6.below (fun k e => by omega) (by omega))) hsit6 rfl)
  have HW6 := Lib.hid hw6
  have p0 : w6.cell? ⟨w.heap.size, 0, none⟩ = some (.int .i64 q.kind) := hkb6.cell 0
  have p1 : w6.cell? ⟨w.heap.size, 1, none⟩ = some (.int .i64 q.nodes) := hkb6.cell 1
  have p2 : w6.cell? ⟨w.heap.size, 2, none⟩ = some (.int .i64 q.one) := hkb6.cell 2
  have p3 : w6.cell? ⟨w.heap.size, 3, none⟩ = some (.int .i64 q.two) := hkb6.cell 3
  have p4 : w6.cell? ⟨w.heap.size, 4, none⟩ = some (.slice A5 n c5) := hkb6.cell 4
  clear hsit hb5 hk5 hk6 hkb6 hw6 hb15 hs3 hs5 hz1 hz6 hsit0 hsit6 HF HCl HQ
  go_upto_region 5 with (fail)
  rw [← HW6.out]
  clear q4 fr4
  have hbz : Below w6.heap.size w6 (w6.alloc (.cells Z 78)) := bel1P _
  have hl6 := World.block_lt_of_cell? w6 _ p0
  have a0 : (w6.alloc (.cells Z 78)).cell? ⟨w.heap.size, 0, none⟩ = some (.int .i64 q.kind) := (hbz.cell (p := ⟨w.heap.size, 0, none⟩) hl6).trans p0
  have a1 : (w6.alloc (.cells Z 78)).cell? ⟨w.heap.size, 1, none⟩ = some (.int .i64 q.nodes) := (hbz.cell (p := ⟨w.heap.size, 1, none⟩) hl6).trans p1
  have a2 : (w6.alloc (.cells Z 78)).cell? ⟨w.heap.size, 2, none⟩ = some (.int .i64 q.one) := (hbz.cell (p := ⟨w.heap.size, 2, none⟩) hl6).trans p2
  have a3 : (w6.alloc (.cells Z 78)).cell? ⟨w.heap.size, 3, none⟩ = some (.int .i64 q.two) := (hbz.cell (p := ⟨w.heap.size, 3, none⟩) hl6).trans p3
  have a4 : (w6.alloc (.cells Z 78)).cell? ⟨w.heap.size, 4, none⟩ = some (.slice A5 n c5) := (hbz.cell (p := ⟨w.heap.size, 4, none⟩) hl6).trans p4
  clear hqn hbz hl6
  go_region
  all_goals
    go_wp2
    go_ret2
    exact HF6.out
/-- A room's Start. -/
def StartS (w : World) (col : Nat → Nat) (g N n : Nat) (x : Int × Bl × Ro) (e : Ending) (w' : World) : Prop := e = .returned (.tuple #[.agg #[.int .u64 (x.2.1.n : Int), .int .i64 x.2.1.node], .int .i64 x.1]) ∧ ∃ col', RoM w' col' g N n x.2.2 ∧ Cl col col' w w'
theorem findK {col : Nat → Nat} {g N n : Nat} {r : Ro} (h : RoM w col g N n r) (a : Int) : Calls Try.prog 30 #[.pointer (some ⟨g, 0, none⟩), .int .i64 a] w fun e w' => e = .returned (nodeP N r a) ∧ w = w' := by
  obtain ⟨A, sn, sc, R, rc, np, es, h⟩ := h
  exact find_any h a
theorem st2K (w : World) (B : Nat) (a b : Value) : Kp (fun j => j = B) w ((w.setCell ⟨B, 0, none⟩ a).setCell ⟨B, 1, none⟩ b) := (Kp.set_ (F := fun j => j = B) (p := ⟨B, 0, none⟩) rfl _).trans (Kp.set_ (F := fun j => j = B) (p := ⟨B, 1, none⟩) rfl _)
theorem Bk.s2K {w : World} {B : Nat} {t : TypeId} {x0 x1 : Value} (h : Bk w B t #[x0, x1]) (a b : Value) : Bk ((w.setCell ⟨B, 0, none⟩ a).setCell ⟨B, 1, none⟩ b) B t #[a, b] := (h.set_ 0 a).set_ 1 b
set_option maxRecDepth 100000 in
set_option maxHeartbeats 8000000 in
theorem start_any {col : Nat → Nat} {g N n : Nat} {r : Ro} (h : RoM w col g N n r) (a : Int) (vA : Option Addr) (vn vc : Nat) (v : List UInt8) (hv : RdG w (fun k => col k = 0) vA vn v) : Calls Try.prog 21 #[.pointer (some ⟨g, 0, none⟩), .int .i64 a, .slice vA vn vc] w (StartS w col g N n (r.start a v)) := by
  obtain rfl : v.length = vn := hv.1
  obtain ⟨W1, hW1⟩ : ∃ W1, W1 = w.alloc (.cells #[.int .u64 0, .int .i64 0] 44) := ⟨_, rfl⟩
  have hb1 : Below w.heap.size w W1 := by rw [hW1]; exact bel1P _
  have hs1 : W1.heap.size = w.heap.size + 1 := by rw [hW1]; simp
  have hk1 : Bk W1 w.heap.size 44 #[.int .u64 0, .int .i64 0] := by rw [hW1]; exact Bk.new w _ _
  have hc0 : col w.heap.size = 0 := by
    by_cases e : col w.heap.size = 0
    · exact e
    · have := h.lt _ e
      omega
  have hR1 := h.below hb1
  have HT := Lib.hid (findK hR1 a)
  have z0 : W1.cell? ⟨w.heap.size, 0, none⟩ = some (.int .u64 0) := hk1.cell 0
  have z1 : W1.cell? ⟨w.heap.size, 1, none⟩ = some (.int .i64 0) := hk1.cell 1
  have f0 := hk1.frozen 0
  have f1 := hk1.frozen 1
  have HW1 := Lib.hid hW1
  -- what is refused
  have HBad : Hid (∀ (E : Int), r.start a v = (E, Bl.zero, r) → ∀ w9, w9 = (W1.setCell ⟨w.heap.size, 0, none⟩ (.int .u64 0)).setCell ⟨w.heap.size, 1, none⟩ (.int .i64 0) → (w9.cell? ⟨w.heap.size, 0, none⟩ = some (.int .u64 0) ∧ w9.cell? ⟨w.heap.size, 1, none⟩ = some (.int .i64 0)) ∧ StartS w col g N n (r.start a v) (.returned (.tuple #[.agg #[.int .u64 0, .int .i64 0], .int .i64 E])) w9) := Lib.hid fun E hE w9 hw9 => by
    have hk9 : Bk w9 w.heap.size 44 #[.int .u64 0, .int .i64 0] := by rw [hw9]; exact hk1.s2K _ _
    have hkp : Kp (fun j => j = w.heap.size) w w9 := by rw [hw9]; exact (Kp.of_below hb1).trans (st2K W1 w.heap.size _ _)
    rw [hE]
    exact ⟨⟨hk9.cell 0, hk9.cell 1⟩, rfl, col, h.kp hkp (fun k e e2 => by rw [e2] at e; exact e hc0), ⟨(Kp.refl _ _).trans' hkp fun k e => .inr (by omega), fun _ _ => rfl⟩⟩
  by_cases hbad : r.has a = false ∨ 100 < v.length
  · have hE : r.start a v = (2, Bl.zero, r) := by
      unfold Ro.start
      rcases hbad with e | e
      · rw [if_pos e]
      · split
        · rfl
        · first | rfl | rw [if_pos e]
    have hpt : (∃ p, nodeP N r a = .pointer (some p) ∧ 100 < v.length) ∨ nodeP N r a = .pointer none := by
      unfold nodeP
      cases hh : r.has a with
      | false => exact .inr (by rw [if_neg (by decide)])
      | true =>
        rcases hbad with e | e
        · rw [hh] at e; cases e
        · exact .inl ⟨_, by rw [if_pos rfl], e⟩
    have HB := Lib.hid (HBad.out 2 hE)
    generalize nodeP N r a = pv at *
    generalize r.start a v = st at *
    clear h hv hW1 hb1 hs1 hk1 hc0 hR1 HBad hbad hE
    rcases hpt with ⟨p, rfl, hl⟩ | rfl
    · have hlI : (100 : Int) < (v.length : Int) := by omega
      clear hl
      go_enter Try.func21, Try.ntmps21
      go_upto_region 1 with (fail)
      rw [← HW1.out]
      go_wp2_with fail
      refine HT.out.mono ?_
      rintro e w2 ⟨rfl, rfl⟩
      go_wp2
      obtain ⟨w9, hw9⟩ : ∃ w9, w9 = (W1.setCell ⟨w.heap.size, 0, none⟩ (.int .u64 0)).setCell ⟨w.heap.size, 1, none⟩ (.int .i64 0) := ⟨_, rfl⟩
      rw [← hw9]
      obtain ⟨⟨j0, j1⟩, hS⟩ := HB.out w9 hw9
      clear hw9
      refine bodyPost_ret (by simp [results, Try.results21, go_sem, j0, j1]; try rfl) rfl ?_
      exact hS
    · go_enter Try.func21, Try.ntmps21
      go_upto_region 1 with (fail)
      rw [← HW1.out]
      go_wp2_with fail
      refine HT.out.mono ?_
      rintro e w2 ⟨rfl, rfl⟩
      go_wp2
      obtain ⟨w9, hw9⟩ : ∃ w9, w9 = (W1.setCell ⟨w.heap.size, 0, none⟩ (.int .u64 0)).setCell ⟨w.heap.size, 1, none⟩ (.int .i64 0) := ⟨_, rfl⟩
      rw [← hw9]
      obtain ⟨⟨j0, j1⟩, hS⟩ := HB.out w9 hw9
      clear hw9
      refine bodyPost_ret (by simp [results, Try.results21, go_sem, j0, j1]; try rfl) rfl ?_
      exact hS
  · have hh : r.has a = true := by
      cases e : r.has a with
      | true => rfl
      | false => exact absurd (.inl e) hbad
    have hi' := Ro.has_iff.1 hh
    have hvl : v.length ≤ 100 := by omega
    obtain ⟨k, rfl⟩ := Int.eq_ofNat_of_zero_le hi'.1
    rw [Int.toNat_natCast] at hi'
    have hp : nodeP N r (k : Int) = .pointer (some ⟨N, k * 13, none⟩) := by unfold nodeP; rw [if_pos hh, Int.toNat_natCast]
    rw [hp] at HT
    obtain ⟨A, sn, sc, R, rc, np, es, hc⟩ := h
    have hkn : k < n := by rw [← hc.nlen]; exact hi'.2
    have hc1 := hc.below hb1
    have c6 : W1.cell? ⟨N, k * 13 + 6, none⟩ = some (.int .u64 ((r.node k).seen : Int)) := hc1.nds.cell (k := 6) hkn (by omega)
    have hsn := (hc.ok.nodes _ (Ro.node_mem hi'.2)).seen
    have hl0 : ¬ (100 : Int) < (v.length : Int) := by omega
    by_cases hfull : (r.node k).seen = 4611686018427387904
    · have hE : r.start (k : Int) v = (5, Bl.zero, r) := by
        unfold Ro.start
        rw [if_neg (by rw [hh]; decide), if_neg (by omega), Int.toNat_natCast, if_pos hfull]
      have HB := Lib.hid (HBad.out 5 hE)
      have hI : (((r.node k).seen : Nat) : Int) = 4611686018427387904 := by omega
      rw [hI] at c6
      generalize r.start (k : Int) v = st at *
      clear hv hW1 hb1 hs1 hk1 hc0 hR1 HBad hbad hE hc hc1 hp hh hi' hsn hfull hI
      go_enter Try.func21, Try.ntmps21
      go_upto_region 1 with (fail)
      rw [← HW1.out]
      go_wp2_with fail
      refine HT.out.mono ?_
      rintro e w2 ⟨rfl, rfl⟩
      go_wp2
      obtain ⟨w9, hw9⟩ : ∃ w9, w9 = (W1.setCell ⟨w.heap.size, 0, none⟩ (.int .u64 0)).setCell ⟨w.heap.size, 1, none⟩ (.int .i64 0) := ⟨_, rfl⟩
      rw [← hw9]
      obtain ⟨⟨j0, j1⟩, hS⟩ := HB.out w9 hw9
      clear hw9
      refine bodyPost_ret (by simp [results, Try.results21, go_sem, j0, j1]; try rfl) rfl ?_
      exact hS
    · have hok := hc.ok
      have hlq : r.nodes.length = r.q.n := hok.len
      have hfine : (⟨(r.node k).seen + 1, (k : Int)⟩ : Bl).Fine r.q.n := ⟨by show 0 < _ + 1; omega, by show _ + 1 ≤ 4611686018427387904; omega, by show (0 : Int) ≤ k; omega, by show (k : Int) < _; omega⟩
      have hE : r.start (k : Int) v = (0, ⟨(r.node k).seen + 1, (k : Int)⟩, (r.setN k ((r.node k).start r.q ⟨(r.node k).seen + 1, (k : Int)⟩ v)).sends r.nodes.length k 1 ⟨(r.node k).seen + 1, (k : Int)⟩ []) := by
        unfold Ro.start
        rw [if_neg (by rw [hh]; decide), if_neg (by omega), Int.toNat_natCast, if_neg hfull]
      have hI : ¬ (((r.node k).seen : Nat) : Int) = 4611686018427387904 := by omega
      have hwr : IntKind.u64.wrap (((r.node k).seen : Int) + 1) = (((r.node k).seen + 1 : Nat) : Int) := by rw [IntKind.wrap_u64]; omega
      obtain ⟨b, hb⟩ : ∃ b : Bl, (⟨(r.node k).seen + 1, (k : Int)⟩ : Bl) = b := ⟨_, rfl⟩
      have hbn : (((r.node k).seen + 1 : Nat) : Int) = (b.n : Int) := by rw [← hb]
      have hbd : (k : Int) = b.node := by rw [← hb]
      rw [hb] at hE hfine
      rw [hbn] at hwr
      obtain ⟨W2, hW2⟩ : ∃ W2, W2 = W1.alloc (.cells #[.int .u64 (b.n : Int), .int .i64 (k : Int)] 44) := ⟨_, rfl⟩
      have hb2 : Below W1.heap.size W1 W2 := by rw [hW2]; exact bel1P _
      have hs2 : W2.heap.size = w.heap.size + 2 := by rw [hW2, World.size_alloc, hs1]
      have hk2 : Bk W2 (w.heap.size + 1) 44 #[.int .u64 (b.n : Int), .int .i64 (k : Int)] := by
        have := Bk.new W1 44 #[.int .u64 (b.n : Int), .int .i64 (k : Int)]
        rw [← hW2, hs1] at this
        exact this
      have hb02 := below_then hb1 hb2
      have hc2 := hc.below hb02
      have hk12 := hk1.below hb2 hk1.lt
      have hcs : col (w.heap.size + 1) = 0 := by
        by_cases e : col (w.heap.size + 1) = 0
        · exact e
        · have := hc.lt _ e
          omega
      have HSt : Hid (∀ W, Below W2.heap.size W2 W → Calls Try.prog 35 #[.pointer (some ⟨N, k * 13, none⟩), .agg #[.int .i64 r.q.kind, .int .i64 r.q.nodes, .int .i64 r.q.one, .int .i64 r.q.two, .slice A sn sc], .agg #[.int .u64 (b.n : Int), .int .i64 (k : Int)], .slice vA v.length vc] W fun e w' => e = .returned (.tuple #[]) ∧ Hid (Bk w' w.heap.size 44 #[.int .u64 0, .int .i64 0] ∧ Bk w' (w.heap.size + 1) 44 #[.int .u64 (b.n : Int), .int .i64 (k : Int)] ∧ ∃ col', RoM w' col' g N n (r.setN k ((r.node k).start r.q b v)) ∧ Cl col col' w w' ∧ col' w.heap.size = 0 ∧ col' (w.heap.size + 1) = 0)) := Lib.hid fun W hbW => by
        have hbw := below_then hb02 hbW
        have hq := nstart_any (hc.below hbw) k hkn b hfine vA v.length vc v (hv.below hbw) hvl
        unfold qV blV at hq
        rw [← hbd] at hq
        refine hq.mono ?_
        rintro e w' ⟨rfl, col', p1, p2⟩
        refine ⟨rfl, Lib.hid ⟨(hk12.below hbW hk12.lt).kp p2.kp (fun e => e.1 hc0), (hk2.below hbW hk2.lt).kp p2.kp (fun e => e.1 hcs), col', p1, (Cl.of_below hbw).trans p2, (p2.old _ (hk12.below hbW hk12.lt).lt).trans hc0, (p2.old _ (hk2.below hbW hk2.lt).lt).trans hcs⟩⟩
      have HSA : Hid (∀ W col', RoM W col' g N n (r.setN k ((r.node k).start r.q b v)) → Calls Try.prog 36 #[.pointer (some ⟨g, 0, none⟩), .int .i64 (k : Int), .int .i64 1, .agg #[.int .u64 (b.n : Int), .int .i64 (k : Int)], .slice none 0 0] W (NodeR W col' g N n ((r.setN k ((r.node k).start r.q b v)).sends r.nodes.length k 1 b []) (.tuple #[]))) := Lib.hid fun W col' hq => by
        have hl2 : (r.setN k ((r.node k).start r.q b v)).nodes.length = r.nodes.length := by unfold Ro.setN; simp
        have := sendAll_any hq k 1 b s3N [] [] (VsS.nil _ _) rfl (fun i hi => ⟨⟨by show 1 ≤ 1; omega, by show 1 ≤ 4; omega⟩, (by show k < r.q.n; omega), hi, hfine, Nat.zero_le _, fun u hu => (List.not_mem_nil hu).elim, fun e => by cases e⟩)
        rw [hl2] at this
        unfold blV at this
        rw [← hbd] at this
        exact this
      have HE := Lib.hid hE
      have HW2 := Lib.hid hW2
      have HQ : Hid (W2.cell? ⟨g, 0, none⟩ = some (.int .i64 r.q.kind) ∧ W2.cell? ⟨g, 1, none⟩ = some (.int .i64 r.q.nodes) ∧ W2.cell? ⟨g, 2, none⟩ = some (.int .i64 r.q.one) ∧ W2.cell? ⟨g, 3, none⟩ = some (.int .i64 r.q.two) ∧ W2.cell? ⟨g, 4, none⟩ = some (.slice A sn sc)) := Lib.hid ⟨hc2.cells.1, hc2.cells.2.1, hc2.cells.2.2.1, hc2.cells.2.2.2.1, hc2.cells.2.2.2.2.1⟩
      have hcs' := Lib.hid hcs
      have hc0' := Lib.hid hc0
      have HS1 := hs1
      have b0 : W2.cell? ⟨w.heap.size + 1, 0, none⟩ = some (.int .u64 (b.n : Int)) := hk2.cell 0
      have b1 : W2.cell? ⟨w.heap.size + 1, 1, none⟩ = some (.int .i64 (k : Int)) := hk2.cell 1
      have HBd := Lib.hid hbd
      obtain ⟨st, hst⟩ : ∃ st, r.start (k : Int) v = st := ⟨_, rfl⟩
      rw [hst] at HE ⊢
      generalize (r.node k).seen = sx at *
      clear hv hW1 hb1 hs1 hk1 hc0 hR1 HBad hbad hE hc hc1 hp hh hi' hsn hfull hok hlq hfine hb hbn hbd hW2 hb2 hs2 hk2 hb02 hc2 hk12 hcs hst hvl
      obtain ⟨q0, q1, q2, q3, q4⟩ := HQ.out
      go_enter Try.func21, Try.ntmps21
      go_upto_region 1 with (fail)
      rw [← HW1.out]
      go_wp2_with fail
      refine HT.out.mono ?_
      rintro e w2 ⟨rfl, rfl⟩
      go_upto_region 9 with (fail)
      rw [← HW2.out]
      go_still_tail 7, (by kernel_rfl)
      change wpList _ _ _ _ _ W2.drew
      go_wp2_with fail
      refine (HSt.out _ (Below.refl _ _).drew).mono ?_
      rintro e W3 ⟨rfl, HS3⟩
      clear c6 q0 q1 q2 q3 q4 z0 z1 f0 f1 HSt HQ hwr
      obtain ⟨p1, p2, col3, p3, p4, p5, p6⟩ := HS3.out
      have b0 : W3.cell? ⟨w.heap.size + 1, 0, none⟩ = some (.int .u64 (b.n : Int)) := p2.cell 0
      have b1 : W3.cell? ⟨w.heap.size + 1, 1, none⟩ = some (.int .i64 (k : Int)) := p2.cell 1
      have HS4 : Hid (Calls Try.prog 36 #[.pointer (some ⟨g, 0, none⟩), .int .i64 (k : Int), .int .i64 1, .agg #[.int .u64 (b.n : Int), .int .i64 (k : Int)], .slice none 0 0] W3 fun e w' => e = .returned (.tuple #[]) ∧ Hid (Bk w' w.heap.size 44 #[.int .u64 0, .int .i64 0] ∧ Bk w' (w.heap.size + 1) 44 #[.int .u64 (b.n : Int), .int .i64 (k : Int)] ∧ ∃ col', RoM w' col' g N n st.2.2 ∧ Cl col col' w w' ∧ col' w.heap.size = 0)) := Lib.hid (by
        refine (HSA.out W3 col3 p3).mono ?_
        rintro e w' ⟨rfl, col4, t1, t2⟩
        exact ⟨rfl, Lib.hid ⟨p1.kp t2.kp (fun e => e.1 p5), p2.kp t2.kp (fun e => e.1 p6), col4, by rw [HE.out]; exact t1, p4.trans t2, (t2.old _ p1.lt).trans p5⟩⟩)
      clear p1 p2 p3 p4 p5 p6 HS3 HSA
      go_wp2_with fail
      refine HS4.out.mono ?_
      rintro e W4 ⟨rfl, HS5⟩
      clear b0 b1 HS4
      obtain ⟨p1, p2, col4, p3, p4, p5⟩ := HS5.out
      have y0 : W4.cell? ⟨w.heap.size + 1, 0, none⟩ = some (.int .u64 (b.n : Int)) := p2.cell 0
      have y1 : W4.cell? ⟨w.heap.size + 1, 1, none⟩ = some (.int .i64 (k : Int)) := p2.cell 1
      have z0 : W4.cell? ⟨w.heap.size, 0, none⟩ = some (.int .u64 0) := p1.cell 0
      have z1 : W4.cell? ⟨w.heap.size, 1, none⟩ = some (.int .i64 0) := p1.cell 1
      have g0 := p1.frozen 0
      have g1 := p1.frozen 1
      obtain ⟨W9, hW9⟩ : ∃ W9, W9 = (W4.setCell ⟨w.heap.size, 0, none⟩ (.int .u64 (b.n : Int))).setCell ⟨w.heap.size, 1, none⟩ (.int .i64 (k : Int)) := ⟨_, rfl⟩
      have hk9 : Bk W9 w.heap.size 44 #[.int .u64 (b.n : Int), .int .i64 (k : Int)] := by rw [hW9]; exact p1.s2K _ _
      have hkp : Kp (fun j => j = w.heap.size) W4 W9 := by rw [hW9]; exact st2K W4 w.heap.size _ _
      have HF : Hid (StartS w col g N n st (.returned (.tuple #[.agg #[.int .u64 (b.n : Int), .int .i64 (k : Int)], .int .i64 0])) W9) := Lib.hid (by
        have hst := HE.out
        refine ⟨by rw [hst]; dsimp only; rw [← HBd.out], col4, p3.kp hkp (fun k e e2 => by rw [e2] at e; exact e p5), ⟨p4.kp.trans' hkp fun k e => .inr (by omega), p4.old⟩⟩)
      have HW9 := Lib.hid hW9
      have j0 : W9.cell? ⟨w.heap.size, 0, none⟩ = some (.int .u64 (b.n : Int)) := hk9.cell 0
      have j1 : W9.cell? ⟨w.heap.size, 1, none⟩ = some (.int .i64 (k : Int)) := hk9.cell 1
      clear p1 p2 p3 p4 p5 HS5 hW9 hk9 hkp
      go_wp2
      rw [← HW9.out]
      refine bodyPost_ret (by simp [results, Try.results21, go_sem, j0, j1]; try rfl) rfl ?_
      exact HF.out
end
end Go.Proofs.Ytjapmolmgfaocaa
