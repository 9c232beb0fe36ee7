/- The program's receiver: in memory; New, Got, refuse, wants. -/
import Derived.Test.YtfdlhefbbhblnaaSesM
import Derived.Test.YtfdlhefbbhblnaaFam
import Derived.Maps.OwnOps
namespace Go.Proofs.Ytfdlhefbbhblnaa
open Go.RowKit Go.Maps

/-- Block b is a map of these slices. -/
def OwnE (w : World) (b N : Nat) (L : List (Nat × Sl)) : Prop := w.ownsMap Try.prog 22 slR b N (mapS L)
section
variable {w w' : World} {b N : Nat} {L : List (Nat × Sl)}
theorem OwnE.lt (h : OwnE w b N L) : b < w.heap.size := World.ownsMap.lt h
theorem OwnE.kp {F : Nat → Prop} (h : OwnE w b N L) (hk : Kp F w w') (hf : ¬ F b) : OwnE w' b N L := by
  have hlt := h.lt
  obtain ⟨es, clock, h1, h2⟩ := h
  exact ⟨es, clock, (hk.block b hlt hf).trans h1, h2⟩
theorem OwnE.tight (h : OwnE w b N L) : OwnE w b L.length L := by
  obtain ⟨es, clock, h1, h2, h3, h4⟩ := h
  refine ⟨es, clock, h1, h2, ?_, h4⟩
  have h5 : L.length = Maps.size (mapS L) := (mapS_size L).symm
  rw [h5, h4]
  simp [Maps.size, length_sorted]
theorem OwnE.off (h : OwnE w b N L) {base e size n : Nat} {v : Value} {xs : List Value} (ho : w.ownsRow base e size v n xs) : ∀ k, v.ownBlock = some k → k ≠ b := by
  rintro k e1 rfl
  obtain ⟨es, clock, h1, _⟩ := h
  rcases ho.2 with ⟨rfl, _⟩ | ⟨g', cap, cur, rfl, _, hh, _⟩
  · cases e1
  · simp only [Value.ownBlock, Option.some.injEq] at e1
    subst e1
    rw [h1] at hh
    simp at hh
theorem OwnE.off_bk (h : OwnE w b N L) {g : Nat} {t : TypeId} {cs : Array Value} (hb : Bk w g t cs) : g ≠ b := by
  rintro rfl
  obtain ⟨es, clock, h1, _⟩ := h
  unfold Bk at hb
  rw [h1] at hb
  simp at hb
theorem u64Keyed : Keyed Try.prog 22 := int_keyed Try.underlying22
theorem u64Key (k : Nat) (h : k < 18446744073709551616) : keyOf Try.prog 22 (.int .u64 (k : Int)) = some (.int .u64 (k : Int)) := keyOf_int_mk Try.underlying22 (by
  simp [Lit.wf, IntKind.min, IntKind.max, IntKind.signed, IntKind.bits]
  omega)
theorem Try.zeroBytes (w : World) : (zeroValue 34).run Try.prog w = .ok (.slice none 0 0) w := by kernel_rfl
theorem OwnE.look (h : OwnE w b N L) (k : Nat) (hk : k < 18446744073709551616) :
    (Instr.lookup 90 (.map (some b)) (.int .u64 (k : Int)) true).run Try.prog w = .ok (.tuple #[slV ((getK L k).getD (none, 0, 0)), .bool (getK L k).isSome]) w := by
  obtain ⟨v, ps, hrun, hv⟩ := World.ownsMap.look_ok (t := 90) h u64Keyed Try.underlying90 (Try.zeroBytes w) (zd := slD (none, 0, 0)) (zp := []) rfl (u64Key k hk)
  rw [mapS_at] at hv
  rw [mapS_has] at hrun
  rw [slR_inv hv] at hrun
  exact hrun
end

/-- The cells of a receiver. -/
def rcA (r : Rc) (b : Nat) : Array Value := #[.int .i64 (r.window : Int), .int .u64 (r.life : Int), .int .u64 (r.came : Int), .map (some b)]
abbrev Ern := Nat × (List UInt8 × Sl)
/-- Block g is the program's receiver r; its map is block b, its pieces are es. -/
structure PRb (w : World) (F : Nat → Prop) (g b : Nat) (r : Rc) (es : List Ern) : Prop where
  bk : Bk w g 92 (rcA r b)
  map : OwnE w b es.length (onK (·.2) es)
  each : ∀ e ∈ es, w.ownsRow 0 5 1 (slV e.2.2) e.2.1.length (u8s e.2.1)
  apart : AllApart (es.map fun e => slV e.2.2)
  eq : onK (·.1) es = r.early
  ok : r.Ok
  fg : F g
  fb : F b
  bods : ∀ e ∈ es, ∀ k, (slV e.2.2).ownBlock = some k → F k
  lt : ∀ k, F k → k < w.heap.size
def PR (w : World) (F : Nat → Prop) (g : Nat) (r : Rc) : Prop := ∃ b es, PRb w F g b r es
section
variable {w w' : World} {F G : Nat → Prop} {g b : Nat} {r : Rc} {es : List Ern}
theorem PRb.kp (h : PRb w F g b r es) (hk : Kp G w w') (hd : ∀ k, F k → ¬ G k) : PRb w' F g b r es :=
  ⟨h.bk.kp hk (hd _ h.fg), h.map.kp hk (hd _ h.fb), fun e he => own_kp (h.each e he) hk fun k e2 => hd k (h.bods e he k e2), h.apart, h.eq, h.ok, h.fg, h.fb, h.bods, fun k e => Nat.lt_of_lt_of_le (h.lt k e) hk.size⟩
theorem PRb.below (h : PRb w F g b r es) (hb : Below w.heap.size w w') : PRb w' F g b r es := h.kp (G := fun _ => False) (Kp.of_below hb) fun _ _ h => h
theorem PR.kp (h : PR w F g r) (hk : Kp G w w') (hd : ∀ k, F k → ¬ G k) : PR w' F g r := by obtain ⟨b, es, h⟩ := h; exact ⟨b, es, h.kp hk hd⟩
theorem PR.below (h : PR w F g r) (hb : Below w.heap.size w w') : PR w' F g r := by obtain ⟨b, es, h⟩ := h; exact ⟨b, es, h.below hb⟩
theorem PR.ok (h : PR w F g r) : r.Ok := by obtain ⟨b, es, h⟩ := h; exact h.ok
theorem PR.lt (h : PR w F g r) : ∀ k, F k → k < w.heap.size := by obtain ⟨b, es, h⟩ := h; exact h.lt
theorem PR.cells (h : PR w F g r) : w.cell? ⟨g, 0, none⟩ = some (.int .i64 (r.window : Int)) ∧ w.cell? ⟨g, 1, none⟩ = some (.int .u64 (r.life : Int)) ∧ w.cell? ⟨g, 2, none⟩ = some (.int .u64 (r.came : Int)) := by
  obtain ⟨b, es, h⟩ := h
  exact ⟨h.bk.cell 0, h.bk.cell 1, h.bk.cell 2⟩
theorem PRb.srt (h : PRb w F g b r es) : SrtK es := by
  have := h.ok.srt
  rw [← h.eq] at this
  exact this.on
theorem PRb.keys (h : PRb w F g b r es) : ∀ p ∈ es, r.came < p.1 ∧ p.1 ≤ r.came + r.window := fun p hp => by
  have h1 : (p.1, p.2.1) ∈ r.early := by rw [← h.eq]; exact List.mem_map.2 ⟨p, hp, rfl⟩
  exact h.ok.keys _ h1
theorem PRb.len (h : PRb w F g b r es) : es.length = r.early.length := by rw [← h.eq, onK_len]
end

set_option maxRecDepth 100000 in
set_option maxHeartbeats 1000000 in
theorem rNew_bad (n : Int) (w : World) (h : ¬ (1 ≤ n ∧ n ≤ 64)) : Calls Try.prog 22 #[.int .i64 n] w fun e w' => e = .returned (.tuple #[.pointer none, .int .i64 2]) ∧ w = w' := by
  have HW := isWindow_any n w
  rw [show (decide (1 ≤ n) && decide (n ≤ 64)) = false by rw [Bool.and_eq_false_iff, decide_eq_false_iff_not, decide_eq_false_iff_not]; omega] at HW
  have HW := Lib.hid HW
  clear h
  go_enter Try.func22, Try.ntmps22
  go_wp2_with fail
  refine HW.out.mono ?_
  rintro e w' ⟨rfl, rfl⟩
  go_wp2
  go_ret2
  exact ⟨rfl, rfl⟩
set_option maxRecDepth 100000 in
set_option maxHeartbeats 1000000 in
theorem rNew_any (n : Nat) (w : World) (h : 1 ≤ n ∧ n ≤ 64) : Calls Try.prog 22 #[.int .i64 (n : Int)] w fun e w' => ∃ g F, e = .returned (.tuple #[.pointer (some ⟨g, 0, none⟩), .int .i64 0]) ∧ PR w' F g (Rc.new n) ∧ (∀ k, F k → w.heap.size ≤ k) ∧ Below w.heap.size w w' := by
  have HW := isWindow_any n w
  rw [decide_eq_true (by omega), decide_eq_true (by omega)] at HW
  have HW := Lib.hid HW
  have hmm := @run_makeMap Try.prog
  have hW3 : Below w.heap.size w ((w.alloc (.map #[] 0)).alloc (.cells #[.int .i64 (n : Int), .int .u64 ((0 : Nat) : Int), .int .u64 ((0 : Nat) : Int), .map (some w.heap.size)] 92)) := ((Below.refl _ _).alloc (Nat.le_refl _) _).alloc (by simp) _
  have hom : OwnE ((w.alloc (.map #[] 0)).alloc (.cells #[.int .i64 (n : Int), .int .u64 ((0 : Nat) : Int), .int .u64 ((0 : Nat) : Int), .map (some w.heap.size)] 92)) w.heap.size 0 [] := World.ownsMap.alloc (World.ownsMap_made w _ _ _) _
  have hbk : Bk ((w.alloc (.map #[] 0)).alloc (.cells #[.int .i64 (n : Int), .int .u64 ((0 : Nat) : Int), .int .u64 ((0 : Nat) : Int), .map (some w.heap.size)] 92)) (w.heap.size + 1) 92 #[.int .i64 (n : Int), .int .u64 ((0 : Nat) : Int), .int .u64 ((0 : Nat) : Int), .map (some w.heap.size)] := by
    have := Bk.new (w.alloc (.map #[] 0)) 92 #[.int .i64 (n : Int), .int .u64 ((0 : Nat) : Int), .int .u64 ((0 : Nat) : Int), .map (some w.heap.size)]
    rwa [show (w.alloc (.map #[] 0)).heap.size = w.heap.size + 1 by simp] at this
  have HP : Hid (PR ((w.alloc (.map #[] 0)).alloc (.cells #[.int .i64 (n : Int), .int .u64 ((0 : Nat) : Int), .int .u64 ((0 : Nat) : Int), .map (some w.heap.size)] 92)) (fun k => k = w.heap.size ∨ k = w.heap.size + 1) (w.heap.size + 1) (Rc.new n)) :=
    Lib.hid ⟨w.heap.size, [], hbk, hom, fun e he => (List.not_mem_nil he).elim, fun i j v u _ h => by simp at h, rfl, Rc.Ok.new h, .inr rfl, .inl rfl, fun e he => (List.not_mem_nil he).elim, fun k e => by simp; omega⟩
  have HB := Lib.hid hW3
  clear h hW3 hom hbk
  go_enter Try.func22, Try.ntmps22
  go_wp2_with fail
  refine HW.out.mono ?_
  rintro e w' ⟨rfl, rfl⟩
  go_wp2
  go_ret2
  exact ⟨_, _, rfl, HP.out, fun k e => by omega, HB.out⟩
set_option maxRecDepth 100000 in
set_option maxHeartbeats 400000 in
theorem rGot_nil (w : World) : Calls Try.prog 25 #[.pointer none] w fun e w' => e = .returned (.tuple #[.int .u64 0, .int .u64 0]) ∧ w = w' := by
  go_enter Try.func25, Try.ntmps25
  go_wp2
  go_ret2
  exact ⟨rfl, rfl⟩
set_option maxRecDepth 100000 in
set_option maxHeartbeats 1000000 in
theorem rGot_any {w : World} {F : Nat → Prop} {g : Nat} {r : Rc} (h : PR w F g r) : Calls Try.prog 25 #[.pointer (some ⟨g, 0, none⟩)] w fun e w' => e = .returned (.tuple #[.int .u64 (r.life : Int), .int .u64 (r.came : Int)]) ∧ ∃ m, w' = w.drewN m := by
  obtain ⟨c0, c1, c2⟩ := h.cells
  clear h
  go_enter Try.func25, Try.ntmps25
  go_wp2_with fail
  go_quiet (fail)
  go_wp2
  go_ret2
  exact ⟨rfl, _, rfl⟩

set_option maxRecDepth 100000 in
set_option maxHeartbeats 1000000 in
theorem rRefuse_nil (v0 v1 v2 v3 : Value) (w : World) : Calls Try.prog 40 #[.pointer none, .agg #[v0, v1, v2, v3]] w fun e w' => e = .returned (.int .i64 1) ∧ Below w.heap.size w w' := by
  go_enter Try.func40, Try.ntmps40
  go_wp2
  go_ret
  exact ⟨rfl, (Below.refl _ _).alloc (Nat.le_refl _) _⟩
set_option maxRecDepth 100000 in
set_option maxHeartbeats 4000000 in
theorem rRefuse_any {w : World} {F : Nat → Prop} {g : Nat} {r : Rc} (h : PR w F g r) (m : Sg) (A : Option Addr) (n c : Nat) (hl : m.body.length = n) :
    Calls Try.prog 40 #[.pointer (some ⟨g, 0, none⟩), sgV m (.slice A n c)] w fun e w' => e = .returned (.int .i64 (r.refuse m)) ∧ Below w.heap.size w w' := by
  obtain ⟨W1, hW1⟩ : ∃ W1, W1 = w.alloc (.cells (sgA m (.slice A n c)) 36) := ⟨_, rfl⟩
  have hb1 : Below w.heap.size w W1 := by rw [hW1]; exact (Below.refl _ _).alloc (Nat.le_refl _) _
  have hk1 : Bk W1 w.heap.size 36 (sgA m (.slice A n c)) := by rw [hW1]; exact Bk.new w 36 _
  have HR := right_any m A n c W1 hl
  have HG : Hid (∀ W, Below W1.heap.size W1 W → W.cell? ⟨w.heap.size, 0, none⟩ = some (.int .u64 (m.life : Int)) ∧ W.cell? ⟨w.heap.size, 2, none⟩ = some (.bool m.ack) ∧ W.cell? ⟨g, 1, none⟩ = some (.int .u64 (r.life : Int)) ∧ Below w.heap.size w W) := by
    refine Lib.hid fun W hb => ?_
    have hbw := below_then hb1 hb
    have hk := hk1.below hb hk1.lt
    obtain ⟨c0, c1, c2⟩ := (h.below hbw).cells
    exact ⟨hk.cell 0, hk.cell 2, c1, hbw⟩
  have k0 : W1.cell? ⟨w.heap.size, 0, none⟩ = some (.int .u64 (m.life : Int)) := hk1.cell 0
  have k1 : W1.cell? ⟨w.heap.size, 1, none⟩ = some (.int .u64 (m.seq : Int)) := hk1.cell 1
  have k2 : W1.cell? ⟨w.heap.size, 2, none⟩ = some (.bool m.ack) := hk1.cell 2
  have k3 : W1.cell? ⟨w.heap.size, 3, none⟩ = some (.slice A n c) := hk1.cell 3
  unfold Rc.refuse
  unfold sgV at HR ⊢
  unfold sgA at hW1
  obtain ⟨ml, mq, ma, mb⟩ := m
  dsimp only at HR HG hW1 k0 k1 k2 ⊢
  generalize hrt : ({ life := ml, seq := mq, ack := ma, body := mb } : Sg).right = rt at *
  have HR := Lib.hid HR
  have HW1 := Lib.hid hW1
  clear h hb1 hk1 hW1 hrt
  cases rt with
  | false =>
    rw [if_pos rfl]
    go_enter Try.func40, Try.ntmps40
    go_wp2_with fail
    rw [← HW1.out]
    refine HR.out.mono ?_
    rintro e w2 ⟨rfl, hb2⟩
    have HF2 := Lib.hid (HG.out w2 hb2).2.2.2
    clear hb2
    go_wp2
    go_ret
    exact ⟨rfl, HF2.out⟩
  | true =>
    rw [if_neg (by decide)]
    cases ma with
    | true =>
      rw [if_pos rfl]
      go_enter Try.func40, Try.ntmps40
      go_wp2_with fail
      rw [← HW1.out]
      refine HR.out.mono ?_
      rintro e w2 ⟨rfl, hb2⟩
      obtain ⟨x0, x2, x3, hbw⟩ := HG.out w2 hb2
      have HF2 := Lib.hid hbw
      clear hb2 hbw
      go_wp2
      go_ret
      exact ⟨rfl, HF2.out⟩
    | false =>
      rw [if_neg (by decide)]
      by_cases hlf : ml < r.life
      · rw [if_pos hlf]
        have hne : (ml : Int) < (r.life : Int) := by omega
        go_enter Try.func40, Try.ntmps40
        go_wp2_with fail
        rw [← HW1.out]
        refine HR.out.mono ?_
        rintro e w2 ⟨rfl, hb2⟩
        obtain ⟨x0, x2, x3, hbw⟩ := HG.out w2 hb2
        have HF2 := Lib.hid hbw
        clear hb2 hbw
        go_wp2_with fail
        go_quiet (fail)
        go_wp2
        go_ret
        exact ⟨rfl, bel_drewN HF2.out _⟩
      · rw [if_neg hlf]
        have hne : ¬ (ml : Int) < (r.life : Int) := by omega
        go_enter Try.func40, Try.ntmps40
        go_wp2_with fail
        rw [← HW1.out]
        refine HR.out.mono ?_
        rintro e w2 ⟨rfl, hb2⟩
        obtain ⟨x0, x2, x3, hbw⟩ := HG.out w2 hb2
        have HF2 := Lib.hid hbw
        clear hb2 hbw
        go_wp2_with fail
        go_quiet (fail)
        go_wp2
        go_ret
        exact ⟨rfl, bel_drewN HF2.out _⟩

set_option maxRecDepth 100000 in
set_option maxHeartbeats 1000000 in
theorem rWants_any {w : World} {F : Nat → Prop} {g : Nat} {r : Rc} (h : PR w F g r) (q : Nat) (hq : q < 18446744073709551616) : Calls Try.prog 41 #[.pointer (some ⟨g, 0, none⟩), .int .u64 (q : Int)] w fun e w' => e = .returned (.bool (r.wants q)) ∧ Below w.heap.size w w' := by
  have hok := h.ok
  obtain ⟨c0, c1, c2⟩ := h.cells
  obtain ⟨b, es, hp⟩ := h
  have c3 : w.cell? ⟨g, 3, none⟩ = some (.map (some b)) := hp.bk.cell 3
  have HL : Hid (∀ m, (Instr.lookup 90 (.map (some b)) (.int .u64 (q : Int)) true).run Try.prog (w.drewN m) = .ok (.tuple #[slV ((getK (onK (·.2) es) q).getD (none, 0, 0)), .bool (getK r.early q).isSome]) (w.drewN m)) := by
    refine Lib.hid fun m => ?_
    have := (hp.below (bel_drewN (Below.refl _ _) m)).map.look q hq
    rw [this]
    rw [← hp.eq, getK_on, getK_on]
    cases getK es q <;> rfl
  generalize (getK (onK (·.2) es) q).getD (none, 0, 0) = sv at *
  have hwin := hok.win
  unfold Rc.wants
  generalize getK r.early q = go at *
  generalize r.came = cm at *
  generalize r.window = wn at *
  clear hp hok c1
  by_cases h1 : q ≤ cm
  · have m1 : (q : Int) ≤ (cm : Int) := by omega
    rw [if_pos (.inl h1)]
    clear HL
    go_enter Try.func41, Try.ntmps41
    go_wp2_with fail
    go_quiet (fail)
    go_wp2
    go_ret
    exact ⟨rfl, bel_drewN (Below.refl _ _) _⟩
  · have m1 : ¬ (q : Int) ≤ (cm : Int) := by omega
    obtain ⟨D, hD⟩ : ∃ D, D = q - cm := ⟨_, rfl⟩
    rw [← hD]
    have e1 : IntKind.u64.wrap ((q : Int) - (cm : Int)) = (D : Int) := by rw [IntKind.wrap_u64]; omega
    have e2 : IntKind.u64.wrap (wn : Int) = (wn : Int) := by rw [IntKind.wrap_u64]; omega
    by_cases h2 : wn < D
    · have m2 : (wn : Int) < (D : Int) := by omega
      rw [if_pos (.inr h2)]
      clear HL hD
      go_enter Try.func41, Try.ntmps41
      go_wp2_with fail
      go_quiet (fail)
      go_wp2
      go_ret
      exact ⟨rfl, bel_drewN (Below.refl _ _) _⟩
    · have m2 : ¬ (wn : Int) < (D : Int) := by omega
      rw [if_neg (by omega)]
      clear hD
      go_enter Try.func41, Try.ntmps41
      go_wp2_with fail
      go_quiet (fail)
      have hl := HL.out nq
      go_wp2
      go_ret
      exact ⟨by cases go <;> rfl, bel_drewN (Below.refl _ _) _⟩
end Go.Proofs.Ytfdlhefbbhblnaa
