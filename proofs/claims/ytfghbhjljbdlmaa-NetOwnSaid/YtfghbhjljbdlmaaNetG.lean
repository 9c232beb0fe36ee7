/- The program's Net: New, Look, Parted, Part and Join. -/
import Derived.Test.YtfghbhjljbdlmaaNetM
import Derived.Test.YtfghbhjljbdlmaaClone
import Derived.Handy
namespace Go.Proofs.Ytfghbhjljbdlmaa
open Go.RowKit

/-- What a packet is as a value. -/
def pkV (p : Pk) (b : Value) : Value := .agg #[.int .i64 p.frm, .int .i64 p.dst, b]
/-- A packet that was told: the body is new. -/
def LookR (s : Nt) (a : Int) (w : World) (e : Ending) (w' : World) : Prop :=
  ∃ b, e = .returned (.tuple #[pkV (s.look a).1 b, .bool (s.look a).2]) ∧ w'.ownsRow w.heap.size 5 1 b (s.look a).1.body.length (u8s (s.look a).1.body) ∧ Below w.heap.size w w'

set_option maxRecDepth 100000 in
set_option maxHeartbeats 1000000 in
theorem nLook_no (g n c : Nat) (a : Int) (A : Option Addr) (w : World) (c1 : w.cell? ⟨g, 1, none⟩ = some (.slice A n c)) (h : (decide (0 ≤ a) && decide (a < (n : Int))) = false) :
    Calls Try.prog 21 #[.pointer (some ⟨g, 0, none⟩), .int .i64 a] w fun e w' => e = .returned (.tuple #[pkV ⟨0, 0, []⟩ (.slice none 0 0), .bool false]) ∧ Below w.heap.size w w' := by
  have hg := World.block_lt_of_cell? w _ c1
  have hb0 : Below w.heap.size w (w.alloc (.cells #[.int .i64 0, .int .i64 0, .slice none 0 0] 34)) := (Below.refl _ _).alloc (Nat.le_refl _) _
  have HT := nThere_any g n c a A (w.alloc (.cells #[.int .i64 0, .int .i64 0, .slice none 0 0] 34)) ((hb0.cell hg).trans c1)
  rw [h] at HT
  have HT := Lib.hid HT
  have Hb0 := Lib.hid hb0
  clear hb0 c1 h
  go_enter Try.func21, Try.ntmps21
  go_wp2_with fail
  refine HT.out.mono ?_
  rintro e w' ⟨rfl, rfl⟩
  go_wp2
  go_returns
  exact ⟨rfl, by first | exact Hb0.out | trace_state⟩
set_option maxRecDepth 100000 in
set_option maxHeartbeats 1000000 in
theorem nLook_nil (a : Int) (w : World) :
    Calls Try.prog 21 #[.pointer none, .int .i64 a] w fun e w' => e = .returned (.tuple #[pkV ⟨0, 0, []⟩ (.slice none 0 0), .bool false]) ∧ Below w.heap.size w w' := by
  have hb0 : Below w.heap.size w (w.alloc (.cells #[.int .i64 0, .int .i64 0, .slice none 0 0] 34)) := (Below.refl _ _).alloc (Nat.le_refl _) _
  have HT := Lib.hid (nThere_nil a (w.alloc (.cells #[.int .i64 0, .int .i64 0, .slice none 0 0] 34)))
  have Hb0 := Lib.hid hb0
  clear hb0
  go_enter Try.func21, Try.ntmps21
  go_wp2_with fail
  refine HT.out.mono ?_
  rintro e w' ⟨rfl, rfl⟩
  go_wp2
  go_returns
  exact ⟨rfl, by first | exact Hb0.out | trace_state⟩
set_option maxRecDepth 100000 in
set_option maxHeartbeats 2000000 in
theorem nLook_yes (g n c R : Nat) (a : Nat) (p : Pk) (bv : Value) (w : World) (ha : a < n) (hp : p.body.length ≤ 1200) (c1 : w.cell? ⟨g, 1, none⟩ = some (.slice (some ⟨R, 0, none⟩) n c))
    (q0 : w.cell? ⟨R, a * 3, none⟩ = some (.int .i64 p.frm)) (q1 : w.cell? ⟨R, a * 3 + 1, none⟩ = some (.int .i64 p.dst)) (q2 : w.cell? ⟨R, a * 3 + 2, none⟩ = some bv) (ho : w.ownsRow 0 5 1 bv p.body.length (u8s p.body)) :
    Calls Try.prog 21 #[.pointer (some ⟨g, 0, none⟩), .int .i64 (a : Int)] w fun e w' => ∃ b, e = .returned (.tuple #[pkV p b, .bool true]) ∧ w'.ownsRow w.heap.size 5 1 b p.body.length (u8s p.body) ∧ Below w.heap.size w w' := by
  have hg := World.block_lt_of_cell? w _ c1
  obtain ⟨W1, hW1⟩ : ∃ W1, W1 = w.alloc (.cells #[.int .i64 0, .int .i64 0, .slice none 0 0] 34) := ⟨_, rfl⟩
  have hb0 : Below w.heap.size w W1 := by rw [hW1]; exact (Below.refl _ _).alloc (Nat.le_refl _) _
  have hs1 : W1.heap.size = w.heap.size + 1 := by rw [hW1]; simp
  have HT := nThere_any g n c a (some ⟨R, 0, none⟩) W1 ((hb0.cell hg).trans c1)
  have hr := World.block_lt_of_cell? w _ q0
  have q0' := (hb0.cell (p := ⟨R, a * 3, none⟩) hr).trans q0
  have q1' := (hb0.cell (p := ⟨R, a * 3 + 1, none⟩) hr).trans q1
  have q2' := (hb0.cell (p := ⟨R, a * 3 + 2, none⟩) hr).trans q2
  have c1' := (hb0.cell (p := ⟨g, 1, none⟩) hg).trans c1
  rw [show (decide (0 ≤ (a : Int)) && decide ((a : Int) < (n : Int))) = true by simp; omega] at HT
  have HT := Lib.hid HT
  obtain ⟨f, d, l⟩ := p
  have hp : l.length ≤ 1200 := hp
  have q0' : W1.cell? ⟨R, a * 3, none⟩ = some (.int .i64 f) := q0'
  have q1' : W1.cell? ⟨R, a * 3 + 1, none⟩ = some (.int .i64 d) := q1'
  obtain ⟨Ab, cb, rfl, hcb⟩ := own_shape ho
  have ho1 := own_below ho hb0 (fun k hk => (ho.lt k hk).2)
  obtain ⟨W2, hW2⟩ : ∃ W2, W2 = W1.alloc (.cells #[.int .i64 f, .int .i64 d, .slice Ab l.length cb] 34) := ⟨_, rfl⟩
  have hb1 : Below W1.heap.size W1 W2 := by rw [hW2]; exact (Below.refl _ _).alloc (Nat.le_refl _) _
  have ho2 := own_below ho1 hb1 (fun k hk => (ho1.lt k hk).2)
  have HC := Lib.hid (cloneB_any Ab l.length cb W2.heap.size l W2 (by omega) (Nat.le_refl _) (Rd.of_own ho2))
  have Hb0 := Lib.hid hb0
  have Hb1 := Lib.hid hb1
  have HW1 := Lib.hid hW1
  have HW2 := Lib.hid hW2
  have Hs1 := Lib.hid hs1
  clear hb0 hb1 ho ho1 ho2 q0 q1 q2 c1 hW1 hW2 hs1
  go_enter Try.func21, Try.ntmps21
  go_wp2_with fail
  rw [← HW1.out]
  refine HT.out.mono ?_
  rintro e w' ⟨rfl, rfl⟩
  go_wp2_with fail
  rw [← HW2.out]
  refine HC.out.mono ?_
  rintro e W3 ⟨v, rfl, ho3, hb3⟩
  obtain ⟨Av, cv, rfl, hcv⟩ := own_shape ho3
  have hz1 := Hs1.out
  have hz2 : W2.heap.size = W1.heap.size + 1 := by rw [HW2.out]; simp
  have k0 : Bk W3 w.heap.size 34 #[.int .i64 0, .int .i64 0, .slice none 0 0] := ((Bk.new w 34 _).below (hb := (by rw [← HW1.out]; exact Hb1.out)) (by omega)).below hb3 (by omega)
  have k1 : Bk W3 W1.heap.size 34 #[.int .i64 f, .int .i64 d, .slice Ab l.length cb] := (by rw [HW2.out]; exact Bk.new W1 34 _ : Bk W2 W1.heap.size 34 _).below hb3 (by omega)
  have x1 : W3.cell? ⟨W1.heap.size, 0, none⟩ = some (.int .i64 f) := k1.cell 0
  have x2 : W3.cell? ⟨W1.heap.size, 1, none⟩ = some (.int .i64 d) := k1.cell 1
  have x3 : W3.cell? ⟨W1.heap.size, 2, none⟩ = some (.slice Ab l.length cb) := k1.cell 2
  have y1 := k1.frozen 2
  have z1 := k0.frozen 0
  have z2 := k0.frozen 1
  have z3 := k0.frozen 2
  have v1 : W3.cell? ⟨w.heap.size, 0, none⟩ = some (.int .i64 0) := k0.cell 0
  have v2 : W3.cell? ⟨w.heap.size, 1, none⟩ = some (.int .i64 0) := k0.cell 1
  have v3 : W3.cell? ⟨w.heap.size, 2, none⟩ = some (.slice none 0 0) := k0.cell 2
  have hne : W1.heap.size ≠ w.heap.size := by omega
  have Ho3 := Lib.hid ho3
  have Hb3 := Lib.hid hb3
  have Hz2 := Lib.hid hz2
  have HK : Hid (Bk ((((W3.setCell ⟨W1.heap.size, 2, none⟩ (.slice Av l.length cv)).setCell ⟨w.heap.size, 0, none⟩ (.int .i64 f)).setCell ⟨w.heap.size, 1, none⟩ (.int .i64 d)).setCell ⟨w.heap.size, 2, none⟩ (.slice Av l.length cv)) w.heap.size 34 #[.int .i64 f, .int .i64 d, .slice Av l.length cv]) :=
    Lib.hid ((((k0.grown (grown_set W3 W1.heap.size 2 _) (by intro e; injection e with e; omega)).set_ 0 (.int .i64 f)).set_ 1 (.int .i64 d)).set_ 2 (.slice Av l.length cv))
  have HG : Hid (∀ x y z u, Kp (fun k => k = w.heap.size ∨ k = W1.heap.size) W3 ((((W3.setCell ⟨W1.heap.size, 2, none⟩ x).setCell ⟨w.heap.size, 0, none⟩ y).setCell ⟨w.heap.size, 1, none⟩ z).setCell ⟨w.heap.size, 2, none⟩ u)) := by
    refine Lib.hid fun x y z u => ?_
    exact (((Kp.set_ (p := ⟨W1.heap.size, 2, none⟩) (.inr rfl) x).trans (Kp.set_ (p := ⟨w.heap.size, 0, none⟩) (.inl rfl) y)).trans (Kp.set_ (p := ⟨w.heap.size, 1, none⟩) (.inl rfl) z)).trans (Kp.set_ (p := ⟨w.heap.size, 2, none⟩) (.inl rfl) u)
  clear hb3 ho3 k0 k1 HT HC c1' q0' q1' q2' hz1 hz2
  go_wp2
  have HG := Lib.hid (HG.out (.slice Av l.length cv) (.int .i64 f) (.int .i64 d) (.slice Av l.length cv))
  generalize (((W3.setCell ⟨W1.heap.size, 2, none⟩ (.slice Av l.length cv)).setCell ⟨w.heap.size, 0, none⟩ (.int .i64 f)).setCell ⟨w.heap.size, 1, none⟩ (.int .i64 d)).setCell ⟨w.heap.size, 2, none⟩ (.slice Av l.length cv) = W5 at *
  have j0 : W5.cell? ⟨w.heap.size, 0, none⟩ = some (.int .i64 f) := HK.out.cell 0
  have j1 : W5.cell? ⟨w.heap.size, 1, none⟩ = some (.int .i64 d) := HK.out.cell 1
  have j2 : W5.cell? ⟨w.heap.size, 2, none⟩ = some (.slice Av l.length cv) := HK.out.cell 2
  refine bodyPost_ret (by simp [results, Try.results21, go_sem, j0, j1, j2]; try rfl) rfl ?_
  have hz1 := Hs1.out
  have hz2 := Hz2.out
  refine ⟨_, rfl, own_kp (own_mono Ho3.out (by omega)) HG.out (fun k e h => ?_), ?_⟩
  · have := (Ho3.out.lt k e).1; omega
  · exact ((Hb0.out.trans (Hb1.out.mono (by omega))).trans (Hb3.out.mono (by omega))).trans (HG.out.below (fun k e => by omega) (by have := Hb3.out.size; omega))
theorem nLook_any {w : World} {F : Nat → Prop} {g : Nat} {s : Nt} (h : PN w F g s) (a : Int) : Calls Try.prog 21 #[.pointer (some ⟨g, 0, none⟩), .int .i64 a] w (LookR s a w) := by
  unfold LookR Nt.look
  by_cases ht : s.there a = true
  · rw [if_pos ht]
    obtain ⟨h0, hl⟩ := Nt.there_lt ht
    obtain ⟨k, rfl⟩ := Int.eq_ofNat_of_zero_le h0
    rw [Int.toNat_natCast] at hl
    obtain ⟨R, c, bv, q1, q2, q3, q4, q5, q6, q7, q8⟩ := h.get k hl
    have e : s.at_ (k : Int) = s.row[k] := by unfold Nt.at_; simp [List.getD, hl]
    rw [e]
    exact nLook_yes g s.row.length c R k s.row[k] bv w hl (h.ok.body _ (List.getElem_mem hl)) q1 q4 q5 q6 q7
  · rw [if_neg ht]
    obtain ⟨A, c, q1, q2⟩ := h.c1
    refine (nLook_no g s.row.length c a A w q1 (by unfold Nt.there at ht; simpa using ht)).mono ?_
    rintro e w' ⟨rfl, hb⟩
    exact ⟨_, rfl, World.ownsRow_nil _ _ _ _, hb⟩

theorem parted_node {s : Nt} (h : s.Ok) {a b : Int} (hp : s.parted a b = true) : s.node a = true ∧ s.node b = true := by
  unfold Nt.parted at hp
  obtain ⟨z, hz, hh⟩ := List.any_eq_true.1 hp
  have := h.apart z hz
  unfold hit at hh
  simp only [Bool.or_eq_true, Bool.and_eq_true, decide_eq_true_eq] at hh
  rcases hh with ⟨rfl, rfl⟩ | ⟨rfl, rfl⟩
  · exact this
  · exact ⟨this.2, this.1⟩
theorem node_nat {s : Nt} {a : Int} (h : s.node a = true) (hn : s.n ≤ 12) : ∃ k : Nat, a = (k : Int) ∧ k < 12 ∧ k < s.n := by
  unfold Nt.node at h
  simp only [Bool.and_eq_true, decide_eq_true_eq] at h
  obtain ⟨k, rfl⟩ := Int.eq_ofNat_of_zero_le h.1
  exact ⟨k, rfl, by omega, by omega⟩

set_option maxRecDepth 100000 in
set_option maxHeartbeats 1000000 in
theorem nParted_any {w : World} {F : Nat → Prop} {g : Nat} {s : Nt} (h : PN w F g s) (a b : Int) : Calls Try.prog 25 #[.pointer (some ⟨g, 0, none⟩), .int .i64 a, .int .i64 b] w fun e w' => e = .returned (.bool (s.parted a b)) ∧ w = w' := by
  have H1 : Hid (∀ a, Calls Try.prog 72 #[.pointer (some ⟨g, 0, none⟩), .int .i64 a] w fun e w' => e = .returned (.bool (s.node a)) ∧ w = w') := Lib.hid fun a => nNode_any g s.n a w h.c0
  by_cases ha : s.node a = true
  · by_cases hb : s.node b = true
    · obtain ⟨i, rfl, hi, _⟩ := node_nat ha h.ok.n2
      obtain ⟨j, rfl, hj, _⟩ := node_nat hb h.ok.n2
      have hbit := h.bit i j hi hj
      have HA := H1.out (i : Int)
      have HB := H1.out (j : Int)
      rw [ha] at HA
      rw [hb] at HB
      have HA := Lib.hid HA
      have HB := Lib.hid HB
      generalize s.parted i j = x at *
      clear ha hb H1
      go_enter Try.func25, Try.ntmps25
      go_wp2_with fail
      refine HA.out.mono ?_
      rintro e w' ⟨rfl, rfl⟩
      go_wp2_with fail
      refine HB.out.mono ?_
      rintro e w' ⟨rfl, rfl⟩
      go_wp2
      go_ret
      exact ⟨rfl, rfl⟩
    · have hb' : s.node b = false := by simpa using hb
      have hp : s.parted a b = false := by
        cases hp : s.parted a b with
        | false => rfl
        | true => exact absurd (parted_node h.ok hp).2 hb
      rw [hp]
      have HA := H1.out a
      have HB := H1.out b
      rw [ha] at HA
      rw [hb'] at HB
      have HA := Lib.hid HA
      have HB := Lib.hid HB
      clear ha hb hb' hp H1 h
      go_enter Try.func25, Try.ntmps25
      go_wp2_with fail
      refine HA.out.mono ?_
      rintro e w' ⟨rfl, rfl⟩
      go_wp2_with fail
      refine HB.out.mono ?_
      rintro e w' ⟨rfl, rfl⟩
      go_wp2
      go_ret
      exact ⟨rfl, rfl⟩
  · have ha' : s.node a = false := by simpa using ha
    have hp : s.parted a b = false := by
      cases hp : s.parted a b with
      | false => rfl
      | true => exact absurd (parted_node h.ok hp).1 ha
    rw [hp]
    have HA := H1.out a
    rw [ha'] at HA
    have HA := Lib.hid HA
    clear ha ha' hp H1 h
    go_enter Try.func25, Try.ntmps25
    go_wp2_with fail
    refine HA.out.mono ?_
    rintro e w' ⟨rfl, rfl⟩
    go_wp2
    go_ret
    exact ⟨rfl, rfl⟩
set_option maxRecDepth 100000 in
set_option maxHeartbeats 1000000 in
theorem nParted_nil (a b : Int) (w : World) : Calls Try.prog 25 #[.pointer none, .int .i64 a, .int .i64 b] w fun e w' => e = .returned (.bool false) ∧ w = w' := by
  have HA := Lib.hid (nNode_nil a w)
  go_enter Try.func25, Try.ntmps25
  go_wp2_with fail
  refine HA.out.mono ?_
  rintro e w' ⟨rfl, rfl⟩
  go_wp2
  go_ret
  exact ⟨rfl, rfl⟩

/-! ### New -/
def bNet (parts : Array (Nat × Value)) : Sem Value := Instr.build 122 parts
theorem bNet_eq (parts : Array (Nat × Value)) : Instr.build 122 parts = bNet parts := rfl
def netCells (n : Int) : Array Value := #[.int .i64 n, .slice none 0 0] ++ Array.replicate 144 (.bool false)
theorem run_bNet (n : Int) (W : World) : (bNet #[(0, .int .i64 n)]).run Try.prog W = .ok (.agg (netCells n)) W :=
  run_build W _ _ _ (by kernel_rfl)
attribute [local go_sem ↓] bNet_eq
attribute [local go_sem] run_bNet
set_option maxRecDepth 100000 in
set_option maxHeartbeats 1000000 in
theorem nNew_any (n : Nat) (w : World) (h1 : 1 ≤ n) (h2 : n ≤ 12) : Calls Try.prog 15 #[.int .i64 (n : Int)] w fun e w' => ∃ g F, e = .returned (.tuple #[.pointer (some ⟨g, 0, none⟩), .int .i64 0]) ∧ PN w' F g (Nt.new n) ∧ (∀ k, F k → w.heap.size ≤ k) ∧ Below w.heap.size w w' := by
  have HP : Hid (PN (w.alloc (.cells (netCells n) 122)) (fun k => k = w.heap.size) w.heap.size (Nt.new n) ∧ Below w.heap.size w (w.alloc (.cells (netCells n) 122))) := by
    refine Lib.hid ⟨⟨netCells n, .slice none 0 0, [], Bk.new _ _ _, ⟨by simp [netCells], by simp [netCells, Nt.new], by simp [netCells], fun i j hi hj => ?_⟩, PkRow.nil _ _, rfl, Nt.Ok.new h1 h2, rfl, fun k e => by subst e; simp⟩, (Below.refl _ _).alloc (Nat.le_refl _) _⟩
    unfold netCells
    have hsz : (#[Value.int .i64 (n : Int), .slice none 0 0] : Array Value).size = 2 := rfl
    rw [Array.getElem?_append_right (by rw [hsz]; omega), hsz, Array.getElem?_replicate, if_pos (by omega)]
    rfl
  generalize hN : netCells (n : Int) = N at *
  have hrb := run_bNet (n : Int)
  rw [hN] at hrb
  have h1' : ¬ (n : Int) < 1 := by omega
  have h2' : ¬ (12 : Int) < (n : Int) := by omega
  clear hN
  go_enter Try.func15, Try.ntmps15
  go_wp2
  go_ret2
  exact ⟨_, rfl, _, HP.out.1, (fun k e => by omega), HP.out.2⟩
set_option maxRecDepth 100000 in
set_option maxHeartbeats 1000000 in
theorem nNew_bad (n : Int) (w : World) (h : n < 1 ∨ 12 < n) : Calls Try.prog 15 #[.int .i64 n] w fun e w' => e = .returned (.tuple #[.pointer none, .int .i64 2]) ∧ w = w' := by
  by_cases h1 : n < 1
  · go_enter Try.func15, Try.ntmps15
    go_wp2
    go_ret2
    exact ⟨rfl, rfl⟩
  · have h2 : 12 < n := by omega
    go_enter Try.func15, Try.ntmps15
    go_wp2
    go_ret2
    exact ⟨rfl, rfl⟩
end Go.Proofs.Ytfghbhjljbdlmaa
