/- Layer 6 in memory: a row of packets; the program's Net. -/
import Derived.Test.YtfghbhjljbdlmaaNetP
import Derived.Test.YtfghbhjljbdlmaaProg
import Derived.Test.YtfghbhjljbdlmaaOwnP
import Derived.WalkKit
namespace Go.Proofs.Ytfghbhjljbdlmaa
open Go.RowKit

structure PkRow (w : World) (F : Nat → Prop) (v : Value) (es : List (Pk × Value)) : Prop where
  own : w.ownsRow 0 34 3 v es.length (pkC es)
  each : ∀ e ∈ es, w.ownsRow 0 5 1 e.2 e.1.body.length (u8s e.1.body)
  foot : ∀ k, v.ownBlock = some k → F k
  bods : ∀ e ∈ es, ∀ k, e.2.ownBlock = some k → F k
section
variable {w w' : World} {F G : Nat → Prop} {v : Value} {es : List (Pk × Value)}
theorem PkRow.kp (h : PkRow w F v es) (hk : Kp G w w') (hd : ∀ k, F k → ¬ G k) : PkRow w' F v es :=
  ⟨own_kp h.own hk fun k e => hd k (h.foot k e), fun e he => own_kp (h.each e he) hk fun k e2 => hd k (h.bods e he k e2), h.foot, h.bods⟩
theorem PkRow.mono (h : PkRow w F v es) (hf : ∀ k, F k → G k) : PkRow w G v es := ⟨h.own, h.each, fun k e => hf k (h.foot k e), fun e he k e2 => hf k (h.bods e he k e2)⟩
theorem PkRow.nil (w : World) (F : Nat → Prop) : PkRow w F (.slice none 0 0) [] := ⟨World.ownsRow_nil _ _ _ _, fun e he => (List.not_mem_nil he).elim, (fun k e => by cases e), fun e he => (List.not_mem_nil he).elim⟩
/-- The cells of the packet at a place. -/
theorem PkRow.cell (h : PkRow w F v es) (i : Nat) (hi : i < es.length) : ∃ R c, v = .slice (some ⟨R, 0, none⟩) es.length c ∧ es.length ≤ c ∧ c ≤ maxLen ∧ w.cell? ⟨R, i * 3, none⟩ = some (.int .i64 es[i].1.frm) ∧ w.cell? ⟨R, i * 3 + 1, none⟩ = some (.int .i64 es[i].1.dst) ∧ w.cell? ⟨R, i * 3 + 2, none⟩ = some es[i].2 := by
  rcases h.own.2 with ⟨_, h0⟩ | ⟨g, cap, cur, rfl, _, hh, h1, h2, _⟩
  · omega
  · have q := fun j (hj : j < 3) u (hu : (pkE es[i])[j]? = some u) => h.own.cells (g := g) rfl (i * 3 + j) u (by rw [pkC_at es i j hi hj]; exact hu)
    have q0 := q 0 (by omega) _ rfl
    have q1 := q 1 (by omega) _ rfl
    have q2 := q 2 (by omega) _ rfl
    rw [Addr.add_lit, Nat.zero_add] at q0 q1 q2
    exact ⟨g, cap, rfl, h1, h2, q0, q1, q2⟩
theorem PkRow.shape (h : PkRow w F v es) : ∃ A c, v = .slice A es.length c ∧ es.length ≤ c ∧ c ≤ maxLen := own_shape h.own
theorem PkRow.lt (h : PkRow w F v es) : ∀ k, v.ownBlock = some k → k < w.heap.size := fun k e => (h.own.lt k e).2
end

/-- The cells of a Net. -/
structure NetC (cs : Array Value) (s : Nt) (v : Value) : Prop where
  size : cs.size = 146
  c0 : cs[0]? = some (.int .i64 (s.n : Int))
  c1 : cs[1]? = some v
  bits : ∀ i j : Nat, i < 12 → j < 12 → cs[2 + i * 12 + j]? = some (.bool (s.parted i j))
/-- Block g is the program's Net s. -/
def PN (w : World) (F : Nat → Prop) (g : Nat) (s : Nt) : Prop :=
  ∃ cs v es, Bk w g 122 cs ∧ NetC cs s v ∧ PkRow w F v es ∧ es.map (·.1) = s.row ∧ s.Ok ∧ F g ∧ ∀ k, F k → k < w.heap.size
section
variable {w w' : World} {F G : Nat → Prop} {g : Nat} {s : Nt}
theorem PN.kp (h : PN w F g s) (hk : Kp G w w') (hd : ∀ k, F k → ¬ G k) : PN w' F g s := by
  obtain ⟨cs, v, es, h1, h2, h3, h4, h5, h6, h7⟩ := h
  exact ⟨cs, v, es, h1.kp hk (hd _ h6), h2, h3.kp hk hd, h4, h5, h6, fun k e => Nat.lt_of_lt_of_le (h7 k e) hk.size⟩
theorem PN.below (h : PN w F g s) (hb : Below w.heap.size w w') : PN w' F g s := h.kp (G := fun _ => False) (Kp.of_below hb) fun _ _ h => h
theorem PN.ok (h : PN w F g s) : s.Ok := by obtain ⟨cs, v, es, h1, h2, h3, h4, h5, h6, h7⟩ := h; exact h5
theorem PN.lt (h : PN w F g s) : ∀ k, F k → k < w.heap.size := by obtain ⟨cs, v, es, h1, h2, h3, h4, h5, h6, h7⟩ := h; exact h7
theorem PN.c0 (h : PN w F g s) : w.cell? ⟨g, 0, none⟩ = some (.int .i64 (s.n : Int)) := by
  obtain ⟨cs, v, es, h1, h2, _⟩ := h
  rw [h1.cell 0]
  exact h2.c0
theorem PN.c1 (h : PN w F g s) : ∃ A c, w.cell? ⟨g, 1, none⟩ = some (.slice A s.row.length c) ∧ s.row.length ≤ c ∧ c ≤ maxLen := by
  obtain ⟨cs, v, es, h1, h2, h3, h4, _⟩ := h
  obtain ⟨A, c, rfl, hc⟩ := h3.shape
  have e : es.length = s.row.length := by rw [← h4]; simp
  rw [e] at h2 hc
  exact ⟨A, c, by rw [h1.cell 1]; exact h2.c1, hc⟩
theorem PN.bit (h : PN w F g s) (i j : Nat) (hi : i < 12) (hj : j < 12) : w.cell? ⟨g, 2 + i * 12 + j, none⟩ = some (.bool (s.parted i j)) := by
  obtain ⟨cs, v, es, h1, h2, _⟩ := h
  rw [h1.cell]
  exact h2.bits i j hi hj
theorem PN.get (h : PN w F g s) (i : Nat) (hi : i < s.row.length) : ∃ R c bv, w.cell? ⟨g, 1, none⟩ = some (.slice (some ⟨R, 0, none⟩) s.row.length c) ∧ s.row.length ≤ c ∧ c ≤ maxLen ∧ w.cell? ⟨R, i * 3, none⟩ = some (.int .i64 s.row[i].frm) ∧ w.cell? ⟨R, i * 3 + 1, none⟩ = some (.int .i64 s.row[i].dst) ∧ w.cell? ⟨R, i * 3 + 2, none⟩ = some bv ∧
    w.ownsRow 0 5 1 bv s.row[i].body.length (u8s s.row[i].body) ∧ (∀ k, bv.ownBlock = some k → F k) := by
  obtain ⟨cs, v, es, h1, h2, h3, h4, _⟩ := h
  have e : es.length = s.row.length := by rw [← h4]; simp
  obtain ⟨R, c, hv, q1, q2, q3, q4, q5⟩ := h3.cell i (by omega)
  have ei : es[i].1 = s.row[i] := by simp [← h4]
  rw [e] at hv q1
  rw [ei] at q3 q4
  have hm := List.getElem_mem (show i < es.length by omega)
  refine ⟨R, c, es[i].2, by rw [h1.cell 1, ← hv]; exact h2.c1, q1, q2, q3, q4, q5, ?_, h3.bods _ hm⟩
  have := h3.each _ hm
  rwa [ei] at this
end

theorem Try.infoPacket : (Try.prog.info? 34).map (fun i => (i.zero, i.size, i.bytes)) = some (some (.agg #[.int .i64 0, .int .i64 0, .slice none 0 0]), 3, 40) := by kernel_rfl

set_option maxRecDepth 100000 in
/-! ### what only looks -/
set_option maxHeartbeats 400000 in
theorem nNode_any (g n : Nat) (a : Int) (w : World) (c0 : w.cell? ⟨g, 0, none⟩ = some (.int .i64 (n : Int))) :
    Calls Try.prog 72 #[.pointer (some ⟨g, 0, none⟩), .int .i64 a] w fun e w' => e = .returned (.bool (decide (0 ≤ a) && decide (a < (n : Int)))) ∧ w = w' := by
  by_cases h1 : 0 ≤ a
  · go_enter Try.func72, Try.ntmps72
    go_wp2
    go_ret
    exact ⟨by simp [h1], rfl⟩
  · go_enter Try.func72, Try.ntmps72
    go_wp2
    go_ret
    exact ⟨by rw [decide_eq_false (Int.not_le.2 h1)]; rfl, rfl⟩
set_option maxRecDepth 100000 in
set_option maxHeartbeats 400000 in
theorem nNode_nil (a : Int) (w : World) : Calls Try.prog 72 #[.pointer none, .int .i64 a] w fun e w' => e = .returned (.bool false) ∧ w = w' := by
  go_enter Try.func72, Try.ntmps72
  go_wp2
  go_ret
  exact ⟨rfl, rfl⟩
set_option maxRecDepth 100000 in
set_option maxHeartbeats 400000 in
theorem nLen_any (g n c : Nat) (A : Option Addr) (w : World) (c1 : w.cell? ⟨g, 1, none⟩ = some (.slice A n c)) :
    Calls Try.prog 20 #[.pointer (some ⟨g, 0, none⟩)] w fun e w' => e = .returned (.int .i64 (n : Int)) ∧ w = w' := by
  go_enter Try.func20, Try.ntmps20
  go_wp2
  go_ret
  exact ⟨rfl, rfl⟩
set_option maxRecDepth 100000 in
set_option maxHeartbeats 400000 in
theorem nLen_nil (w : World) : Calls Try.prog 20 #[.pointer none] w fun e w' => e = .returned (.int .i64 0) ∧ w = w' := by
  go_enter Try.func20, Try.ntmps20
  go_wp2
  go_ret
  exact ⟨rfl, rfl⟩
set_option maxRecDepth 100000 in
set_option maxHeartbeats 400000 in
theorem nFull_any (g n c : Nat) (A : Option Addr) (w : World) (c1 : w.cell? ⟨g, 1, none⟩ = some (.slice A n c)) :
    Calls Try.prog 73 #[.pointer (some ⟨g, 0, none⟩)] w fun e w' => e = .returned (.bool (decide (256 ≤ n))) ∧ w = w' := by
  go_enter Try.func73, Try.ntmps73
  go_wp2
  go_ret
  refine ⟨?_, rfl⟩
  congr 2
  by_cases h : 256 ≤ n
  · simp [h]; omega
  · simp [h]; omega
set_option maxRecDepth 100000 in
set_option maxHeartbeats 400000 in
theorem nThere_any (g n c : Nat) (a : Int) (A : Option Addr) (w : World) (c1 : w.cell? ⟨g, 1, none⟩ = some (.slice A n c)) :
    Calls Try.prog 70 #[.pointer (some ⟨g, 0, none⟩), .int .i64 a] w fun e w' => e = .returned (.bool (decide (0 ≤ a) && decide (a < (n : Int)))) ∧ w = w' := by
  have HL := Lib.hid (nLen_any g n c A w c1)
  by_cases h1 : 0 ≤ a
  · go_enter Try.func70, Try.ntmps70
    go_wp2_with fail
    refine HL.out.mono ?_
    rintro e w' ⟨rfl, rfl⟩
    go_wp2
    go_ret
    exact ⟨by simp [h1], rfl⟩
  · go_enter Try.func70, Try.ntmps70
    go_wp2
    go_ret
    exact ⟨by rw [decide_eq_false (Int.not_le.2 h1)]; rfl, rfl⟩
set_option maxRecDepth 100000 in
set_option maxHeartbeats 400000 in
theorem nThere_nil (a : Int) (w : World) : Calls Try.prog 70 #[.pointer none, .int .i64 a] w fun e w' => e = .returned (.bool false) ∧ w = w' := by
  have HL := Lib.hid (nLen_nil w)
  by_cases h1 : 0 ≤ a
  · go_enter Try.func70, Try.ntmps70
    go_wp2_with fail
    refine HL.out.mono ?_
    rintro e w' ⟨rfl, rfl⟩
    go_wp2
    go_ret
    exact ⟨by first | rfl | (simp; omega), rfl⟩
  · go_enter Try.func70, Try.ntmps70
    go_wp2
    go_ret
    exact ⟨by simp, rfl⟩
end Go.Proofs.Ytfghbhjljbdlmaa
