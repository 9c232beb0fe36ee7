/- Of the proofs of layer 4, merged: WRun3. -/
import Derived.Test.YtpfccbojllabjaaM1WRun2
import Derived.Test.YtpfccbojllabjaaM1WalP7

/- Layer 4's laws: both logs in one state, and a row of what was appended. -/
namespace Go.Proofs.Ytpfccbojllabjaa
open Go.RowKit

def RunK (W w : World) (gp gd M : Nat) (d : Dk) (s : Lg) (v : Value) (vals : List Value) : Prop :=
  ∃ H gw gr, P2 w H gp gd M gw gr d s d s ∧ (∀ k, H k → W.heap.size ≤ k) ∧ Below W.heap.size W w ∧ w.ownsRow W.heap.size 40 1 v vals.length vals ∧ ∀ k, v.ownBlock = some k → ¬ H k
/-- The row's elements are slices that were given. -/
def Elems (W : World) (vals : List Value) (L : List (List UInt8)) : Prop := vals.length = L.length ∧ ∀ i (h : i < L.length), ∃ A n c, vals[i]? = some (.slice A n c) ∧ n ≤ c ∧ c ≤ 9223372036854775807 ∧ Rd W W.heap.size A n L[i]
theorem Elems.push {W : World} {vals : List Value} {L : List (List UInt8)} (h : Elems W vals L) {A : Option Addr} {n c : Nat} {l : List UInt8} (h1 : n ≤ c) (h2 : c ≤ 9223372036854775807) (h3 : Rd W W.heap.size A n l) : Elems W (vals ++ [.slice A n c]) (L ++ [l]) := by
  refine ⟨by simp [h.1], fun i hi => ?_⟩
  by_cases hc : i < L.length
  · obtain ⟨A', n', c', q1, q2, q3, q4⟩ := h.2 i hc
    refine ⟨A', n', c', ?_, q2, q3, ?_⟩
    · rw [List.getElem?_append_left (by rw [h.1]; exact hc)]; exact q1
    · rw [List.getElem_append_left hc]; exact q4
  · have hl : i = L.length := by simp at hi; omega
    subst hl
    refine ⟨A, n, c, ?_, h1, h2, ?_⟩
    · rw [← h.1, List.getElem?_append_right (Nat.le_refl _)]; simp
    · rw [List.getElem_append_right (Nat.le_refl _)]; simpa using h3
theorem Elems.parts {W w : World} {vals : List Value} {L : List (List UInt8)} {A : Option Addr} {n c : Nat} (h : Elems W vals L) (hb : Below W.heap.size W w) (ho : w.ownsRow W.heap.size 40 1 (.slice A n c) vals.length vals) (hn : n = L.length) : Parts w w.heap.size A n L := by
  refine ⟨hn.symm, fun i hi => ?_⟩
  obtain ⟨A', n', c', q1, q2, q3, q4⟩ := h.2 i hi
  rcases ho.2 with ⟨_, h0⟩ | ⟨g, cap, cur, hv, _, hh, _⟩
  · have := h.1; omega
  · have hA : A = some ⟨g, 0, none⟩ := by injection hv
    subst hA
    have hc := ho.cells (g := g) rfl i _ q1
    rw [Addr.add_lit] at hc
    exact ⟨g, 0, A', n', c', rfl, (Array.getElem?_eq_some_iff.1 hh).1, hc, q2, q3, (q4.below hb).more hb.size⟩
def Both3 (W w : World) (gp gd M : Nat) (f g : Nat) (args : List Value) (r : Int × Lg × Dk) (v : Value) (vals : List Value) : Prop :=
  ∃ gw, w.cell? ⟨gp, 1, none⟩ = some (.pointer (some ⟨gw, 0, none⟩)) ∧ Calls Try.prog f (.pointer (some ⟨gw, 0, none⟩) :: args).toArray w fun e w1 => e = .returned (.int .i64 r.1) ∧ Below W.heap.size W w1 ∧ w1.cell? ⟨gp, 1, none⟩ = some (.pointer (some ⟨gw, 0, none⟩)) ∧
    ∃ gr, w1.cell? ⟨gp, 3, none⟩ = some (.pointer (some ⟨gr, 0, none⟩)) ∧ ∀ W', Below w1.heap.size w1 W' → Calls Try.prog g (.pointer (some ⟨gr, 0, none⟩) :: args).toArray W' fun e w2 => e = .returned (.int .i64 r.1) ∧ w2.cell? ⟨gp, 3, none⟩ = some (.pointer (some ⟨gr, 0, none⟩)) ∧ RunK W w2 gp gd M r.2.2 r.2.1 v vals
section
variable {W w w' : World} {gp gd M : Nat} {d : Dk} {s : Lg} {v v' : Value} {vals : List Value}
theorem RunK.size (h : RunK W w gp gd M d s v vals) : Below W.heap.size W w := by
  obtain ⟨H, gw, gr, h1, h2, h3, _⟩ := h
  exact h3
theorem RunK.row (h : RunK W w gp gd M d s v vals) : w.ownsRow W.heap.size 40 1 v vals.length vals := by
  obtain ⟨H, gw, gr, h1, h2, h3, h4, _⟩ := h
  exact h4
theorem RunK.start (h : RunP W w gp gd M d s) : RunK W w gp gd M d s (.slice none 0 0) [] := by
  obtain ⟨H, gw, gr, h1, h2, h3⟩ := h
  exact ⟨H, gw, gr, h1, h2, h3, World.ownsRow_nil _ _ _ _, by intro k e; simp [Value.ownBlock] at e⟩
theorem row_mv {H H' : Nat → Prop} (ho : w.ownsRow W.heap.size 40 1 v vals.length vals) (hd : ∀ k, v.ownBlock = some k → ¬ H k) (hm : Mv H H' w w') : w'.ownsRow W.heap.size 40 1 v vals.length vals ∧ ∀ k, v.ownBlock = some k → ¬ H' k :=
  ⟨own_kp ho hm.kp hd, fun k e hf => by
    rcases hm.new k hf with h | h
    · exact hd k e h
    · have := (ho.lt k e).2; omega⟩
theorem RunK.below (h : RunK W w gp gd M d s v vals) (hb : Below w.heap.size w w') : RunK W w' gp gd M d s v vals := by
  obtain ⟨H, gw, gr, h1, h2, h3, h4, h5⟩ := h
  exact ⟨H, gw, gr, h1.below hb, h2, h3.trans (hb.mono h3.size), own_below h4 hb (fun k e => (h4.lt k e).2), h5⟩
theorem RunK.append (h : RunK W w gp gd M d s v vals) (hwl : d.waits.length ≤ 700000000) (h6 : 6 ≤ d.safe.length) (A : Option Addr) (nb cb : Nat) (b : List UInt8) (hcb : nb ≤ cb) (hcm : cb ≤ 9223372036854775807) (hn : nb ≤ 140737488355328) (hb : Rd W W.heap.size A nb b) :
    Both3 W w gp gd M 19 20 [.slice A nb cb] (s.append d b) v vals := by
  obtain ⟨H, gw, gr, h1, h2, h3, h4, h5⟩ := h
  have hp : ∀ x, Below W.heap.size W x → Rd x x.heap.size A nb b := fun x hx => (hb.below hx).more hx.size
  refine ⟨gw, h1.blk.cell 1, (h1.append A nb cb b (by omega) h6 hcb hcm (hp w h3)).mono ?_⟩
  rintro e w1 ⟨rfl, H1, q1, q2⟩
  have hb1 := h3.trans (q2.kp.below h2 h3.size)
  have hg1 := q2.ge h3.size h2
  obtain ⟨o1, o2⟩ := row_mv h4 h5 q2
  refine ⟨rfl, hb1, q1.blk.cell 1, gr, q1.blk.cell 3, fun w1' hw1 => ?_⟩
  have q1 := q1.below hw1
  have o1 := own_below o1 hw1 (fun k e => (o1.lt k e).2)
  have hb1 := hb1.trans (hw1.mono hb1.size)
  have hcr : Calls Try.prog 20 #[.pointer (some ⟨gr, 0, none⟩), .slice A nb cb] w1' (SR w1' H1 gp gd M gw gr (s.append d b).2.2 (s.append d b).2.1 (s.append d b)) :=
    q1.racts fun H2' h2' hs => rappend_free gr M d s H2' A nb cb b w1' (by omega) h6 hn (hp w1' hb1) (fun h0 ad e2 hf => by
      obtain ⟨bk, o, e, hlt, _⟩ := hb.2 h0
      rw [e] at e2
      injection e2 with e2
      subst e2
      have := hg1 _ (hs _ hf)
      simp only at this
      omega) h2'
  refine hcr.mono ?_
  rintro e w2 ⟨rfl, H2, q3, q4⟩
  obtain ⟨o3, o4⟩ := row_mv o1 o2 q4
  exact ⟨rfl, q3.blk.cell 3, H2, gw, gr, q3, q4.ge hb1.size hg1, hb1.trans (q4.kp.below hg1 hb1.size), o3, o4⟩
theorem RunK.sync (h : RunK W w gp gd M d s v vals) (hwl : d.waits.length ≤ 700000000) : Both3 W w gp gd M 21 22 [] (s.sync d) v vals := by
  obtain ⟨H, gw, gr, h1, h2, h3, h4, h5⟩ := h
  refine ⟨gw, h1.blk.cell 1, (h1.sync (by omega)).mono ?_⟩
  rintro e w1 ⟨rfl, H1, q1, q2⟩
  have hb1 := h3.trans (q2.kp.below h2 h3.size)
  have hg1 := q2.ge h3.size h2
  obtain ⟨o1, o2⟩ := row_mv h4 h5 q2
  refine ⟨rfl, hb1, q1.blk.cell 1, gr, q1.blk.cell 3, fun w1' hw1 => ?_⟩
  have q1 := q1.below hw1
  have o1 := own_below o1 hw1 (fun k e => (o1.lt k e).2)
  have hb1 := hb1.trans (hw1.mono hb1.size)
  refine (q1.rsync (by omega)).mono ?_
  rintro e w2 ⟨rfl, H2, q3, q4⟩
  obtain ⟨o3, o4⟩ := row_mv o1 o2 q4
  exact ⟨rfl, q3.blk.cell 3, H2, gw, gr, q3, q4.ge hb1.size hg1, hb1.trans (q4.kp.below hg1 hb1.size), o3, o4⟩
/-- One more element of the row. -/
theorem RunK.push (h : RunK W w gp gd M d s v vals) {x : Value} (ha : App w w' W.heap.size 40 1 v v' vals.length 1 vals [x]) : RunK W w' gp gd M d s v' (vals ++ [x]) := by
  obtain ⟨H, gw, gr, h1, h2, h3, h4, h5⟩ := h
  have hk : Kp (fun k => v.ownBlock = some k) w w' := Kp.of_row ha.grow fun g e => e
  refine ⟨H, gw, gr, h1.kp hk (fun k e e2 => h5 k e2 e), h2, h3.trans (hk.below (fun k e => (h4.lt k e).1) h3.size), by rw [List.length_append]; exact ha.own, fun k e => ?_⟩
  rcases ha.block with q | q
  · rw [q] at e; exact h5 k e
  · rw [q] at e
    injection e with e
    intro hf
    have := h1.lt k hf
    omega
/-- A crash of both, and both opened; the row stays. -/
theorem RunK.crashes (h : RunK W w gp gd M d s v vals) (hwl : d.waits.length ≤ 900000000) (A : Option Addr) (n c : Nat) (ks : List Int) (hn : n ≤ 9223372036854775807) (hks : RdI W W.heap.size A n ks) :
    w.cell? ⟨gp, 0, none⟩ = some (.pointer (some ⟨gd, 0, none⟩)) ∧ Calls Try.prog 14 #[.pointer (some ⟨gd, 0, none⟩), .slice A n c] w fun e w1 => e = .returned (.tuple #[]) ∧ w1.cell? ⟨gp, 2, none⟩ = some (.pointer (some ⟨M, 0, none⟩)) ∧
      Calls Try.prog 15 #[.pointer (some ⟨M, 0, none⟩), .slice A n c] w1 fun e w2 => e = .returned (.tuple #[]) ∧
        Calls Try.prog 23 #[.pointer (some ⟨gp, 0, none⟩)] w2 fun e w3 => e = .returned (.bool true) ∧ (∃ H, Pq w3 H gp gd M (d.crash ks).openL.2.2 (d.crash ks).openL.2.1 ∧ (∀ k, H k → W.heap.size ≤ k) ∧ Below W.heap.size W w3) ∧ w3.ownsRow W.heap.size 40 1 v vals.length vals := by
  obtain ⟨H, gw, gr, h1', h2, h3, h4, h5⟩ := h
  have h1 := h1'.disks
  have hp : ∀ x, Below W.heap.size W x → RdI x x.heap.size A n ks := fun x hx => (hks.below hx).more hx.size
  refine ⟨h1.cells.1, (h1.crash A n c ks hn (by omega) (hp w h3) (hks.apart h2)).mono ?_⟩
  rintro e w1 ⟨rfl, H1, q1, q2⟩
  have hb1 := h3.trans (q2.kp.below h2 h3.size)
  have hg1 := q2.ge h3.size h2
  obtain ⟨o1, o2⟩ := row_mv h4 h5 q2
  refine ⟨rfl, q1.cells.2, (q1.rcrash A n c ks hn (by omega) (hp w1 hb1) (hks.apart hg1)).mono ?_⟩
  rintro e w2 ⟨rfl, H2, q3, q4⟩
  have hb2 := hb1.trans (q4.kp.below hg1 hb1.size)
  have hg2 := q4.ge hb1.size hg1
  obtain ⟨o3, o4⟩ := row_mv o1 o2 q4
  refine ⟨rfl, (pairOpen_any gp gd M _ H2 w2 (by simp [Dk.crash]) q3.both).mono ?_⟩
  rintro e w3 ⟨rfl, H3, q5, q6⟩
  obtain ⟨o5, o6⟩ := row_mv o3 o4 q6
  exact ⟨rfl, ⟨H3, q5, q6.ge hb2.size hg2, hb2.trans (q6.kp.below hg2 hb2.size)⟩, o5⟩
end
theorem RunP.play5 {W w : World} {gp gd M : Nat} {d : Dk} {s : Lg} (h : RunP W w gp gd M d s) (h6 : 6 ≤ d.safe.length) (hwl : d.waits.length ≤ 700000000) (nn : Int) (h1 : -9223372036854775808 ≤ nn) (h2 : nn ≤ 9223372036854775807) :
    Calls Try.prog 12 #[.pointer (some ⟨gp, 0, none⟩), .agg #[.int .i64 5, .int .i64 nn, .int .u8 0, .slice none 0 0, .slice none 0 0]] w fun e w' => e = .returned (.bool true) ∧ RunP W w' gp gd M (d.arm nn) s := by
  obtain ⟨H, q1, q2, q3⟩ := h.pair
  have hx : ({ kind := 5, n := nn, fill := 0, list := [], la := none, ln := 0, lc := 0, keep := [], ka := none, kn := 0, kc := 0 } : Ac4).Ok w W.heap.size := ⟨by simp, ⟨h1, h2⟩, by simp, ⟨rfl, fun i hi => by simp at hi⟩, by simp, RdI.nil _ _ _⟩
  refine (play_any _ (some s) hwl (fun _ => h6) hx q3.size q2 q1).mono ?_
  rintro e w' ⟨rfl, d', o', H', k1, k2, _, _, _, k6⟩
  obtain ⟨rfl, rfl⟩ := k6 rfl
  exact ⟨rfl, RunP.of k1 (k2.ge q3.size q2) (q3.trans (k2.kp.below q2 q3.size))⟩
end Go.Proofs.Ytpfccbojllabjaa
