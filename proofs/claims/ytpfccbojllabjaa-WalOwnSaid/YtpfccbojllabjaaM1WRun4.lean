/- Of the proofs of layer 4, merged: WRun4. -/
import Derived.Test.YtpfccbojllabjaaMWGiven
import Derived.Test.YtpfccbojllabjaaM1Lent2

/- Layer 4's laws: a log whose records were lent, and rows of them. -/
namespace Go.Proofs.Ytpfccbojllabjaa
open Go.RowKit

/-- The program's log has the records rs; vl is a row of what was lent, vw one of what was given; of what was lent all from the j0-th on is whole. -/
structure OWp (W w : World) (H : Nat → Prop) (vl vw : Value) (valsR valsW vals2 : List Value) (ls2 : List (List UInt8)) (j0 : Nat) : Prop where
  rowL : w.ownsRow W.heap.size 40 1 vl valsR.length valsR
  rowW : w.ownsRow W.heap.size 40 1 vw valsW.length valsW
  each : ∀ (i : Nat) (v : Value), j0 ≤ i → vals2[i]? = some v → w.ownsRow W.heap.size 5 1 v (ls2.getD i []).length (u8s (ls2.getD i []))
  apart : AllApart vals2
  len : vals2.length = ls2.length
  hL : ∀ k, vl.ownBlock = some k → ¬ H k
  hW : ∀ k, vw.ownBlock = some k → ¬ H k
  h2 : ∀ (i : Nat) (v : Value) (k : Nat), vals2[i]? = some v → v.ownBlock = some k → ¬ H k ∧ k < w.heap.size ∧ W.heap.size ≤ k
  lw : ∀ k, vl.ownBlock = some k → vw.ownBlock ≠ some k
section
variable {W w w' : World} {H H' : Nat → Prop} {vl vw : Value} {valsR valsW vals2 : List Value} {ls2 : List (List UInt8)} {j0 : Nat}
theorem OWp.mv (h : OWp W w H vl vw valsR valsW vals2 ls2 j0) (hm : Mv H H' w w') : OWp W w' H' vl vw valsR valsW vals2 ls2 j0 where
  rowL := own_kp h.rowL hm.kp h.hL
  rowW := own_kp h.rowW hm.kp h.hW
  each := fun i v hi hv => own_kp (h.each i v hi hv) hm.kp (fun k e => (h.h2 i v k hv e).1)
  apart := h.apart
  len := h.len
  hL := fun k e hf => by rcases hm.new k hf with q | q; exact h.hL k e q; have := (h.rowL.lt k e).2; omega
  hW := fun k e hf => by rcases hm.new k hf with q | q; exact h.hW k e q; have := (h.rowW.lt k e).2; omega
  h2 := fun i v k hv e => by
    obtain ⟨q1, q2, q3⟩ := h.h2 i v k hv e
    exact ⟨fun hf => by rcases hm.new k hf with q | q; exact q1 q; omega, Nat.lt_of_lt_of_le q2 hm.kp.size, q3⟩
  lw := h.lw
theorem OWp.below (h : OWp W w H vl vw valsR valsW vals2 ls2 j0) (hb : Below w.heap.size w w') : OWp W w' H vl vw valsR valsW vals2 ls2 j0 := h.mv (Mv.of (Kp.of_below hb))
/-- One more is lent. -/
theorem OWp.lent (h : OWp W w H vl vw valsR valsW vals2 ls2 j0) (hj : j0 = 0) (hH : ∀ k, H k → k < w.heap.size) (hW : W.heap.size ≤ w.heap.size) (hb : Below w.heap.size w w') {v : Value} {l : List UInt8} (ho : w'.ownsRow w.heap.size 5 1 v l.length (u8s l)) : OWp W w' H vl vw valsR valsW (vals2 ++ [v]) (ls2 ++ [l]) j0 := by
  have h' := h.below hb
  subst hj
  have hF : Fam w W.heap.size vals2 ls2 := ⟨h.len, fun i u hu => h.each i u (Nat.zero_le _) hu, h.apart⟩
  have hF' := hF.push hb ho hW
  refine ⟨h'.rowL, h'.rowW, fun i u _ hu => hF'.each i u hu, hF'.apart, hF'.len, h'.hL, h'.hW, fun i u k hu e => ?_, h'.lw⟩
  rcases append_get hu with ⟨_, hu⟩ | ⟨_, rfl⟩
  · exact h'.h2 i u k hu e
  · have := ho.lt k e
    exact ⟨fun hf => by have := hH k hf; omega, this.2, by omega⟩
/-- One more element of the first row. -/
theorem OWp.pushL (h : OWp W w H vl vw valsR valsW vals2 ls2 j0) (hH : ∀ k, H k → k < w.heap.size) {v' x : Value} (ha : App w w' W.heap.size 40 1 vl v' valsR.length 1 valsR [x]) : OWp W w' H v' vw (valsR ++ [x]) valsW vals2 ls2 j0 := by
  have hk : Kp (fun k => vl.ownBlock = some k) w w' := Kp.of_row ha.grow fun g e => e
  refine ⟨by rw [List.length_append]; exact ha.own, own_kp h.rowW hk (fun k e e2 => h.lw k e2 e), fun i v hi hv => own_kp (h.each i v hi hv) hk (fun k e e2 => own_ne2 (h.each i v hi hv) h.rowL (by decide) k e e2), h.apart, h.len, fun k e => ?_, h.hW, fun i v k hv e => ?_, fun k e e2 => ?_⟩
  · rcases ha.block with q | q
    · rw [q] at e; exact h.hL k e
    · rw [q] at e; injection e with e; intro hf; have := hH k hf; omega
  · obtain ⟨q1, q2, q3⟩ := h.h2 i v k hv e
    exact ⟨q1, Nat.lt_of_lt_of_le q2 hk.size, q3⟩
  · rcases ha.block with q | q
    · rw [q] at e; exact h.lw k e e2
    · rw [q] at e; injection e with e; have := (h.rowW.lt k e2).2; omega
theorem OWp.pushW (h : OWp W w H vl vw valsR valsW vals2 ls2 j0) (hH : ∀ k, H k → k < w.heap.size) {v' x : Value} (ha : App w w' W.heap.size 40 1 vw v' valsW.length 1 valsW [x]) : OWp W w' H vl v' valsR (valsW ++ [x]) vals2 ls2 j0 := by
  have hk : Kp (fun k => vw.ownBlock = some k) w w' := Kp.of_row ha.grow fun g e => e
  refine ⟨own_kp h.rowL hk (fun k e e2 => h.lw k e e2), by rw [List.length_append]; exact ha.own, fun i v hi hv => own_kp (h.each i v hi hv) hk (fun k e e2 => own_ne2 (h.each i v hi hv) h.rowW (by decide) k e e2), h.apart, h.len, h.hL, fun k e => ?_, fun i v k hv e => ?_, fun k e e2 => ?_⟩
  · rcases ha.block with q | q
    · rw [q] at e; exact h.hW k e
    · rw [q] at e; injection e with e; intro hf; have := hH k hf; omega
  · obtain ⟨q1, q2, q3⟩ := h.h2 i v k hv e
    exact ⟨q1, Nat.lt_of_lt_of_le q2 hk.size, q3⟩
  · rcases ha.block with q | q
    · rw [q] at e2; exact h.lw k e e2
    · rw [q] at e2; injection e2 with e2; have := (h.rowL.lt k e).2; omega
/-- The j-th is written over. -/
theorem OWp.spoil (h : OWp W w H vl vw valsR valsW vals2 ls2 j0) {v : Value} {g : Nat} (hv : vals2[j0]? = some v) (hg : v.ownBlock = some g) (hk : Kp (· = g) w w') : OWp W w' H vl vw valsR valsW vals2 ls2 (j0 + 1) := by
  have ho := h.each j0 v (Nat.le_refl _) hv
  refine ⟨own_kp h.rowL hk (fun k e e2 => ?_), own_kp h.rowW hk (fun k e e2 => ?_), fun i u hi hu => own_kp (h.each i u (by omega) hu) hk (fun k e e2 => ?_), h.apart, h.len, h.hL, h.hW, fun i u k hu e => ?_, h.lw⟩
  · subst e2; exact own_ne2 ho h.rowL (by decide) k hg e
  · subst e2; exact own_ne2 ho h.rowW (by decide) k hg e
  · subst e2; exact h.apart j0 i v u (by omega) hv hu k hg e
  · obtain ⟨q1, q2, q3⟩ := h.h2 i u k hu e
    exact ⟨q1, Nat.lt_of_lt_of_le q2 hk.size, q3⟩
end
/-- The log's side. -/
def OWl (W w : World) (H : Nat → Prop) (gp gw : Nat) (i : Nat) (rs : List (List UInt8)) : Prop :=
  ∃ gd M gr d s dr sr, P2 w H gp gd M gw gr d s dr sr ∧ (∀ k, H k → W.heap.size ≤ k) ∧ Below W.heap.size W w ∧ OnDisk d s ∧ d.Free ∧ s.gone = false ∧ s.recs = rs ∧ d.safe.length = 300 ∧ d.waits.length ≤ 1100 * (i + 1)
def OW (W w : World) (gp gw i : Nat) (rs : List (List UInt8)) (vl vw : Value) (valsR valsW vals2 : List Value) (ls2 : List (List UInt8)) (j0 : Nat) : Prop := ∃ H, OWl W w H gp gw i rs ∧ OWp W w H vl vw valsR valsW vals2 ls2 j0
section
variable {W w w' : World} {gp gw i : Nat} {rs : List (List UInt8)} {vl vw : Value} {valsR valsW vals2 : List Value} {ls2 : List (List UInt8)} {j0 : Nat}
theorem OWl.lt {H : Nat → Prop} (h : OWl W w H gp gw i rs) : ∀ k, H k → k < w.heap.size := by
  obtain ⟨gd, M, gr, d, s, dr, sr, h1, _⟩ := h
  exact h1.lt
theorem OWl.below {H : Nat → Prop} (h : OWl W w H gp gw i rs) (hb : Below w.heap.size w w') : OWl W w' H gp gw i rs := by
  obtain ⟨gd, M, gr, d, s, dr, sr, h1, h2, h3, h4⟩ := h
  exact ⟨gd, M, gr, d, s, dr, sr, h1.below hb, h2, h3.trans (hb.mono h3.size), h4⟩
theorem OW.size (h : OW W w gp gw i rs vl vw valsR valsW vals2 ls2 j0) : Below W.heap.size W w := by
  obtain ⟨H, ⟨gd, M, gr, d, s, dr, sr, h1, h2, h3, h4⟩, _⟩ := h
  exact h3
theorem OW.below (h : OW W w gp gw i rs vl vw valsR valsW vals2 ls2 j0) (hb : Below w.heap.size w w') : OW W w' gp gw i rs vl vw valsR valsW vals2 ls2 j0 := by
  obtain ⟨H, h1, h2⟩ := h
  exact ⟨H, h1.below hb, h2.below hb⟩
theorem OW.cell (h : OW W w gp gw i rs vl vw valsR valsW vals2 ls2 j0) : w.cell? ⟨gp, 1, none⟩ = some (.pointer (some ⟨gw, 0, none⟩)) := by
  obtain ⟨H, ⟨gd, M, gr, d, s, dr, sr, h1, _⟩, _⟩ := h
  exact h1.blk.cell 1
theorem OW.records (h : OW W w gp gw i rs vl vw valsR valsW vals2 ls2 j0) : Calls Try.prog 24 #[.pointer (some ⟨gw, 0, none⟩)] w (ToldL rs w) := by
  obtain ⟨H, ⟨gd, M, gr, d, s, dr, sr, h1, h2, h3, h4, h5, h6, h7, h8⟩, _⟩ := h
  have := h1.records
  have e : s.tellL = rs := by unfold Lg.tellL; rw [h6, h7]; rfl
  rw [e] at this
  exact this
theorem OW.lent (h : OW W w gp gw i rs vl vw valsR valsW vals2 ls2 0) (hb : Below w.heap.size w w') {v : Value} {l : List UInt8} (ho : w'.ownsRow w.heap.size 5 1 v l.length (u8s l)) : OW W w' gp gw i rs vl vw valsR valsW (vals2 ++ [v]) (ls2 ++ [l]) 0 := by
  have hs := h.size.size
  obtain ⟨H, h1, h2⟩ := h
  exact ⟨H, h1.below hb, h2.lent rfl h1.lt hs hb ho⟩
theorem OW.pushL (h : OW W w gp gw i rs vl vw valsR valsW vals2 ls2 j0) {v' x : Value} (ha : App w w' W.heap.size 40 1 vl v' valsR.length 1 valsR [x]) : OW W w' gp gw i rs v' vw (valsR ++ [x]) valsW vals2 ls2 j0 := by
  obtain ⟨H, h1, h2⟩ := h
  have hk : Kp (fun k => vl.ownBlock = some k) w w' := Kp.of_row ha.grow fun g e => e
  refine ⟨H, ?_, h2.pushL h1.lt ha⟩
  obtain ⟨gd, M, gr, d, s, dr, sr, k1, k2, k3, k4⟩ := h1
  exact ⟨gd, M, gr, d, s, dr, sr, k1.kp hk (fun k e e2 => h2.hL k e2 e), k2, k3.trans (hk.below (fun k e => (h2.rowL.lt k e).1) k3.size), k4⟩
theorem OW.pushW (h : OW W w gp gw i rs vl vw valsR valsW vals2 ls2 j0) {v' x : Value} (ha : App w w' W.heap.size 40 1 vw v' valsW.length 1 valsW [x]) : OW W w' gp gw i rs vl v' valsR (valsW ++ [x]) vals2 ls2 j0 := by
  obtain ⟨H, h1, h2⟩ := h
  have hk : Kp (fun k => vw.ownBlock = some k) w w' := Kp.of_row ha.grow fun g e => e
  refine ⟨H, ?_, h2.pushW h1.lt ha⟩
  obtain ⟨gd, M, gr, d, s, dr, sr, k1, k2, k3, k4⟩ := h1
  exact ⟨gd, M, gr, d, s, dr, sr, k1.kp hk (fun k e e2 => h2.hW k e2 e), k2, k3.trans (hk.below (fun k e => (h2.rowW.lt k e).1) k3.size), k4⟩
theorem OW.spoil (h : OW W w gp gw i rs vl vw valsR valsW vals2 ls2 j0) {v : Value} {g : Nat} (hv : vals2[j0]? = some v) (hg : v.ownBlock = some g) (hk : Kp (· = g) w w') : OW W w' gp gw i rs vl vw valsR valsW vals2 ls2 (j0 + 1) := by
  obtain ⟨H, h1, h2⟩ := h
  obtain ⟨q1, q2, q3⟩ := h2.h2 j0 v g hv hg
  refine ⟨H, ?_, h2.spoil hv hg hk⟩
  obtain ⟨gd, M, gr, d, s, dr, sr, k1, k2, k3, k4⟩ := h1
  exact ⟨gd, M, gr, d, s, dr, sr, k1.kp hk (fun k e e2 => by subst e2; exact q1 e), k2, k3.trans (hk.below (fun k e => by omega) k3.size), k4⟩
theorem OW.append (h : OW W w gp gw i rs vl vw valsR valsW vals2 ls2 j0) (hi : i ≤ 1000) (A : Option Addr) (nb cb : Nat) (b : List UInt8) (hcb : nb ≤ cb) (hcm : cb ≤ 9223372036854775807) (hb : Rd w w.heap.size A nb b) (h4 : nb ≤ 1024) (hf : usedF rs + (10 + nb) ≤ 4768) :
    Calls Try.prog 19 #[.pointer (some ⟨gw, 0, none⟩), .slice A nb cb] w fun e w' => e = .returned (.int .i64 0) ∧ OW W w' gp gw (i + 1) (rs ++ [b]) vl vw valsR valsW vals2 ls2 j0 := by
  obtain ⟨H, ⟨gd, M, gr, d, s, dr, sr, h1, h2, h3, h4', h5, h6, h7, h8, h9⟩, hp⟩ := h
  have hby : d.bytes = 4768 := by simp [Dk.bytes, Dk.half, halfN, h8]
  have hbl := hb.1
  obtain ⟨d', q1, q2, q3, q4⟩ := append_on h4' h5 h6 (b := b) (by omega) (by rw [h7]; omega)
  have hw := append_waits s d b (by omega)
  have hc := h1.append A nb cb b (by omega) (by omega) hcb hcm hb
  rw [q1] at hc hw
  refine hc.mono ?_
  rintro e w' ⟨rfl, H', k1, k2⟩
  refine ⟨rfl, H', ⟨gd, M, gr, _, _, dr, sr, k1, k2.ge h3.size h2, h3.trans (k2.kp.below h2 h3.size), q2, q3, h6, by simp only; rw [h7], by rw [q4]; exact h8, ?_⟩, hp.mv k2⟩
  simp only at hw ⊢
  omega
theorem OW.start {gd M : Nat} {H : Nat → Prop} (h1 : Pq w H gp gd M (Dk.new 300).openL.2.2 (Dk.new 300).openL.2.1) (h2 : ∀ k, H k → W.heap.size ≤ k) (h3 : Below W.heap.size W w) : ∃ gw, OW W w gp gw 0 [] (.slice none 0 0) (.slice none 0 0) [] [] [] [] 0 := by
  have hf := fresh_on 300 (by omega)
  have ho := open_again hf rfl
  rw [hf.found] at ho
  rw [ho] at h1
  obtain ⟨gw, gr, hp⟩ := h1.two
  exact ⟨gw, H, ⟨gd, M, gr, _, _, _, _, hp, h2, h3, hf, Dk.new_free 300, rfl, rfl, (List.length_replicate : (List.replicate 300 (List.replicate 32 (0 : UInt8))).length = 300), Nat.zero_le _⟩,
    World.ownsRow_nil _ _ _ _, World.ownsRow_nil _ _ _ _, fun i v _ h => by simp at h, fun i j v u _ h => by simp at h, rfl, fun k e => by simp [Value.ownBlock] at e, fun k e => by simp [Value.ownBlock] at e, fun i v k h => by simp at h, fun k e => by simp [Value.ownBlock] at e⟩
end
end Go.Proofs.Ytpfccbojllabjaa
