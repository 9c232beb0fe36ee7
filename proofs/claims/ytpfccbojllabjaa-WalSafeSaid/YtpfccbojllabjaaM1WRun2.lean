/- Of the proofs of layer 4, merged: WRun2. -/
import Derived.Test.YtpfccbojllabjaaMWGiven
import Derived.Test.YtpfccbojllabjaaM1RWal12

/- Layer 4's laws: both logs in one state, call by call. -/
namespace Go.Proofs.Ytpfccbojllabjaa
open Go.RowKit

def RunP (W w : World) (gp gd M : Nat) (d : Dk) (s : Lg) : Prop := ∃ H gw gr, P2 w H gp gd M gw gr d s d s ∧ (∀ k, H k → W.heap.size ≤ k) ∧ Below W.heap.size W w
section
variable {W w w' : World} {gp gd M : Nat} {d : Dk} {s : Lg}
theorem RunP.size (h : RunP W w gp gd M d s) : Below W.heap.size W w := by
  obtain ⟨H, gw, gr, h1, h2, h3⟩ := h
  exact h3
theorem RunP.below (h : RunP W w gp gd M d s) (hb : Below w.heap.size w w') : RunP W w' gp gd M d s := by
  obtain ⟨H, gw, gr, h1, h2, h3⟩ := h
  exact ⟨H, gw, gr, h1.below hb, h2, h3.trans (hb.mono h3.size)⟩
theorem RunP.of {H : Nat → Prop} (h1 : Pq w H gp gd M d (some s)) (h2 : ∀ k, H k → W.heap.size ≤ k) (h3 : Below W.heap.size W w) : RunP W w gp gd M d s := by
  obtain ⟨gw, gr, h⟩ := h1.two
  exact ⟨H, gw, gr, h, h2, h3⟩
theorem RunP.pair (h : RunP W w gp gd M d s) : ∃ H, Pq w H gp gd M d (some s) ∧ (∀ k, H k → W.heap.size ≤ k) ∧ Below W.heap.size W w := by
  obtain ⟨H, gw, gr, h1, h2, h3⟩ := h
  exact ⟨H, h1.pair, h2, h3⟩
theorem RunP.disks (h : RunP W w gp gd M d s) : RunD W w gp gd M d d := by
  obtain ⟨H, gw, gr, h1, h2, h3⟩ := h
  exact ⟨H, h1.disks, h2, h3⟩
theorem RunP.len (h : RunP W w gp gd M d s) : 1 ≤ d.safe.length ∧ d.safe.length ≤ 2048 := by
  obtain ⟨H, gw, gr, h1, h2, h3⟩ := h
  exact h1.disks.both.len
theorem RunP.ok (h : RunP W w gp gd M d s) : d.Ok ∧ s.Ok d.bytes := by
  obtain ⟨H, gw, gr, h1, h2, h3⟩ := h
  exact ⟨h1.disks.both.ok, h1.ok.1⟩

/-- A step that both take: the program's call, then the document's. -/
def Both2 (W w : World) (gp gd M : Nat) (f g : Nat) (args : List Value) (r : Int × Lg × Dk) : Prop :=
  ∃ gw, w.cell? ⟨gp, 1, none⟩ = some (.pointer (some ⟨gw, 0, none⟩)) ∧ Calls Try.prog f (.pointer (some ⟨gw, 0, none⟩) :: args).toArray w fun e w1 => e = .returned (.int .i64 r.1) ∧ Below W.heap.size W w1 ∧
    ∃ gr, w1.cell? ⟨gp, 3, none⟩ = some (.pointer (some ⟨gr, 0, none⟩)) ∧ Calls Try.prog g (.pointer (some ⟨gr, 0, none⟩) :: args).toArray w1 fun e w2 => e = .returned (.int .i64 r.1) ∧ RunP W w2 gp gd M r.2.2 r.2.1
theorem RunP.reset (h : RunP W w gp gd M d s) (hwl : d.waits.length ≤ 700000000) (h6 : 6 ≤ d.safe.length) (A : Option Addr) (nl cl : Nat) (l : List (List UInt8)) (hnl : nl ≤ 9223372036854775807) (hls : Parts W W.heap.size A nl l) :
    Both2 W w gp gd M 27 28 [.slice A nl cl] (s.reset d l) := by
  obtain ⟨H, gw, gr, h1, h2, h3⟩ := h
  have hp : ∀ x, Below W.heap.size W x → Parts x x.heap.size A nl l := fun x hb => (hls.below hb).more hb.size
  refine ⟨gw, h1.blk.cell 1, (h1.reset A nl cl l (by omega) h6 hnl (hp w h3)).mono ?_⟩
  rintro e w1 ⟨rfl, H1, q1, q2⟩
  have hb1 := h3.trans (q2.kp.below h2 h3.size)
  have hg1 := q2.ge h3.size h2
  refine ⟨rfl, hb1, gr, q1.blk.cell 3, (q1.rreset A nl cl l (by omega) h6 hnl (fun w' hk => hp w' (hb1.trans (hk.below hg1 hb1.size)))).mono ?_⟩
  rintro e w2 ⟨rfl, H2, q3, q4⟩
  exact ⟨rfl, H2, gw, gr, q3, q4.ge hb1.size hg1, hb1.trans (q4.kp.below hg1 hb1.size)⟩
theorem RunP.append (h : RunP W w gp gd M d s) (hwl : d.waits.length ≤ 700000000) (h6 : 6 ≤ d.safe.length) (A : Option Addr) (nb cb : Nat) (b : List UInt8) (hcb : nb ≤ cb) (hcm : cb ≤ 9223372036854775807) (hn : nb ≤ 140737488355328) (hb : Rd W W.heap.size A nb b) :
    Both2 W w gp gd M 19 20 [.slice A nb cb] (s.append d b) := by
  obtain ⟨H, gw, gr, h1, h2, h3⟩ := h
  have hp : ∀ x, Below W.heap.size W x → Rd x x.heap.size A nb b := fun x hx => (hb.below hx).more hx.size
  refine ⟨gw, h1.blk.cell 1, (h1.append A nb cb b (by omega) h6 hcb hcm (hp w h3)).mono ?_⟩
  rintro e w1 ⟨rfl, H1, q1, q2⟩
  have hb1 := h3.trans (q2.kp.below h2 h3.size)
  have hg1 := q2.ge h3.size h2
  refine ⟨rfl, hb1, gr, q1.blk.cell 3, ?_⟩
  have hcr : Calls Try.prog 20 #[.pointer (some ⟨gr, 0, none⟩), .slice A nb cb] w1 (SR w1 H1 gp gd M gw gr (s.append d b).2.2 (s.append d b).2.1 (s.append d b)) :=
    q1.racts fun H2' h2' hs => rappend_free gr M d s H2' A nb cb b w1 (by omega) h6 hn (hp w1 hb1) (fun h0 ad e2 hf => by
      obtain ⟨bk, o, e, hlt, _⟩ := hb.2 h0
      rw [e] at e2
      injection e2 with e2
      subst e2
      have := hg1 _ (hs _ hf)
      simp only at this
      omega) h2'
  refine hcr.mono ?_
  rintro e w2 ⟨rfl, H2, q3, q4⟩
  exact ⟨rfl, H2, gw, gr, q3, q4.ge hb1.size hg1, hb1.trans (q4.kp.below hg1 hb1.size)⟩
theorem RunP.sync (h : RunP W w gp gd M d s) (hwl : d.waits.length ≤ 700000000) : Both2 W w gp gd M 21 22 [] (s.sync d) := by
  obtain ⟨H, gw, gr, h1, h2, h3⟩ := h
  refine ⟨gw, h1.blk.cell 1, (h1.sync (by omega)).mono ?_⟩
  rintro e w1 ⟨rfl, H1, q1, q2⟩
  have hb1 := h3.trans (q2.kp.below h2 h3.size)
  have hg1 := q2.ge h3.size h2
  refine ⟨rfl, hb1, gr, q1.blk.cell 3, (q1.rsync (by omega)).mono ?_⟩
  rintro e w2 ⟨rfl, H2, q3, q4⟩
  exact ⟨rfl, H2, gw, gr, q3, q4.ge hb1.size hg1, hb1.trans (q4.kp.below hg1 hb1.size)⟩
theorem RunP.arm (h : RunP W w gp gd M d s) (n : Int) (h1 : -9223372036854775808 ≤ n) (h2 : n ≤ 9223372036854775807) :
    w.cell? ⟨gp, 0, none⟩ = some (.pointer (some ⟨gd, 0, none⟩)) ∧ Calls Try.prog 29 #[.pointer (some ⟨gd, 0, none⟩), .int .i64 n] w fun e w1 => e = .returned (.tuple #[]) ∧ w1.cell? ⟨gp, 2, none⟩ = some (.pointer (some ⟨M, 0, none⟩)) ∧ Below W.heap.size W w1 ∧
      Calls Try.prog 30 #[.pointer (some ⟨M, 0, none⟩), .int .i64 n] w1 fun e w2 => e = .returned (.tuple #[]) ∧ RunP W w2 gp gd M (d.arm n) s := by
  obtain ⟨H, hq, hH, hb⟩ := h.pair
  refine ⟨h.disks.cells.1, (hq.arm n h1 h2).mono ?_⟩
  rintro e w1 ⟨rfl, c2, hk, hn⟩
  refine ⟨rfl, c2, hb.trans (hk.below hH hb.size), (hn w1 (Below.refl _ _)).mono ?_⟩
  rintro e w2 ⟨rfl, q1, q2⟩
  exact ⟨rfl, RunP.of q1 hH (hb.trans (q2.below hH hb.size))⟩
/-- A crash of both, with an argument that was given. -/
theorem RunD.crashes {d : Dk} (h : RunD W w gp gd M d d) (hwl : d.waits.length ≤ 900000000) (A : Option Addr) (n c : Nat) (ks : List Int) (hn : n ≤ 9223372036854775807) (hks : RdI W W.heap.size A n ks) :
    w.cell? ⟨gp, 0, none⟩ = some (.pointer (some ⟨gd, 0, none⟩)) ∧ Calls Try.prog 14 #[.pointer (some ⟨gd, 0, none⟩), .slice A n c] w fun e w1 => e = .returned (.tuple #[]) ∧ w1.cell? ⟨gp, 2, none⟩ = some (.pointer (some ⟨M, 0, none⟩)) ∧
      Calls Try.prog 15 #[.pointer (some ⟨M, 0, none⟩), .slice A n c] w1 fun e w2 => e = .returned (.tuple #[]) ∧
        Calls Try.prog 23 #[.pointer (some ⟨gp, 0, none⟩)] w2 fun e w3 => e = .returned (.bool true) ∧ ∃ H, Pq w3 H gp gd M (d.crash ks).openL.2.2 (d.crash ks).openL.2.1 ∧ (∀ k, H k → W.heap.size ≤ k) ∧ Below W.heap.size W w3 := by
  obtain ⟨H, h1, h2, h3⟩ := h
  have hp : ∀ x, Below W.heap.size W x → RdI x x.heap.size A n ks := fun x hx => (hks.below hx).more hx.size
  refine ⟨h1.cells.1, (h1.crash A n c ks hn (by omega) (hp w h3) (hks.apart h2)).mono ?_⟩
  rintro e w1 ⟨rfl, H1, q1, q2⟩
  have hb1 := h3.trans (q2.kp.below h2 h3.size)
  have hg1 := q2.ge h3.size h2
  refine ⟨rfl, q1.cells.2, (q1.rcrash A n c ks hn (by omega) (hp w1 hb1) (hks.apart hg1)).mono ?_⟩
  rintro e w2 ⟨rfl, H2, q3, q4⟩
  have hb2 := hb1.trans (q4.kp.below hg1 hb1.size)
  have hg2 := q4.ge hb1.size hg1
  refine ⟨rfl, (pairOpen_any gp gd M _ H2 w2 (by simp [Dk.crash]) q3.both).mono ?_⟩
  rintro e w3 ⟨rfl, H3, q5, q6⟩
  exact ⟨rfl, H3, q5, q6.ge hb2.size hg2, hb2.trans (q6.kp.below hg2 hb2.size)⟩
/-- What both tell, of one log that was opened. -/
theorem RunP.tell (h : RunP W w gp gd M d s) : ∃ gw gr, w.cell? ⟨gp, 1, none⟩ = some (.pointer (some ⟨gw, 0, none⟩)) ∧ w.cell? ⟨gp, 3, none⟩ = some (.pointer (some ⟨gr, 0, none⟩)) ∧ (∃ A c, w.cell? ⟨gr, 2, none⟩ = some (.slice A s.recs.length c) ∧ s.recs.length ≤ c ∧ c ≤ maxLen ∧ Parts w w.heap.size A s.recs.length s.recs) ∧
    Calls Try.prog 24 #[.pointer (some ⟨gw, 0, none⟩)] w (ToldL s.tellL w) ∧ (Calls Try.prog 26 #[.pointer (some ⟨gw, 0, none⟩)] w fun e w' => e = .returned (.int .i64 (s.tellN : Nat)) ∧ w = w') := by
  obtain ⟨H, gw, gr, h1, h2, h3⟩ := h
  obtain ⟨A, c, q1, q2, q3, q4, q5⟩ := h1.rcells
  exact ⟨gw, gr, h1.blk.cell 1, h1.blk.cell 3, ⟨A, c, q1, q2, q3, q4⟩, h1.records, h1.safe⟩
end
end Go.Proofs.Ytpfccbojllabjaa
