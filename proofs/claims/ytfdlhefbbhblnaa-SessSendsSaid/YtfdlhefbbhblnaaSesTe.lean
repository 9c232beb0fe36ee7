/- Layer 7's laws: both senders, what was told, a slice that is lent, a tick's segments. -/
import Derived.Test.YtfdlhefbbhblnaaSesTd
import Derived.Test.YtfdlhefbbhblnaaLent
namespace Go.Proofs.Ytfdlhefbbhblnaa
open Go.RowKit Go.Maps

/-! ### plain -/
theorem Sd.push_to (s : Sd) (l : List UInt8) : (s.push l).2.tick = s.tick ∧ (s.push l).2.came + (s.push l).2.queue.length ≤ s.came + s.queue.length + 1 := by
  unfold Sd.push
  split
  · exact ⟨rfl, by simp⟩
  split
  · exact ⟨rfl, by simp⟩
  · exact ⟨rfl, by simp; omega⟩
theorem Sd.hear_to (s : Sd) (m : Sg) : (s.hear m).2.tick = s.tick ∧ (s.hear m).2.came + (s.hear m).2.queue.length ≤ s.came + s.queue.length := by
  unfold Sd.hear
  split
  · exact ⟨rfl, Nat.le_refl _⟩
  split
  · exact ⟨rfl, Nat.le_refl _⟩
  split
  · exact ⟨rfl, Nat.le_refl _⟩
  split
  · exact ⟨rfl, Nat.le_refl _⟩
  split
  · refine ⟨rfl, ?_⟩
    simp only [List.length_drop]
    omega
  · exact ⟨rfl, Nat.le_refl _⟩
theorem outQ_body (life span T : Nat) : ∀ (l : List (List UInt8 × Nat)) (c : Nat), (∀ q ∈ l, q.1.length ≤ 1000) → ∀ e ∈ outQ life span T c l, e.body.length ≤ 1000
  | [], c, _, e, h => by simp [outQ] at h
  | x :: r, c, hq, e, h => by
    simp only [outQ, List.mem_append] at h
    rcases h with h | h
    · split at h
      · simp at h; rw [h]; exact hq x List.mem_cons_self
      · simp at h
    · exact outQ_body life span T r (c + 1) (fun q hq2 => hq q (List.mem_cons_of_mem _ hq2)) e h
theorem Sd.Ok.out_small {s : Sd} (h : s.Ok) : (∀ e ∈ s.out, e.body.length ≤ 1000) ∧ s.out.length ≤ 64 := by
  refine ⟨outQ_body _ _ _ _ _ fun q hq => (h.bods q (List.mem_of_mem_take hq)).1, ?_⟩
  have h1 := outQ_len s.life s.span (s.tick + 1) (s.queue.take s.k) s.came
  have h2 := h.win
  unfold Sd.out
  have h3 : (s.queue.take s.k).length ≤ s.k := by rw [List.length_take]; omega
  have h4 : s.k ≤ s.window := by unfold Sd.k; omega
  omega
theorem Sd.tickS_to (s : Sd) : s.tickS.tick = s.tick + 1 ∧ s.tickS.came + s.tickS.queue.length = s.came + s.queue.length := ⟨rfl, by rw [Sd.tickS_len]; rfl⟩

/-- Ahead of an act, or between its calls. -/
def SnQ (W w : World) (gx gy k N : Nat) (tv : Value) (s1 s2 : Sd) : Prop := ∃ Fx Fy dn vals ls, Ts W w Fx Fy gx gy s1 s2 dn ∧ Tld W w (Un Fx Fy) tv N vals ls ∧ vals.length = N ∧ s1.tick ≤ k ∧ s1.came + s1.queue.length ≤ k ∧ s2.tick ≤ k ∧ s2.came + s2.queue.length ≤ k ∧ N ≤ 64 * k
section
variable {W w w' : World} {gx gy k N : Nat} {tv : Value} {s1 s2 : Sd}
theorem SnQ.outs (h : SnQ W w gx gy k N tv s1 s2) : s1.out.length ≤ 64 := by
  obtain ⟨Fx, Fy, dn, vals, ls, h1, _⟩ := h
  exact h1.ps.ok.out_small.2
theorem SnQ.below (h : SnQ W w gx gy k N tv s1 s2) (hb : Below w.heap.size w w') : SnQ W w' gx gy k N tv s1 s2 := by
  obtain ⟨Fx, Fy, dn, vals, ls, h1, h2, h3⟩ := h
  exact ⟨Fx, Fy, dn, vals, ls, h1.mvb hb, h2.below hb, h3⟩
theorem SnQ.bel (h : SnQ W w gx gy k N tv s1 s2) : Below W.heap.size W w := by
  obtain ⟨Fx, Fy, dn, vals, ls, h1, _⟩ := h
  exact h1.below
theorem SnQ.up (h : SnQ W w gx gy k N tv s1 s2) {j : Nat} (hj : k ≤ j) : SnQ W w gx gy j N tv s1 s2 := by
  obtain ⟨Fx, Fy, dn, vals, ls, h1, h2, h3, h4, h5, h6, h7, h8⟩ := h
  exact ⟨Fx, Fy, dn, vals, ls, h1, h2, h3, by omega, by omega, by omega, by omega, by omega⟩
theorem SnQ.shape (h : SnQ W w gx gy k N tv s1 s2) : ∃ A c, tv = .slice A N c ∧ N ≤ 64 * k := by
  obtain ⟨Fx, Fy, dn, vals, ls, h1, h2, h3, h4, h5, h6, h7, h8⟩ := h
  obtain ⟨A, c, e, _⟩ := own_shape h2.row
  exact ⟨A, c, e, h8⟩
theorem SnQ.left (h : SnQ W w gx gy k N tv s1 s2) (m : Nat) : Calls Try.prog 20 #[.pointer (some ⟨gx, 0, none⟩)] (w.drewN m) fun e w' => e = .returned (.int .i64 (s1.queue.length : Int)) ∧ w.drewN m = w' := by
  obtain ⟨Fx, Fy, dn, vals, ls, h1, _⟩ := h
  exact sLeft_any (h1.ps.below (bel_drewN (Below.refl _ _) m))
theorem SnQ.cells (h : SnQ W w gx gy k N tv s1 s2) : ∃ A c, w.cell? ⟨gy, 3, none⟩ = some (.int .i64 (s2.came : Int)) ∧ w.cell? ⟨gy, 5, none⟩ = some (.slice A (s2.came + s2.queue.length) c) ∧ s2.came + s2.queue.length ≤ k := by
  obtain ⟨Fx, Fy, dn, vals, ls, h1, h2, h3, h4, h5, h6, h7, h8⟩ := h
  obtain ⟨A, c, _, _, _, _, _, c3, _, c5⟩ := h1.pr.cells
  exact ⟨A, c, c3, c5, h7⟩
end

/-- The same, and a block with a segment that was handed in. -/
def SnH (W w : World) (gx gy k N : Nat) (tv : Value) (s1 s2 : Sd) (q : Nat) (cs : Array Value) : Prop := ∃ Fx Fy dn vals ls, Ts W w Fx Fy gx gy s1 s2 dn ∧ Tld W w (Un Fx Fy) tv N vals ls ∧ (vals.length = N ∧ s1.tick ≤ k ∧ s1.came + s1.queue.length ≤ k ∧ s2.tick ≤ k ∧ s2.came + s2.queue.length ≤ k ∧ N ≤ 64 * k) ∧ Bk w q 36 cs ∧ ¬ Un Fx Fy q
section
variable {W w w' : World} {gx gy k N : Nat} {tv : Value} {s1 s2 : Sd} {q : Nat} {cs : Array Value}
theorem SnH.start (h : SnQ W w gx gy k N tv s1 s2) (hw : w' = w.alloc (.cells cs 36)) : SnH W w' gx gy k N tv s1 s2 w.heap.size cs := by
  subst hw
  obtain ⟨Fx, Fy, dn, vals, ls, h1, h2, h3⟩ := h
  have hb : Below w.heap.size w (w.alloc (.cells cs 36)) := (Below.refl _ _).alloc (Nat.le_refl _) _
  exact ⟨Fx, Fy, dn, vals, ls, h1.mvb hb, h2.below hb, h3, Bk.new w _ cs, fun hf => by have := h1.lt _ hf; omega⟩
theorem SnH.drop (h : SnH W w gx gy k N tv s1 s2 q cs) : SnQ W w gx gy k N tv s1 s2 := by
  obtain ⟨Fx, Fy, dn, vals, ls, h1, h2, h3, _⟩ := h
  exact ⟨Fx, Fy, dn, vals, ls, h1, h2, h3⟩
theorem SnH.below (h : SnH W w gx gy k N tv s1 s2 q cs) (hb : Below w.heap.size w w') : SnH W w' gx gy k N tv s1 s2 q cs := by
  obtain ⟨Fx, Fy, dn, vals, ls, h1, h2, h3, h4, h5⟩ := h
  exact ⟨Fx, Fy, dn, vals, ls, h1.mvb hb, h2.below hb, h3, h4.below hb h4.lt, h5⟩
theorem SnH.bk (h : SnH W w gx gy k N tv s1 s2 q cs) : Bk w q 36 cs := by
  obtain ⟨Fx, Fy, dn, vals, ls, h1, h2, h3, h4, h5⟩ := h
  exact h4
theorem SnH.bel (h : SnH W w gx gy k N tv s1 s2 q cs) : Below W.heap.size W w := h.drop.bel
theorem SnH.xhear (h : SnH W w gx gy k N tv s1 s2 q cs) (m : Sg) (hm : m.Ok) (A : Option Addr) (n c : Nat) (hl : m.body.length = n) :
    Calls Try.prog 18 #[.pointer (some ⟨gx, 0, none⟩), sgV m (.slice A n c)] w fun e w' => e = .returned (.int .i64 (s1.hear m).1) ∧ SnH W w' gx gy k N tv (s1.hear m).2 s2 q cs := by
  obtain ⟨Fx, Fy, dn, vals, ls, h1, h2, ⟨h3, h4, h5, h6, h7, h8⟩, h9, h10⟩ := h
  refine (h1.xhear m hm A n c hl).mono ?_
  rintro e w' ⟨rfl, Fx', t, mv⟩
  have := s1.hear_to m
  refine ⟨rfl, Fx', Fy, dn, vals, ls, t, h2.mv mv, ⟨h3, by omega, by omega, h6, h7, h8⟩, h9.kp mv.kp h10, fun hf => ?_⟩
  rcases mv.new q hf with h' | h'
  · exact h10 h'
  · have := h9.lt; omega
theorem SnH.yhear (h : SnH W w gx gy k N tv s1 s2 q cs) (m : Sg) (hm : m.Ok) (A : Option Addr) (n c : Nat) (hl : m.body.length = n) :
    Calls Try.prog 19 #[.pointer (some ⟨gy, 0, none⟩), sgV m (.slice A n c)] w fun e w' => e = .returned (.int .i64 (s2.hear m).1) ∧ SnQ W w' gx gy k N tv s1 (s2.hear m).2 := by
  obtain ⟨Fx, Fy, dn, vals, ls, h1, h2, ⟨h3, h4, h5, h6, h7, h8⟩, h9, h10⟩ := h
  refine (h1.yhear m hm A n c hl).mono ?_
  rintro e w' ⟨rfl, Fy', dn', t, mv⟩
  have := s2.hear_to m
  exact ⟨rfl, Fx, Fy', dn', vals, ls, t, h2.mv mv, h3, h4, h5, by omega, by omega, h8⟩
end

/-- The same, and a slice is lent. -/
def SnL (W w : World) (gx gy k N : Nat) (tv : Value) (s1 s2 : Sd) (q : Nat) (cs : Array Value) (g cap n : Nat) (l : List UInt8) : Prop := ∃ Fx Fy dn vals ls, Ts W w Fx Fy gx gy s1 s2 dn ∧ Tld W w (Un Fx Fy) tv N vals ls ∧ (vals.length = N ∧ s1.tick ≤ k ∧ s1.came + s1.queue.length ≤ k ∧ s2.tick ≤ k ∧ s2.came + s2.queue.length ≤ k ∧ N ≤ 64 * k) ∧
  w.ownsRow W.heap.size 5 1 (.slice (some ⟨g, 0, none⟩) (n + 2) cap) (n + 2) (u8s (l ++ [91, 92])) ∧ l.length = n ∧ ¬ Un Fx Fy g ∧ tv.ownBlock ≠ some g ∧ (∀ v ∈ vals, v.ownBlock ≠ some g) ∧ Bk w q 36 cs ∧ ¬ Un Fx Fy q
section
variable {W w w' : World} {gx gy k N : Nat} {tv : Value} {s1 s2 : Sd} {q : Nat} {cs : Array Value} {g cap n : Nat} {l : List UInt8}
theorem SnL.start (h : SnH W w gx gy k N tv s1 s2 q cs) (hb : Below w.heap.size w w') (ho : w'.ownsRow w.heap.size 5 1 (.slice (some ⟨g, 0, none⟩) (n + 2) cap) (n + 2) (u8s (l ++ [91, 92]))) (hl : l.length = n) : SnL W w' gx gy k N tv s1 s2 q cs g cap n l := by
  obtain ⟨Fx, Fy, dn, vals, ls, h1, h2, h3, h4, h5⟩ := h
  have hg := (ho.lt g rfl).1
  refine ⟨Fx, Fy, dn, vals, ls, h1.mvb hb, h2.below hb, h3, own_mono ho h1.below.size, hl, fun hf => ?_, fun e => ?_, fun v hv e => ?_, h4.below hb h4.lt, h5⟩
  · have := h1.lt g hf; omega
  · have := (h2.row.lt g e).2; omega
  · have := h2.lt v hv g e; omega
theorem lent_rd {base : Nat} (ho : w.ownsRow base 5 1 (.slice (some ⟨g, 0, none⟩) (n + 2) cap) (n + 2) (u8s (l ++ [91, 92]))) (hl : l.length = n) : Rd w w.heap.size (some ⟨g, 0, none⟩) n l := by
  have hlt : g < w.heap.size := (ho.lt g rfl).2
  refine ⟨hl, fun _ => ⟨g, 0, rfl, hlt, fun j hj => ?_⟩⟩
  rw [Nat.zero_add, ho.cellAt j (by omega), u8s_at _ _ (by simp; omega)]
  simp [List.getElem_append_left hj]
theorem SnL.xpush (h : SnL W w gx gy k N tv s1 s2 q cs g cap n l) (hk : k ≤ 100000) (c : Nat) :
    Calls Try.prog 11 #[.pointer (some ⟨gx, 0, none⟩), .slice (some ⟨g, 0, none⟩) n c] w fun e w' => e = .returned (.int .i64 (s1.push l).1) ∧ SnL W w' gx gy (k + 1) N tv (s1.push l).2 s2 q cs g cap n l := by
  obtain ⟨Fx, Fy, dn, vals, ls, h1, h2, ⟨h3, h4, h5, h6, h7, h8⟩, h9, h10, h11, h12, h13, h14, h15⟩ := h
  refine (h1.xpush _ n c l (lent_rd h9 h10) (by omega)).mono ?_
  rintro e w' ⟨rfl, Fx', t, mv⟩
  have := s1.push_to l
  refine ⟨rfl, Fx', Fy, dn, vals, ls, t, h2.mv mv, ⟨h3, by omega, by omega, by omega, by omega, by omega⟩, own_kp h9 mv.kp (fun j e => ?_), h10, fun hf => ?_, h12, h13, h14.kp mv.kp h15, fun hf => ?_⟩
  · injection e with e
    subst e
    exact h11
  · rcases mv.new g hf with h' | h'
    · exact h11 h'
    · have := (h9.lt g rfl).2; omega
  · rcases mv.new q hf with h' | h'
    · exact h15 h'
    · have := h14.lt; omega
theorem SnL.ypush (h : SnL W w gx gy k N tv s1 s2 q cs g cap n l) (hk : k ≤ 100000) (A : Option Addr) (c : Nat) (hr : Rd w w.heap.size A n l) :
    Calls Try.prog 12 #[.pointer (some ⟨gy, 0, none⟩), .slice A n c] w fun e w' => e = .returned (.int .i64 (s2.push l).1) ∧ SnL W w' gx gy (k + 1) N tv s1 (s2.push l).2 q cs g cap n l := by
  obtain ⟨Fx, Fy, dn, vals, ls, h1, h2, ⟨h3, h4, h5, h6, h7, h8⟩, h9, h10, h11, h12, h13, h14, h15⟩ := h
  refine (h1.ypush A n c l hr (by omega)).mono ?_
  rintro e w' ⟨rfl, Fy', t, mv⟩
  have := s2.push_to l
  refine ⟨rfl, Fx, Fy', dn, vals, ls, t, h2.mv mv, ⟨h3, by omega, by omega, by omega, by omega, by omega⟩, own_kp h9 mv.kp (fun j e => ?_), h10, fun hf => ?_, h12, h13, h14.kp mv.kp h15, fun hf => ?_⟩
  · injection e with e
    subst e
    exact h11
  · rcases mv.new g hf with h' | h'
    · exact h11 h'
    · have := (h9.lt g rfl).2; omega
  · rcases mv.new q hf with h' | h'
    · exact h15 h'
    · have := h14.lt; omega
theorem SnL.whole (h : SnL W w gx gy k N tv s1 s2 q cs g cap n l) (hn : n ≤ 3000) (A : Option Addr) (c : Nat) (hr : Rd w w.heap.size A n l) :
    Calls Try.prog 13 #[.slice (some ⟨g, 0, none⟩) n cap, .slice A n c] w fun e w' => e = .returned (.bool true) ∧ w = w' := by
  obtain ⟨Fx, Fy, dn, vals, ls, h1, h2, h3, h9, h10, h11, h12, h13, h14, h15⟩ := h
  exact whole_any g cap _ n c w.heap.size A l w (by omega) h9 hr
theorem SnL.bk (h : SnL W w gx gy k N tv s1 s2 q cs g cap n l) : Bk w q 36 cs := by
  obtain ⟨Fx, Fy, dn, vals, ls, h1, h2, h3, h9, h10, h11, h12, h13, h14, h15⟩ := h
  exact h14
theorem SnL.bel (h : SnL W w gx gy k N tv s1 s2 q cs g cap n l) : Below W.heap.size W w := by
  obtain ⟨Fx, Fy, dn, vals, ls, h1, _⟩ := h
  exact h1.below
theorem SnL.spoil (h : SnL W w gx gy k N tv s1 s2 q cs g cap n l) (hn : n ≤ 3000) :
    Calls Try.prog 14 #[.slice (some ⟨g, 0, none⟩) n cap] w fun e w' => e = .returned (.tuple #[]) ∧ SnQ W w' gx gy k N tv s1 s2 := by
  obtain ⟨Fx, Fy, dn, vals, ls, h1, h2, h3, h9, h10, h11, h12, h13, h14, h15⟩ := h
  have ho : w.ownsRow W.heap.size 5 1 (.slice (some ⟨g, 0, none⟩) n cap) n (u8s l) := by
    have hp := h9.2
    refine ⟨by rw [u8s_len, h10, Nat.mul_one], ?_⟩
    rcases hp with ⟨e, _⟩ | ⟨g', cap', cur, e, q1, q2, q3, q4, q5, q6⟩
    · cases e
    · injection e with e1 e2 e3
      injection e1 with e1
      injection e1 with e1 _ _
      subst e1 e3
      refine .inr ⟨g, cap, cur, rfl, q1, q2, by omega, q4, q5, ?_⟩
      have := congrArg (List.take n) q6
      rw [List.take_take, Nat.mul_one, Nat.min_eq_left (by omega)] at this
      rw [Nat.mul_one, this, u8s_append, List.take_append_of_le_length (by rw [u8s_len]; omega), List.take_of_length_le (by rw [u8s_len]; omega)]
  refine (spoil_any g n cap W.heap.size l w (by omega) ho).mono ?_
  rintro e w' ⟨rfl, hg⟩
  have hk : Kp (fun j => j = g) w w' := Kp.of_grown hg rfl
  have hge := (h9.lt g rfl).1
  exact ⟨rfl, Fx, Fy, dn, vals, ls, h1.kp hk (fun j e e2 => h11 (e2 ▸ e)) (fun j e => by rw [e]; exact hge), h2.kp hk (fun j e e2 => h12 (e2 ▸ e)) (fun v hv j e e2 => h13 v hv (e2 ▸ e)), h3⟩
end

/-- Behind a tick: the row of its segments, of which j bodies are told. -/
def SnT (W w : World) (gx gy k N : Nat) (tv : Value) (s1 s2 : Sd) (av : Value) (es : List Sge) (j : Nat) : Prop := ∃ Fx Fy dn v0 ls base, Ts W w Fx Fy gx gy s1 s2 dn ∧ Tld W w (Un Fx Fy) tv (N + j) (v0 ++ es.map (·.2)) ls ∧ v0.length = N ∧ (s1.tick ≤ k ∧ s1.came + s1.queue.length ≤ k ∧ s2.tick ≤ k ∧ s2.came + s2.queue.length ≤ k ∧ N + es.length ≤ 64 * k) ∧ SgR w base (Un Fx Fy) av es ∧ j ≤ es.length
section
variable {W w w' : World} {gx gy k N j : Nat} {tv tv' av : Value} {s1 s2 : Sd} {es : List Sge}
theorem SnQ.xtick (h : SnQ W w gx gy k N tv s1 s2) (hk : k ≤ 100000) : Calls Try.prog 15 #[.pointer (some ⟨gx, 0, none⟩)] w fun e w' => ∃ A c es, e = .returned (.slice A s1.out.length c) ∧ es.map (·.1) = s1.out ∧ SnT W w' gx gy (k + 1) N tv s1.tickS s2 (.slice A s1.out.length c) es 0 := by
  obtain ⟨Fx, Fy, dn, vals, ls, h1, h2, h3, h4, h5, h6, h7, h8⟩ := h
  refine (h1.xtick (by omega)).mono ?_
  rintro e w' ⟨A, c, es, rfl, e1, r1, r2, t, mv⟩
  have hok := h1.ps.ok.out_small
  have hlen : es.length = s1.out.length := by rw [← e1]; simp
  have hto := s1.tickS_to
  refine ⟨A, c, es, rfl, e1, Fx, Fy, dn, vals, ls ++ es.map (·.1.body), w.heap.size, t, h2.more mv r2 h1.below.size h1.lt (fun _ h => h) (fun e he => hok.1 _ (by rw [← e1]; exact List.mem_map_of_mem he)), h3, ⟨by omega, by omega, by omega, by omega, by omega⟩, r1, Nat.zero_le _⟩
theorem SnT.ytick (h : SnT W w gx gy k N tv s1 s2 av es j) (hk : k ≤ 100000) : Calls Try.prog 16 #[.pointer (some ⟨gy, 0, none⟩)] w fun e w' => ∃ A c, e = .returned (.slice A s2.out.length c) ∧ SgRd w' A s2.out.length s2.out ∧ SnT W w' gx gy (k + 1) N tv s1 s2.tickS av es j := by
  obtain ⟨Fx, Fy, dn, v0, ls, base, h1, h2, h3, ⟨h4, h5, h6, h7, h8⟩, h9, h10⟩ := h
  refine (h1.ytick (by omega)).mono ?_
  rintro e w' ⟨A, c, rfl, r, t, mv⟩
  have hto := s2.tickS_to
  exact ⟨A, c, rfl, r, Fx, Fy, dn, v0, ls, base, t, h2.mv mv, h3, ⟨by omega, by omega, by omega, by omega, by omega⟩, h9.mv mv, h10⟩
theorem SnT.below (h : SnT W w gx gy k N tv s1 s2 av es j) (hb : Below w.heap.size w w') : SnT W w' gx gy k N tv s1 s2 av es j := by
  obtain ⟨Fx, Fy, dn, v0, ls, base, h1, h2, h3, h4, h9, h10⟩ := h
  exact ⟨Fx, Fy, dn, v0, ls, base, h1.mvb hb, h2.below hb, h3, h4, h9.mv (Mv.below7 hb), h10⟩
theorem SnT.rd {A : Option Addr} {n c : Nat} (h : SnT W w gx gy k N tv s1 s2 (.slice A n c) es j) : SgRd w A n (es.map (·.1)) := by
  obtain ⟨Fx, Fy, dn, v0, ls, base, h1, h2, h3, h4, h9, h10⟩ := h
  exact SgRd.of_own h9.own fun e he => (h9.each e he).1
theorem SnT.cell (h : SnT W w gx gy k N tv s1 s2 av es j) (i : Nat) (hi : i < es.length) : ∃ R c Ab cb, av = .slice (some ⟨R, 0, none⟩) es.length c ∧ es[i].2 = .slice Ab es[i].1.body.length cb ∧ w.cell? ⟨R, i * 4 + 3, none⟩ = some (.slice Ab es[i].1.body.length cb) := by
  obtain ⟨Fx, Fy, dn, v0, ls, base, h1, h2, h3, h4, h9, h10⟩ := h
  obtain ⟨R, c, e, _, _, _, x3⟩ := h9.cell i hi
  obtain ⟨Ab, cb, e2, _⟩ := h9.body es[i] (List.getElem_mem hi)
  rw [e2] at x3
  exact ⟨R, c, Ab, cb, e, e2, x3⟩
theorem SnT.bel (h : SnT W w gx gy k N tv s1 s2 av es j) : Below W.heap.size W w := by
  obtain ⟨Fx, Fy, dn, v0, ls, base, h1, _⟩ := h
  exact h1.below
/-- The row of what was told, and one body more. -/
theorem SnT.row (h : SnT W w gx gy k N tv s1 s2 av es j) : ∃ A c xs, tv = .slice A (N + j) c ∧ N + j ≤ 64 * k ∧ w.ownsRow W.heap.size 34 1 tv (N + j) xs ∧
    ∀ (hj : j < es.length) (w2 w3 : World) (tv' : Value), Below w.heap.size w w2 → App w2 w3 W.heap.size 34 1 tv tv' (N + j) 1 xs [es[j].2] → SnT W w3 gx gy k N tv' s1 s2 av es (j + 1) := by
  obtain ⟨Fx, Fy, dn, v0, ls, base, h1, h2, h3, ⟨h4, h5, h6, h7, h8⟩, h9, h10⟩ := h
  obtain ⟨A, c, e, _⟩ := own_shape h2.row
  refine ⟨A, c, _, e, by omega, h2.row, fun hj w2 w3 tv' hb ha => ?_⟩
  have t2 := h1.mvb hb
  have r2 := h2.below hb
  have g2 := h9.mv (Mv.below7 hb)
  have hn : (v0 ++ es.map (·.2))[N + j]? = some es[j].2 := by
    rw [List.getElem?_append_right (by omega), h3, Nat.add_sub_cancel_left, List.getElem?_map, List.getElem?_eq_getElem hj]
    rfl
  obtain ⟨q1, q2⟩ := r2.step hn t2.lt ha
  have hd : ∀ i, Un Fx Fy i → tv.ownBlock ≠ some i := fun i hi e2 => r2.off i e2 hi
  exact ⟨Fx, Fy, dn, v0, ls, base, t2.kp q2 hd (fun i e2 => (r2.row.lt i e2).1), q1, h3, ⟨h4, h5, h6, h7, h8⟩, g2.keepU r2.row (by decide) q2 (own_ne7 g2.own r2.row (by decide)), hj⟩
theorem SnT.done (h : SnT W w gx gy k N tv s1 s2 av es es.length) : SnQ W w gx gy k (N + es.length) tv s1 s2 := by
  obtain ⟨Fx, Fy, dn, v0, ls, base, h1, h2, h3, ⟨h4, h5, h6, h7, h8⟩, h9, h10⟩ := h
  exact ⟨Fx, Fy, dn, _, ls, h1, h2, by simp [h3], h4, h5, h6, h7, h8⟩
end

/-- At the end: nothing is asked of what was told. -/
def SnF (W w : World) (gx gy k : Nat) (s1 s2 : Sd) : Prop := ∃ Fx Fy dn, Ts W w Fx Fy gx gy s1 s2 dn ∧ s1.tick ≤ k ∧ s2.tick ≤ k
section
variable {W w w' : World} {gx gy k N : Nat} {tv : Value} {s1 s2 : Sd}
theorem SnQ.fin (h : SnQ W w gx gy k N tv s1 s2) : SnF W w gx gy k s1 s2 := by
  obtain ⟨Fx, Fy, dn, vals, ls, h1, h2, h3, h4, h5, h6, h7, h8⟩ := h
  exact ⟨Fx, Fy, dn, h1, h4, h6⟩
theorem SnF.below (h : SnF W w gx gy k s1 s2) (hb : Below w.heap.size w w') : SnF W w' gx gy k s1 s2 := by
  obtain ⟨Fx, Fy, dn, h1, h2⟩ := h
  exact ⟨Fx, Fy, dn, h1.mvb hb, h2⟩
theorem SnF.bel (h : SnF W w gx gy k s1 s2) : Below W.heap.size W w := by
  obtain ⟨Fx, Fy, dn, h1, h2⟩ := h
  exact h1.below
theorem SnQ.own {A : Option Addr} {c : Nat} (h : SnQ W w gx gy k N (.slice A N c) s1 s2) (hN : N ≤ 40) : Calls Try.prog 21 #[.slice A N c] w fun e w' => e = .returned (.bool true) ∧ SnF W w' gx gy k s1 s2 := by
  obtain ⟨Fx, Fy, dn, vals, ls, h1, h2, h3, h4, h5, h6, h7, h8⟩ := h
  refine (h2.own h3 hN).mono ?_
  rintro e w' ⟨rfl, hk⟩
  refine ⟨rfl, Fx, Fy, dn, h1.kp hk (fun i hi hv => ?_) (fun i hv => ?_), h4, h6⟩
  · obtain ⟨v, hv, e⟩ := hv
    exact h2.offs v hv i e hi
  · obtain ⟨v, hv, e⟩ := hv
    obtain ⟨q, hq, rfl⟩ := List.mem_iff_getElem.1 hv
    exact ((h2.fam.each q _ (List.getElem?_eq_getElem hq)).lt i e).1
theorem SnF.xtick (h : SnF W w gx gy k s1 s2) (hk : k ≤ 100000) : Calls Try.prog 15 #[.pointer (some ⟨gx, 0, none⟩)] w fun e w' => ∃ A c, e = .returned (.slice A s1.out.length c) ∧ ∃ Fx Fy dn base es, Ts W w' Fx Fy gx gy s1.tickS s2 dn ∧ s2.tick ≤ k ∧ SgR w' base (Un Fx Fy) (.slice A s1.out.length c) es ∧ es.map (·.1) = s1.out := by
  obtain ⟨Fx, Fy, dn, h1, h2, h3⟩ := h
  refine (h1.xtick (by omega)).mono ?_
  rintro e w' ⟨A, c, es, rfl, e1, r1, r2, t, mv⟩
  exact ⟨A, c, rfl, Fx, Fy, dn, _, es, t, h3, r1, e1⟩
theorem SnF.ytick {A : Option Addr} {c n : Nat} {L : List Sg} (h : ∃ Fx Fy dn base es, Ts W w Fx Fy gx gy s1 s2 dn ∧ s2.tick ≤ k ∧ SgR w base (Un Fx Fy) (.slice A n c) es ∧ es.map (·.1) = L) (hk : k ≤ 100000) : Calls Try.prog 16 #[.pointer (some ⟨gy, 0, none⟩)] w fun e w' => ∃ A' c', e = .returned (.slice A' s2.out.length c') ∧ SgRd w' A' s2.out.length s2.out ∧ SgRd w' A n L ∧ Below W.heap.size W w' := by
  obtain ⟨Fx, Fy, dn, base, es, h1, h2, h3, h4⟩ := h
  refine (h1.ytick (by omega)).mono ?_
  rintro e w' ⟨A', c', rfl, r, t, mv⟩
  have h5 := h3.mv mv
  refine ⟨A', c', rfl, r, ?_, t.below⟩
  rw [← h4]
  exact SgRd.of_own h5.own fun e he => (h5.each e he).1
end
/-- Both are new. -/
theorem snq_new {W w1 : World} {life window span : Nat} {gx : Nat} {Fx : Nat → Prop} (h0 : life < 18446744073709551616) (h1 : 1 ≤ window ∧ window ≤ 64) (h2 : 1 ≤ span ∧ span ≤ 1000) (hx : PS w1 Fx gx (Sd.new life window span)) (hx2 : ∀ k, Fx k → W.heap.size ≤ k) (hb1 : Below W.heap.size W w1) :
    SnQ W (w1.alloc (.cells (rsA (Sd.new life window span) (.slice none 0 0)) 32)) gx w1.heap.size 0 0 (.slice none 0 0) (Sd.new life window span) (Sd.new life window span) := by
  have hr := RS.new life window span w1 h0 h1 h2
  have hb : Below w1.heap.size w1 (w1.alloc (.cells (rsA (Sd.new life window span) (.slice none 0 0)) 32)) := (Below.refl _ _).alloc (Nat.le_refl _) _
  have hz := hb1.size
  refine ⟨Fx, _, [], [], [], ⟨hx.below hb, hr, fun k e e2 => ?_, fun k e => ?_, hb1.trans (hb.mono hz)⟩, Tld.nil _ _ _, rfl, Nat.le_refl _, Nat.le_refl _, Nat.le_refl _, Nat.le_refl _, Nat.le_refl _⟩
  · have := hx.lt k e; omega
  · rcases e with e | e
    · exact hx2 k e
    · omega
end Go.Proofs.Ytfdlhefbbhblnaa
