/- ProposeSafe: what the law keeps, in memory. -/
import Derived.Test.YthkkkldkpdkabaaProX
import Derived.Test.YthkkkldkpdkabaaProO
import Derived.Test.YthkkkldkpdkabaaSame
import Derived.Test.YthkkkldkpdkabaaProV2
namespace Go.Proofs.Ythkkkldkpdkabaa
open Go.RowKit Go.Maps

theorem Pp.promise_toldS (p : Pp) (x : Int) (l : List Vt) : (p.promise x l).2.told.length ≤ p.told.length + l.length := by
  unfold Pp.promise
  split
  · exact Nat.le_add_right _ _
  split
  · exact Nat.le_add_right _ _
  split
  · exact Nat.le_add_right _ _
  · exact Pp.hears_len x.toNat l _
theorem not_mvS {F F' : Nat → Prop} {w w' : World} (hm : Mv F F' w w') {b : Nat} (hb : b < w.heap.size) (hn : ¬ F b) : ¬ F' b := fun hf => by
  rcases hm.new b hf with h1 | h1
  · exact hn h1
  · omega
def updV {α : Type} (f : Nat → α) (n : Nat) (x : α) : Nat → α := fun i => if i = n then x else f i
/-- Twelve slices, twelve ballots. -/
def slA (f : Nat → Value) : Array Value := #[f 0, f 1, f 2, f 3, f 4, f 5, f 6, f 7, f 8, f 9, f 10, f 11]
def baA (f : Nat → Bl) : Array Value := #[.int .u64 ((f 0).n : Int), .int .i64 (f 0).node, .int .u64 ((f 1).n : Int), .int .i64 (f 1).node, .int .u64 ((f 2).n : Int), .int .i64 (f 2).node, .int .u64 ((f 3).n : Int), .int .i64 (f 3).node, .int .u64 ((f 4).n : Int), .int .i64 (f 4).node, .int .u64 ((f 5).n : Int), .int .i64 (f 5).node, .int .u64 ((f 6).n : Int), .int .i64 (f 6).node, .int .u64 ((f 7).n : Int), .int .i64 (f 7).node, .int .u64 ((f 8).n : Int), .int .i64 (f 8).node, .int .u64 ((f 9).n : Int), .int .i64 (f 9).node, .int .u64 ((f 10).n : Int), .int .i64 (f 10).node, .int .u64 ((f 11).n : Int), .int .i64 (f 11).node]
theorem twelve {i : Nat} (h : i < 12) : i = 0 ∨ i = 1 ∨ i = 2 ∨ i = 3 ∨ i = 4 ∨ i = 5 ∨ i = 6 ∨ i = 7 ∨ i = 8 ∨ i = 9 ∨ i = 10 ∨ i = 11 := by omega
theorem slA_at (f : Nat → Value) {i : Nat} (h : i < 12) : (slA f)[i]? = some (f i) := by
  rcases twelve h with rfl | rfl | rfl | rfl | rfl | rfl | rfl | rfl | rfl | rfl | rfl | rfl <;> rfl
theorem slA_set (f : Nat → Value) {i : Nat} (h : i < 12) (v : Value) : (slA f).setIfInBounds i v = slA (updV f i v) := by
  rcases twelve h with rfl | rfl | rfl | rfl | rfl | rfl | rfl | rfl | rfl | rfl | rfl | rfl <;> rfl
theorem baA_at (f : Nat → Bl) {i : Nat} (h : i < 12) : (baA f)[i * 2]? = some (.int .u64 ((f i).n : Int)) ∧ (baA f)[i * 2 + 1]? = some (.int .i64 (f i).node) := by
  rcases twelve h with rfl | rfl | rfl | rfl | rfl | rfl | rfl | rfl | rfl | rfl | rfl | rfl <;> exact ⟨rfl, rfl⟩
theorem baA_set (f : Nat → Bl) {i : Nat} (h : i < 12) (b : Bl) : ((baA f).setIfInBounds (i * 2) (.int .u64 (b.n : Int))).setIfInBounds (i * 2 + 1) (.int .i64 b.node) = baA (updV f i b) := by
  rcases twelve h with rfl | rfl | rfl | rfl | rfl | rfl | rfl | rfl | rfl | rfl | rfl | rfl <;> rfl
theorem atS_vote (x : Option (Bl × List UInt8)) : atS 1 (voteL x) = voteL x := by cases x <;> rfl
theorem gather_congr {vt : Vts} {P Q : Nat} : ∀ {k : Nat}, (∀ j, j < k → P.testBit j = Q.testBit j) → gather vt P k = gather vt Q k
  | 0, _ => rfl
  | k + 1, h => by
    unfold gather
    rw [gather_congr fun j hj => h j (by omega), h k (by omega)]
theorem bit_off {m k : Nat} (h : m < 2 ^ k) : m.testBit k = false := Nat.testBit_lt_two_pow h
theorem gather_on {vt : Vts} {P k : Nat} : gather vt (P ||| 2 ^ k) (k + 1) = gather vt P k ++ voteL (vt k) := by
  show gather vt (P ||| 2 ^ k) k ++ (if (P ||| 2 ^ k).testBit k then voteL (vt k) else []) = _
  have e : gather vt (P ||| 2 ^ k) k = gather vt P k := gather_congr fun j hj => by
    have : ¬ k = j := by omega
    rw [Nat.testBit_or, Nat.testBit_two_pow]
    simp [this]
  rw [e, if_pos (by rw [Nat.testBit_or, Nat.testBit_two_pow]; simp)]
theorem gather_off {vt : Vts} {P k : Nat} (h : P < 2 ^ k) : gather vt P (k + 1) = gather vt P k := by
  show gather vt P k ++ (if P.testBit k then voteL (vt k) else []) = _
  rw [bit_off h]
  simp
theorem or_bit_lt {m k : Nat} (h : m < 2 ^ k) : m ||| 2 ^ k < 2 ^ (k + 1) := Nat.or_lt_two_pow (Nat.lt_of_lt_of_le h (Nat.pow_le_pow_right (by decide) (by omega))) (Nat.pow_lt_pow_right (by decide) (by omega))
theorem lt_up {m k : Nat} (h : m < 2 ^ k) : m < 2 ^ (k + 1) := Nat.lt_of_lt_of_le h (Nat.pow_le_pow_right (by decide) (by omega))
theorem castV_on (vt : Vts) (a k : Nat) (b : Bl) (v : List UInt8) : castV vt (a ||| 2 ^ k) b v = updV (castV vt a b v) k (some (b, v)) := by
  funext i
  unfold castV updV
  rw [Nat.testBit_or, Nat.testBit_two_pow]
  by_cases h : i = k
  · subst h; simp
  · have : ¬ k = i := fun e => h e.symm
    simp [h, this]
theorem castV_zero (vt : Vts) (b : Bl) (v : List UInt8) : castV vt 0 b v = vt := by
  funext i
  unfold castV
  rw [Nat.zero_testBit]
  rfl
/-- A node's votes at hand. -/
def VtO (w : World) (G : Nat → Prop) (s : Value) (x : Option (Bl × List UInt8)) : Prop := ∃ A N c es, s = .slice A N c ∧ VsR w G A N c es ∧ es.map (fun e : Vtr => e.1) = voteL x
theorem VtO.kp {w w' : World} {F G : Nat → Prop} {s : Value} {x : Option (Bl × List UInt8)} (h : VtO w G s x) (hk : Kp F w w') (hd : ∀ k, G k → ¬ F k) : VtO w' G s x := by
  obtain ⟨A, N, c, es, e, hv, he⟩ := h
  exact ⟨A, N, c, es, e, hv.kp hk hd, he⟩
theorem VsR.mono_ {w : World} {G G' : Nat → Prop} {A : Option Addr} {n c : Nat} {es : List Vtr} (h : VsR w G A n c es) (hg : ∀ k, G k → G' k) : VsR w G' A n c es :=
  ⟨h.len, h.cap, fun hn => by
    obtain ⟨R, o, e, h1, hb, hc⟩ := h.row hn
    exact ⟨R, o, e, hg R h1, hb, hc⟩, fun e he => by obtain ⟨h1, h2, h3, h4⟩ := h.each e he; exact ⟨h1, h2, h3.mono hg, h4⟩⟩
theorem VtO.mono {w : World} {G G' : Nat → Prop} {s : Value} {x : Option (Bl × List UInt8)} (h : VtO w G s x) (hg : ∀ k, G k → G' k) : VtO w G' s x := by
  obtain ⟨A, N, c, es, e, hv, he⟩ := h
  exact ⟨A, N, c, es, e, hv.mono_ hg, he⟩
/-- The law's own: the votes, what was promised, what was chosen. -/
structure Sf (W1 w : World) (gv gp : Nat) (F G : Nat → Prop) (vt : Vts) (first : List UInt8) (fv : Value) : Prop where
  bel : Below W1.heap.size W1 w
  va : ∃ sl, Bk w gv 59 (slA sl) ∧ ∀ i, i < 12 → VtO w G (sl i) (vt i)
  pa : ∃ pr, Bk w gp 60 (baA pr)
  gev : W1.heap.size ≤ gv
  gep : W1.heap.size ≤ gp
  fgv : ¬ F gv
  fgp : ¬ F gp
  ggv : ¬ G gv
  ggp : ¬ G gp
  flt : ∀ k, F k → k < w.heap.size
  glt : ∀ k, G k → k < w.heap.size
  off : ∀ k, G k → ¬ F k
  fge : ∀ k, F k → W1.heap.size ≤ k
  fo : w.ownsRow 0 5 1 fv first.length (u8s first) ∧ ∀ k, fv.ownBlock = some k → G k
section
variable {W1 w w' : World} {gv gp : Nat} {F F' G : Nat → Prop} {vt : Vts} {first : List UInt8} {fv : Value}
/-- What only turns what is none of the law's own leaves it. -/
theorem Sf.keep (h : Sf W1 w gv gp F G vt first fv) (hk : Kp F w w') (hf : ∀ k, F' k → F k ∨ w.heap.size ≤ k) (hl : ∀ k, F' k → k < w'.heap.size) : Sf W1 w' gv gp F' G vt first fv := by
  obtain ⟨sl, hb, hs⟩ := h.va
  obtain ⟨pr, hp⟩ := h.pa
  refine ⟨h.bel.trans (hk.below h.fge h.bel.size), ⟨sl, hb.kp hk h.fgv, fun i hi => (hs i hi).kp hk h.off⟩, ⟨pr, hp.kp hk h.fgp⟩, h.gev, h.gep, fun hf2 => ?_, fun hf2 => ?_, h.ggv, h.ggp, hl, fun k hg => Nat.lt_of_lt_of_le (h.glt k hg) hk.size, fun k hg hf2 => ?_, fun k hf2 => ?_, own_kp h.fo.1 hk fun k e => h.off k (h.fo.2 k e), h.fo.2⟩
  · rcases hf _ hf2 with h1 | h1
    · exact h.fgv h1
    · have := hb.lt; omega
  · rcases hf _ hf2 with h1 | h1
    · exact h.fgp h1
    · have := hp.lt; omega
  · rcases hf _ hf2 with h1 | h1
    · exact h.off k hg h1
    · have := h.glt k hg; omega
  · rcases hf _ hf2 with h1 | h1
    · exact h.fge k h1
    · have := h.bel.size; omega
theorem Sf.below (h : Sf W1 w gv gp F G vt first fv) (hb : Below w.heap.size w w') : Sf W1 w' gv gp F G vt first fv := h.keep (Kp.of_below hb) (fun _ h => .inl h) fun k hk => Nat.lt_of_lt_of_le (h.flt k hk) hb.size
theorem Sf.mv (h : Sf W1 w gv gp F G vt first fv) (hm : Mv F F' w w') (hl : ∀ k, F' k → k < w'.heap.size) : Sf W1 w' gv gp F' G vt first fv := h.keep hm.kp hm.new hl
theorem Sf.done (h : Sf W1 w gv gp F G vt first fv) : Sf W1 w gv gp (fun _ => False) G vt first fv := h.keep (F' := fun _ => False) (Kp.refl F w) (fun _ h => h.elim) fun _ h => h.elim
/-- A ballot is promised. -/
theorem Sf.turn (h : Sf W1 w gv gp F G vt first fv) {n : Nat} (hn : n < 12) (b : Bl) {w2 : World} (hw : w2 = (w.setCell ⟨gp, n * 2, none⟩ (.int .u64 (b.n : Int))).setCell ⟨gp, n * 2 + 1, none⟩ (.int .i64 b.node)) :
    Sf W1 w2 gv gp F G vt first fv ∧ Kp (fun j => j = gp) w w2 := by
  subst hw
  obtain ⟨sl, hb, hs⟩ := h.va
  obtain ⟨pr, hp⟩ := h.pa
  have hk : Kp (fun j => j = gp) w ((w.setCell ⟨gp, n * 2, none⟩ (.int .u64 (b.n : Int))).setCell ⟨gp, n * 2 + 1, none⟩ (.int .i64 b.node)) := (Kp.set_ (F := fun j => j = gp) (p := ⟨gp, n * 2, none⟩) rfl _).trans (Kp.set_ (F := fun j => j = gp) (p := ⟨gp, n * 2 + 1, none⟩) rfl _)
  have hd : ∀ k, G k → ¬ k = gp := fun k hg e => h.ggp (by rw [← e]; exact hg)
  have hp2 := (hp.set_ (n * 2) (.int .u64 (b.n : Int))).set_ (n * 2 + 1) (.int .i64 b.node)
  rw [baA_set pr hn b] at hp2
  exact ⟨⟨h.bel.trans (hk.below (fun k e => by subst e; exact h.gep) h.bel.size), ⟨sl, hb.kp hk (bk_types hb hp (by decide)), fun i hi => (hs i hi).kp hk hd⟩, ⟨_, hp2⟩, h.gev, h.gep, h.fgv, h.fgp, h.ggv, h.ggp, fun k hf => Nat.lt_of_lt_of_le (h.flt k hf) hk.size, fun k hg => Nat.lt_of_lt_of_le (h.glt k hg) hk.size, h.off, h.fge,
    own_kp h.fo.1 hk fun k e => hd k (h.fo.2 k e), h.fo.2⟩, hk⟩
/-- A vote is cast. -/
theorem Sf.vote (h : Sf W1 w gv gp F G vt first fv) {n : Nat} (hn : n < 12) {b : Bl} (hb : b.Ok) {v : List UInt8} {A : Option Addr} {c : Nat} (hc : v.length ≤ c ∧ c ≤ 9223372036854775807) (hrd : RdG w G A v.length v) {w1 w2 : World}
    (hw1 : w1 = w.alloc (.cells #[.int .u64 1, .int .u64 (b.n : Int), .int .i64 b.node, .slice A v.length c] 48)) (hw : w2 = w1.setCell ⟨gv, n, none⟩ (.slice (some ⟨w.heap.size, 0, none⟩) 1 1)) :
    Sf W1 w2 gv gp F (fun k => G k ∨ k = w.heap.size) (updV vt n (some (b, v))) first fv ∧ Kp (fun j => j = gv) w w2 := by
  subst hw
  obtain ⟨sl, hb0, hs⟩ := h.va
  obtain ⟨pr, hp⟩ := h.pa
  have hbel : Below w.heap.size w w1 := by rw [hw1]; exact bel1P _
  have hbk : Bk w1 w.heap.size 48 #[.int .u64 1, .int .u64 (b.n : Int), .int .i64 b.node, .slice A v.length c] := by rw [hw1]; exact Bk.new w _ _
  have hkA : Kp (fun _ => False) w w1 := Kp.of_below hbel
  have hkS : Kp (fun j => j = gv) w1 (w1.setCell ⟨gv, n, none⟩ (.slice (some ⟨w.heap.size, 0, none⟩) 1 1)) := Kp.set_ (F := fun j => j = gv) (p := ⟨gv, n, none⟩) rfl _
  have hk : Kp (fun j => j = gv) w (w1.setCell ⟨gv, n, none⟩ (.slice (some ⟨w.heap.size, 0, none⟩) 1 1)) := (hkA.mono fun _ h => h.elim).trans hkS
  have hd : ∀ k, G k → ¬ k = gv := fun k hg e => h.ggv (by rw [← e]; exact hg)
  have hb1 := hb0.kp hkA (fun h => h)
  have hb2 := hb1.set_ n (.slice (some ⟨w.heap.size, 0, none⟩) 1 1)
  rw [slA_set sl hn] at hb2
  have hlt := hb0.lt
  have hltp := hp.lt
  have hbk2 : Bk (w1.setCell ⟨gv, n, none⟩ (.slice (some ⟨w.heap.size, 0, none⟩) 1 1)) w.heap.size 48 #[.int .u64 1, .int .u64 (b.n : Int), .int .i64 b.node, .slice A v.length c] := hbk.kp hkS (by omega)
  have hsz := hk.size
  refine ⟨⟨h.bel.trans (hk.below (fun k e => by subst e; exact h.gev) h.bel.size), ⟨_, hb2, fun i hi => ?_⟩, ⟨pr, hp.kp hk (bk_types hp hb0 (by decide))⟩, h.gev, h.gep, h.fgv, h.fgp, fun hg => ?_, fun hg => ?_, fun k hf => Nat.lt_of_lt_of_le (h.flt k hf) hk.size, fun k hg => ?_, fun k hg hf => ?_, h.fge,
    own_kp h.fo.1 hk fun k e => hd k (h.fo.2 k e), fun k e => .inl (h.fo.2 k e)⟩, hk⟩
  · unfold updV
    by_cases e : i = n
    · rw [if_pos e, if_pos e]
      refine ⟨_, 1, 1, [(⟨1, b, v⟩, (A, v.length, c))], rfl, ⟨rfl, ⟨Nat.le_refl _, by decide⟩, fun _ => ⟨w.heap.size, 0, rfl, .inr rfl, hbk2.lt, fun j hj => ?_⟩, fun x hx => ?_⟩, rfl⟩
      · have : j = 0 := by simp at hj; omega
        subst this
        exact ⟨hbk2.cell 0, hbk2.cell 1, hbk2.cell 2, hbk2.cell 3⟩
      · rw [List.mem_singleton] at hx
        subst hx
        exact ⟨hc.1, hc.2, (hrd.kp hk hd).mono fun _ => .inl, (⟨(by decide : (1 : Nat) < 18446744073709551616), hb.n⟩ : (⟨1, b, v⟩ : Vt).Num), hb⟩
    · rw [if_neg e, if_neg e]
      exact ((hs i hi).kp hk hd).mono fun _ => .inl
  · rcases hg with hg | hg
    · exact h.ggv hg
    · omega
  · rcases hg with hg | hg
    · exact h.ggp hg
    · omega
  · rcases hg with hg | hg
    · exact Nat.lt_of_lt_of_le (h.glt k hg) hsz
    · have := hbk2.lt; omega
  · rcases hg with hg | hg
    · exact h.off k hg hf
    · have := h.flt k hf; omega
/-- Something was chosen, or made: its block is the law's. -/
theorem Sf.first_ (h : Sf W1 w gv gp F G vt first fv) {v : List UInt8} {A : Option Addr} {c B : Nat} (ho : w.ownsRow B 5 1 (.slice A v.length c) v.length (u8s v)) (hF : ∀ k, (Value.slice A v.length c).ownBlock = some k → ¬ F k) :
    Sf W1 w gv gp F (fun k => G k ∨ (Value.slice A v.length c).ownBlock = some k) vt v (.slice A v.length c) := by
  obtain ⟨sl, hb0, hs⟩ := h.va
  obtain ⟨pr, hp⟩ := h.pa
  refine ⟨h.bel, ⟨sl, hb0, fun i hi => (hs i hi).mono fun _ => .inl⟩, ⟨pr, hp⟩, h.gev, h.gep, h.fgv, h.fgp, fun hg => ?_, fun hg => ?_, h.flt, fun k hg => ?_, fun k hg => ?_, h.fge, own_mono ho (Nat.zero_le _), fun k e => .inr e⟩
  · rcases hg with hg | hg
    · exact h.ggv hg
    · exact bk_off hb0 ho (by decide) _ hg rfl
  · rcases hg with hg | hg
    · exact h.ggp hg
    · exact bk_off hp ho (by decide) _ hg rfl
  · rcases hg with hg | hg
    · exact h.glt k hg
    · exact (ho.lt k hg).2
  · rcases hg with hg | hg
    · exact h.off k hg
    · exact hF k hg
/-- .. and what was chosen before stays. -/
theorem Sf.more (h : Sf W1 w gv gp F G vt first fv) {v : List UInt8} {A : Option Addr} {c B : Nat} (ho : w.ownsRow B 5 1 (.slice A v.length c) v.length (u8s v)) (hF : ∀ k, (Value.slice A v.length c).ownBlock = some k → ¬ F k) :
    Sf W1 w gv gp F (fun k => G k ∨ (Value.slice A v.length c).ownBlock = some k) vt first fv := by
  have h2 := h.first_ ho hF
  exact ⟨h2.bel, h2.va, h2.pa, h2.gev, h2.gep, h2.fgv, h2.fgp, h2.ggv, h2.ggp, h2.flt, h2.glt, h2.off, h2.fge, h.fo.1, fun k e => .inl (h.fo.2 k e)⟩
end
end Go.Proofs.Ythkkkldkpdkabaa
