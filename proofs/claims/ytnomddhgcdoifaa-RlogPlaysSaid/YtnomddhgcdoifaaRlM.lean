/- Layer 12 in memory: a row of entries; the program's log. -/
import Derived.Test.YtnomddhgcdoifaaRlP
import Derived.Test.YtnomddhgcdoifaaProg
import Derived.Test.YtnomddhgcdoifaaOwnP
import Derived.WalkKit
namespace Go.Proofs.Ytnomddhgcdoifaa
open Go.RowKit

abbrev Sl3 := Option Addr × Nat × Nat
def s3W (s : Sl3) : Value := .slice s.1 s.2.1 s.2.2
abbrev Ene := En × Sl3
def enV (e : En) (s : Sl3) : Value := .agg #[.int .u64 (e.slot : Int), s3W s]
def enE (e : Ene) : List Value := [.int .u64 (e.1.slot : Int), s3W e.2]
def enC (es : List Ene) : List Value := es.flatMap enE
theorem enC_len (es : List Ene) : (enC es).length = es.length * 2 := flat_len es fun _ _ => rfl
theorem enC_app (a b : List Ene) : enC (a ++ b) = enC a ++ enC b := by unfold enC; rw [List.flatMap_append]
theorem enC_at (es : List Ene) (i j : Nat) (hi : i < es.length) (hj : j < 2) : (enC es)[i * 2 + j]? = (enE es[i])[j]? := flat_at (s := 2) es (fun _ _ => rfl) i j hi hj
theorem enC_take (es : List Ene) (k : Nat) : (enC es).take (k * 2) = enC (es.take k) := flat_take (s := 2) es (fun _ _ => rfl) k
theorem enC_drop (es : List Ene) (k : Nat) : (enC es).drop (k * 2) = enC (es.drop k) := flat_drop (s := 2) es (fun _ _ => rfl) k
theorem enC_one (es : List Ene) : ∀ u ∈ enC es, u.oneCell' = true := by
  intro u hu
  unfold enC at hu
  obtain ⟨e, _, hu⟩ := List.mem_flatMap.1 hu
  simp only [enE, List.mem_cons, List.not_mem_nil, or_false] at hu
  rcases hu with rfl | rfl <;> rfl
theorem Try.infoEntry : (Try.prog.info? 45).map (fun i => (i.zero, i.size, i.bytes)) = some (some (.agg #[.int .u64 0, .slice none 0 0]), 2, 32) := by kernel_rfl

/-- As Rd, in blocks of G. -/
def RdF (w : World) (G : Nat → Prop) (s : Sl3) (l : List UInt8) : Prop :=
  s.2.1 ≤ s.2.2 ∧ s.2.2 ≤ maxLen ∧ l.length = s.2.1 ∧ (0 < s.2.1 → ∃ b o, s.1 = some ⟨b, o, none⟩ ∧ G b ∧ b < w.heap.size ∧ ∀ j (h : j < l.length), w.cell? ⟨b, o + j, none⟩ = some (.int .u8 (l[j].toNat : Int)))
section
variable {w w' : World} {F G G' : Nat → Prop} {s : Sl3} {l : List UInt8}
theorem RdF.rd (h : RdF w G s l) : Rd w w.heap.size s.1 s.2.1 l := ⟨h.2.2.1, fun hn => by obtain ⟨b, o, e, _, hb, hc⟩ := h.2.2.2 hn; exact ⟨b, o, e, hb, hc⟩⟩
theorem RdF.kp (h : RdF w G s l) (hk : Kp F w w') (hd : ∀ k, G k → ¬ F k) : RdF w' G s l :=
  ⟨h.1, h.2.1, h.2.2.1, fun hn => by
    obtain ⟨b, o, e, hg, hb, hc⟩ := h.2.2.2 hn
    exact ⟨b, o, e, hg, Nat.lt_of_lt_of_le hb hk.size, fun j hj => cell_kp (p := ⟨b, o + j, none⟩) (hc j hj) hk (hd b hg)⟩⟩
theorem RdF.below (h : RdF w G s l) (hb : Below w.heap.size w w') : RdF w' G s l := h.kp (F := fun _ => False) (Kp.of_below hb) fun _ _ h => h
theorem RdF.mono (h : RdF w G s l) (hg : ∀ k, G k → G' k) : RdF w G' s l := ⟨h.1, h.2.1, h.2.2.1, fun hn => by obtain ⟨b, o, e, h1, hb, hc⟩ := h.2.2.2 hn; exact ⟨b, o, e, hg b h1, hb, hc⟩⟩
theorem RdF.len (h : RdF w G s l) : l.length = s.2.1 := h.2.2.1
theorem RdF.nil (w : World) (G : Nat → Prop) (A : Option Addr) (c : Nat) (hc : c ≤ maxLen) : RdF w G (A, 0, c) [] := ⟨Nat.zero_le _, hc, rfl, fun h => (Nat.lt_irrefl 0 h).elim⟩
theorem RdF.of_own {base : Nat} (h : w.ownsRow base 5 1 (s3W s) l.length (u8s l)) : RdF w (fun k => (s3W s).ownBlock = some k) s l := by
  have hl := h.1
  rcases h.2 with ⟨h', h0⟩ | ⟨g, cap, cur, hv, _, hh, hnc, hcm, _⟩
  · obtain ⟨A, n, c⟩ := s
    injection h' with h1 h2 h3
    subst h1 h2 h3
    exact ⟨Nat.le_refl _, by decide, h0, fun h => (Nat.lt_irrefl 0 h).elim⟩
  · obtain ⟨A, n, c⟩ := s
    injection hv with h1 h2 h3
    subst h1 h2 h3
    refine ⟨hnc, hcm, rfl, fun _ => ⟨g, 0, rfl, rfl, (Array.getElem?_eq_some_iff.1 hh).1, fun j hj => ?_⟩⟩
    have := h.cells (g := g) rfl j _ (u8s_at l j hj)
    rwa [Addr.add_lit] at this
end

structure EnRow (w : World) (F : Nat → Prop) (v : Value) (es : List Ene) : Prop where
  own : w.ownsRow 0 45 2 v es.length (enC es)
  each : ∀ e ∈ es, w.ownsRow 0 5 1 (s3W e.2) e.1.val.length (u8s e.1.val)
  foot : ∀ k, v.ownBlock = some k → F k
  bods : ∀ e ∈ es, ∀ k, (s3W e.2).ownBlock = some k → F k
/-- A slice reads as these entries, in blocks of F. -/
structure EnsR (w : World) (F : Nat → Prop) (A : Option Addr) (n c : Nat) (es : List Ene) : Prop where
  len : es.length = n
  cap : n ≤ c ∧ c ≤ maxLen
  row : 0 < n → ∃ R o, A = some ⟨R, o, none⟩ ∧ F R ∧ R < w.heap.size ∧ ∀ i (hi : i < es.length), w.cell? ⟨R, o + i * 2, none⟩ = some (.int .u64 (es[i].1.slot : Int)) ∧ w.cell? ⟨R, o + i * 2 + 1, none⟩ = some (s3W es[i].2)
  each : ∀ e ∈ es, RdF w F e.2 e.1.val
section
variable {w w' : World} {F G : Nat → Prop} {v : Value} {es : List Ene} {A : Option Addr} {n c : Nat}
theorem EnRow.kp (h : EnRow w F v es) (hk : Kp G w w') (hd : ∀ k, F k → ¬ G k) : EnRow w' F v es :=
  ⟨own_kp h.own hk fun k e => hd k (h.foot k e), fun e he => own_kp (h.each e he) hk fun k e2 => hd k (h.bods e he k e2), h.foot, h.bods⟩
theorem EnRow.below (h : EnRow w F v es) (hb : Below w.heap.size w w') : EnRow w' F v es := h.kp (G := fun _ => False) (Kp.of_below hb) fun _ _ h => h
theorem EnRow.mono (h : EnRow w F v es) (hf : ∀ k, F k → G k) : EnRow w G v es := ⟨h.own, h.each, fun k e => hf k (h.foot k e), fun e he k e2 => hf k (h.bods e he k e2)⟩
theorem EnRow.nil (w : World) (F : Nat → Prop) : EnRow w F (.slice none 0 0) [] := ⟨World.ownsRow_nil _ _ _ _, fun _ he => (List.not_mem_nil he).elim, (fun k e => by cases e), fun _ he => (List.not_mem_nil he).elim⟩
theorem EnRow.shape (h : EnRow w F v es) : ∃ A c, v = .slice A es.length c ∧ es.length ≤ c ∧ c ≤ maxLen := own_shape h.own
theorem EnRow.lt (h : EnRow w F v es) : ∀ k, v.ownBlock = some k → k < w.heap.size := fun k e => (h.own.lt k e).2
theorem EnRow.cell (h : EnRow w F v es) (i : Nat) (hi : i < es.length) : ∃ R c, v = .slice (some ⟨R, 0, none⟩) es.length c ∧ es.length ≤ c ∧ c ≤ maxLen ∧ R < w.heap.size ∧ w.cell? ⟨R, i * 2, none⟩ = some (.int .u64 (es[i].1.slot : Int)) ∧ w.cell? ⟨R, i * 2 + 1, none⟩ = some (s3W es[i].2) := by
  rcases h.own.2 with ⟨_, h0⟩ | ⟨g, cap, cur, rfl, _, hh, h1, h2, _⟩
  · omega
  · have q := fun j (hj : j < 2) u (hu : (enE es[i])[j]? = some u) => h.own.cells (g := g) rfl (i * 2 + j) u (by rw [enC_at es i j hi hj]; exact hu)
    have q0 := q 0 (by omega) _ rfl
    have q1 := q 1 (by omega) _ rfl
    rw [Addr.add_lit, Nat.zero_add] at q0 q1
    exact ⟨g, cap, rfl, h1, h2, (Array.getElem?_eq_some_iff.1 hh).1, q0, q1⟩
theorem EnRow.body (h : EnRow w F v es) {e : Ene} (he : e ∈ es) : RdF w F e.2 e.1.val := (RdF.of_own (h.each e he)).mono fun k e2 => h.bods e he k e2
/-- A piece of a row, as it is read. -/
theorem EnRow.piece (h : EnRow w F (.slice A n c) es) (at_ k : Nat) (hk : at_ + k ≤ n) : EnsR w F (if c = at_ then A else A.map fun a => a.add (at_ * 2)) k (c - at_) ((es.drop at_).take k) := by
  obtain ⟨A', c', e, h1, h2⟩ := h.shape
  injection e with e1 e2 e3
  subst e1 e2 e3
  refine ⟨by rw [List.length_take, List.length_drop]; omega, ⟨by omega, by omega⟩, fun hk0 => ?_, fun e he => h.body ((List.drop_sublist _ _).subset ((List.take_sublist _ _).subset he))⟩
  obtain ⟨R, c2, e, _, _, hR, _⟩ := h.cell at_ (by omega)
  injection e with e1 _ _
  subst e1
  refine ⟨R, at_ * 2, ?_, h.foot R rfl, hR, fun i hi => ?_⟩
  · rw [if_neg (by omega)]
    simp [Addr.add_lit]
  · rw [List.length_take, List.length_drop] at hi
    obtain ⟨R', c2, e, _, _, _, q0, q1⟩ := h.cell (at_ + i) (by omega)
    injection e with e1 _ _
    injection e1 with e1
    injection e1 with e1
    subst e1
    rw [List.getElem_take, List.getElem_drop, show at_ * 2 + i * 2 = (at_ + i) * 2 by omega]
    exact ⟨q0, q1⟩
theorem EnsR.kp (h : EnsR w F A n c es) (hk : Kp G w w') (hd : ∀ k, F k → ¬ G k) : EnsR w' F A n c es :=
  ⟨h.len, h.cap, fun hn => by
    obtain ⟨R, o, e, hg, hb, hc⟩ := h.row hn
    refine ⟨R, o, e, hg, Nat.lt_of_lt_of_le hb hk.size, fun i hi => ?_⟩
    obtain ⟨c0, c1⟩ := hc i hi
    exact ⟨cell_kp c0 hk (hd R hg), cell_kp c1 hk (hd R hg)⟩, fun e he => (h.each e he).kp hk hd⟩
theorem EnsR.below (h : EnsR w F A n c es) (hb : Below w.heap.size w w') : EnsR w' F A n c es := h.kp (G := fun _ => False) (Kp.of_below hb) fun _ _ h => h
theorem EnsR.mono (h : EnsR w F A n c es) (hf : ∀ k, F k → G k) : EnsR w G A n c es :=
  ⟨h.len, h.cap, fun hn => by obtain ⟨R, o, e, hg, r⟩ := h.row hn; exact ⟨R, o, e, hf R hg, r⟩, fun e he => (h.each e he).mono hf⟩
theorem EnsR.nil (w : World) (F : Nat → Prop) (A : Option Addr) (c : Nat) (hc : c ≤ maxLen) : EnsR w F A 0 c [] := ⟨rfl, ⟨Nat.zero_le _, hc⟩, fun h => (Nat.lt_irrefl 0 h).elim, fun _ he => (List.not_mem_nil he).elim⟩
/-- All the cells, one behind the other. -/
theorem EnsR.cellsP (h : EnsR w F A n c es) : ∀ ad, A = some ad → ∀ j u, (enC es)[j]? = some u → w.cell? (ad.add j) = some u := by
  intro ad e j u hu
  have hj : j < (enC es).length := (List.getElem?_eq_some_iff.1 hu).1
  rw [enC_len] at hj
  have hn := h.len
  obtain ⟨R, o, e', _, _, hc⟩ := h.row (by omega)
  rw [e'] at e
  obtain rfl := Option.some.inj e
  have hi : j / 2 < es.length := by omega
  obtain ⟨c0, c1⟩ := hc (j / 2) hi
  rw [show j = j / 2 * 2 + j % 2 by omega, enC_at es _ _ hi (Nat.mod_lt _ (by decide))] at hu
  rw [Addr.add_lit, show o + j = o + j / 2 * 2 + j % 2 by omega]
  have hm : j % 2 = 0 ∨ j % 2 = 1 := by omega
  rcases hm with h' | h' <;> (rw [h'] at hu ⊢; injection hu with hu; subst hu)
  · exact c0
  · exact c1
theorem EnsR.none_ (h : EnsR w F none n c es) : n = 0 := by
  rcases Nat.eq_zero_or_pos n with h0 | h0
  · exact h0
  · obtain ⟨R, o, e, _⟩ := h.row h0; cases e
end

/-- Block g is the program's log p. -/
def PL (w : World) (F : Nat → Prop) (g : Nat) (p : Rl) : Prop :=
  ∃ A n c es, Bk w g 51 #[.int .u64 (p.ap : Int), .slice A n c] ∧ EnRow w F (.slice A n c) es ∧ es.map (·.1) = p.row ∧ n = p.row.length ∧ p.Ok ∧ F g ∧ ∀ k, F k → k < w.heap.size
section
variable {w w' : World} {F G : Nat → Prop} {g : Nat} {p : Rl}
theorem PL.kp (h : PL w F g p) (hk : Kp G w w') (hd : ∀ k, F k → ¬ G k) : PL w' F g p := by
  obtain ⟨A, n, c, es, h1, h2, h3, h4, h5, h6, h7⟩ := h
  exact ⟨A, n, c, es, h1.kp hk (hd _ h6), h2.kp hk hd, h3, h4, h5, h6, fun k e => Nat.lt_of_lt_of_le (h7 k e) hk.size⟩
theorem PL.below (h : PL w F g p) (hb : Below w.heap.size w w') : PL w' F g p := h.kp (G := fun _ => False) (Kp.of_below hb) fun _ _ h => h
theorem PL.ok (h : PL w F g p) : p.Ok := by obtain ⟨A, n, c, es, h1, h2, h3, h4, h5, h6, h7⟩ := h; exact h5
theorem PL.lt (h : PL w F g p) : ∀ k, F k → k < w.heap.size := by obtain ⟨A, n, c, es, h1, h2, h3, h4, h5, h6, h7⟩ := h; exact h7
theorem PL.c0 (h : PL w F g p) : w.cell? ⟨g, 0, none⟩ = some (.int .u64 (p.ap : Int)) := by obtain ⟨A, n, c, es, h1, h2, h3, h4, h5, h6, h7⟩ := h; exact h1.cell 0
end
end Go.Proofs.Ytnomddhgcdoifaa
