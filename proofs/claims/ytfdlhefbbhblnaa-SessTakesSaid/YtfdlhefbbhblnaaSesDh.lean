/- The document's receiver: Hear, the states between its parts. -/
import Derived.Test.YtfdlhefbbhblnaaSesDm
import Derived.Test.YtfdlhefbbhblnaaSesRh
import Derived.Test.YtfdlhefbbhblnaaLent
import Derived.Test.YtfdlhefbbhblnaaSesLn
namespace Go.Proofs.Ytfdlhefbbhblnaa
open Go.RowKit Go.Maps

theorem ElRow.set {w w' : World} {F : Nat → Prop} {v : Value} {es : List Eln} {g : Nat} {cs : Array Value} (h : ElRow w F v es) (hb : Bk w g 59 cs) (hk : Kp (fun k => k = g) w w') : ElRow w' F v es :=
  ⟨own_kp h.own hk fun k e e2 => h.off hb k (.inl e) e2, fun x hx => own_kp (h.each x hx) hk fun k e e2 => h.off hb k (.inr ⟨x, hx, e⟩) e2, h.foot, h.bods⟩
theorem Rd.kp8 {w w' : World} {F : Nat → Prop} {B n : Nat} {A : Option Addr} {l : List UInt8} (h : Rd w B A n l) (hk : Kp F w w') (hF : 0 < n → ∀ ad, A = some ad → ¬ F ad.block) : Rd w' B A n l :=
  ⟨h.1, fun hn => by
    obtain ⟨b, o, e, hb, hc⟩ := h.2 hn
    exact ⟨b, o, e, hb, fun j hj => cell_kp (hc j hj) hk (hF hn ⟨b, o, none⟩ e)⟩⟩
def rsZ : Array Value := #[.int .u64 0, .int .u64 0, .bool false, .slice none 0 0]
/-- Ahead of keeping. -/
structure DJ (w W : World) (F : Nat → Prop) (g : Nat) (r : Rc) (m : Sg) (A : Option Addr) (n c K : Nat) (v : Value) (es : List Eln) : Prop where
  d : DRv W F g r v es
  kp : Kp F w W
  sg : Bk W w.heap.size 36 (sgA m (.slice A n c))
  rs : Bk W (w.heap.size + 1) 36 rsZ
  rd : Rd W W.heap.size A n m.body
  len : es.length ≤ K
/-- Behind keeping. -/
structure DK (w W : World) (F F7 : Nat → Prop) (g : Nat) (r : Rc) (K : Nat) (v : Value) (es : List Eln) : Prop where
  d : DRv W F7 g r v es
  mv : Mv F F7 w W
  rs : Bk W (w.heap.size + 1) 36 rsZ
  off : ¬ F7 (w.heap.size + 1)
  len : es.length ≤ K
theorem DJ.below {w W W' : World} {F : Nat → Prop} {g n c K : Nat} {r : Rc} {m : Sg} {A : Option Addr} {v : Value} {es : List Eln} (h : DJ w W F g r m A n c K v es) (hb : Below W.heap.size W W') : DJ w W' F g r m A n c K v es :=
  ⟨h.d.below hb, h.kp.trans (Kp.of_below hb), h.sg.below hb h.sg.lt, h.rs.below hb h.rs.lt, h.rd.up hb, h.len⟩
/-- The pieces that come out. -/
structure DT (w wr : World) (F F7 : Nat → Prop) (g : Nat) (r : Rc) (K : Nat) (v : Value) (es : List Eln) (tc : Nat) (rest : List (Nat × List UInt8)) (lv : Value) (out : List (List UInt8 × Value)) : Prop where
  k : DK w wr F F7 g { r with came := tc, early := rest } K v es
  row : wr.ownsRow w.heap.size 34 1 lv out.length (out.map (·.2))
  roff : ∀ k, lv.ownBlock = some k → ¬ F7 k ∧ k ≠ w.heap.size + 1
  each : ∀ x ∈ out, ∃ e ∈ es, x.2 = e.2 ∧ x.1 = e.1.2
  tk : (takeK r.came r.early).1 = out.map (·.1) ++ (takeK tc rest).1 ∧ (takeK r.came r.early).2 = (takeK tc rest).2
  srt : SrtK rest
  keys : ∀ p ∈ rest, tc < p.1
  cnt : out.length + rest.length = r.early.length
  sum : tc + rest.length = r.came + r.early.length
theorem takeK_cons {β : Type} (c : Nat) (v : β) (r : List (Nat × β)) : takeK c ((c + 1, v) :: r) = (v :: (takeK (c + 1) r).1, (takeK (c + 1) r).2) := by
  simp only [takeK, if_pos]
theorem takeK_stop {β : Type} {c : Nat} : ∀ {L : List (Nat × β)}, SrtK L → (∀ p ∈ L, c < p.1) → getK L (c + 1) = none → takeK c L = ([], c, L)
  | [], _, _, _ => rfl
  | (k, v) :: r, hs, hk, h => by
    have hlt : c < k := hk (k, v) List.mem_cons_self
    rw [getK_head hs hlt] at h
    have hne : k ≠ c + 1 := fun e => by rw [if_pos e] at h; cases h
    simp only [takeK, if_neg hne]
theorem getK_cut {β : Type} {c : Nat} {b : β} : ∀ {L : List (Nat × β)}, SrtK L → (∀ p ∈ L, c < p.1) → getK L (c + 1) = some b → ∃ r, L = (c + 1, b) :: r
  | [], _, _, h => by cases h
  | (k, v) :: r, hs, hk, h => by
    have hlt : c < k := hk (k, v) List.mem_cons_self
    rw [getK_head hs hlt] at h
    by_cases e : k = c + 1
    · rw [if_pos e] at h
      injection h with h
      exact ⟨r, by rw [e, h]⟩
    · rw [if_neg e] at h; cases h
section
variable {w wr w2 w3 : World} {F F7 : Nat → Prop} {g K : Nat} {r : Rc} {v lv lv' : Value} {es : List Eln} {tc : Nat} {rest : List (Nat × List UInt8)} {out : List (List UInt8 × Value)}
theorem DT.start (h : DK w wr F F7 g r K v es) (hok : r.Ok) : DT w wr F F7 g r K v es r.came r.early (.slice none 0 0) [] := by
  refine ⟨?_, World.ownsRow_nil _ _ _ _, (fun k e => by cases e), fun x hx => (List.not_mem_nil hx).elim, ⟨rfl, rfl⟩, hok.srt, fun p hp => (hok.keys p hp).1, by simp, rfl⟩
  cases r
  exact h
theorem DT.next (h : DT w wr F F7 g r K v es tc rest lv out) {i : Nat} (hi : i < es.length) (hg : getE es (tc + 1) = some es[i].1.2) (hb : Below wr.heap.size wr w2) (ha : App w2 w3 w.heap.size 34 1 lv lv' out.length 1 (out.map (·.2)) [es[i].2]) :
    ∃ r', rest = (tc + 1, es[i].1.2) :: r' ∧ DT w (w3.setCell ⟨g, 2, none⟩ (.int .u64 ((tc + 1 : Nat) : Int))) F F7 g r K v es (tc + 1) r' lv' (out ++ [(es[i].1.2, es[i].2)]) ∧ w3.cell? ⟨g, 2, none⟩ = some (.int .u64 (tc : Int)) ∧ w3.frozen? ⟨g, 2, none⟩ = false := by
  have hlook := h.k.d.look
  have hg2 : getK rest (tc + 1) = some es[i].1.2 := by rw [← hlook (tc + 1) (Nat.lt_succ_self _)]; exact hg
  obtain ⟨r', rfl⟩ := getK_cut h.srt h.keys hg2
  have d2 := h.k.d.below hb
  have r2 := own_below h.row hb fun k e => (h.row.lt k e).2
  have rs2 := h.k.rs.below hb h.k.rs.lt
  have hk : Kp (fun k => lv.ownBlock = some k) w2 w3 := Kp.of_row ha.grow fun g e => e
  have hd : ∀ k, F7 k → ¬ lv.ownBlock = some k := fun k hf e => (h.roff k e).1 hf
  have d3 := d2.kp hk hd
  have rs3 := rs2.kp hk (fun e => (h.roff _ e).2 rfl)
  have hk4 : Kp (fun k => k = g) w3 (w3.setCell ⟨g, 2, none⟩ (.int .u64 ((tc + 1 : Nat) : Int))) := Kp.set_ (F := fun k => k = g) (p := ⟨g, 2, none⟩) rfl _
  have hz := h.k.mv.kp.size
  have hz2 := hb.size
  have hz3 := hk.size
  have hrlt : ∀ k, lv'.ownBlock = some k → ¬ F7 k ∧ k ≠ w.heap.size + 1 := fun k e => by
    rcases ha.block with h' | h'
    · rw [h'] at e; exact h.roff k e
    · rw [h'] at e
      injection e with e
      refine ⟨fun hf => by have := d2.lt k hf; omega, ?_⟩
      have := rs2.lt
      omega
  have hsrt := h.srt
  unfold SrtK at hsrt
  rw [List.pairwise_cons] at hsrt
  have hkeep : Kp (fun k => lv.ownBlock = some k ∨ k = g) w2 (w3.setCell ⟨g, 2, none⟩ (.int .u64 ((tc + 1 : Nat) : Int))) := (hk.mono fun k e => .inl e).trans (hk4.mono fun k e => .inr e)
  have hcnt := h.cnt
  have hsum := h.sum
  rw [List.length_cons] at hcnt hsum
  refine ⟨r', rfl, ⟨⟨⟨d3.bk.set_ 2 _, d3.row.set d3.bk hk4, fun k hck => ?_, d3.fg, fun k hf => by have := d3.lt k hf; have := hk4.size; omega⟩, ⟨?_, h.k.mv.new⟩, rs3.kp hk4 (fun e => h.k.off (by rw [e]; exact d3.fg)), h.k.off, h.k.len⟩, ?_, hrlt, fun x hx => ?_, ?_, hsrt.2, fun p hp => ?_, by rw [List.length_append]; simp; omega, by omega⟩, d3.bk.cell 2, d3.bk.frozen 2⟩
  · rw [hlook k (by have : tc + 1 < k := hck; show tc < k; omega)]
    show getK ((tc + 1, es[i].1.2) :: r') k = getK r' k
    rw [getK_cons, if_neg (by have : tc + 1 < k := hck; show ¬ tc + 1 = k; omega)]
  · refine (h.k.mv.kp.trans (Kp.of_below hb)).trans' hkeep fun k e => ?_
    rcases e with e | e
    · exact .inr (h.row.lt k e).1
    · subst e
      exact h.k.mv.new _ d3.fg
  · rw [List.length_append, List.map_append]
    exact own_kp ha.own hk4 fun k e e2 => (hrlt k e).1 (by rw [e2]; exact d3.fg)
  · rcases List.mem_append.1 hx with hx | hx
    · exact h.each x hx
    · rw [List.mem_singleton.1 hx]
      exact ⟨es[i], List.getElem_mem hi, rfl, rfl⟩
  · rw [h.tk.1, h.tk.2, takeK_cons]
    simp
  · exact hsrt.1 p hp
end
/-- What Hear gives. -/
def DHearS (r : Rc) (m : Sg) (w : World) (F : Nat → Prop) (g K : Nat) (e : Ending) (w' : World) : Prop :=
  ∃ (v : Value) (out : List (List UInt8 × Value)) (F' : Nat → Prop), e = .returned (.tuple #[v, sgV (r.hear m).2.ack (.slice none 0 0), .int .i64 0]) ∧ out.map (·.1) = (r.hear m).1 ∧ w'.ownsRow w.heap.size 34 1 v out.length (out.map (·.2)) ∧ (∀ x ∈ out, w'.ownsRow 0 5 1 x.2 x.1.length (u8s x.1) ∧ ∀ k, x.2.ownBlock = some k → F' k) ∧ DR w' F' g (r.hear m).2 (K + 1) ∧ Mv F F' w w'
end Go.Proofs.Ytfdlhefbbhblnaa
