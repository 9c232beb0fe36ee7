/- Layer 12, the document's log: Install, Learn. -/
import Derived.Test.YtnomddhgcdoifaaRlDd
import Derived.Test.YtnomddhgcdoifaaLent
namespace Go.Proofs.Ytnomddhgcdoifaa
open Go.RowKit

theorem own_sepE {w : World} {b1 b2 e1 e2 s1 s2 n1 n2 : Nat} {v1 v2 : Value} {x1 x2 : List Value} (h1 : w.ownsRow b1 e1 s1 v1 n1 x1) (h2 : w.ownsRow b2 e2 s2 v2 n2 x2) (hne : e1 ≠ e2) : ∀ k, v1.ownBlock = some k → ¬ v2.ownBlock = some k := fun k p q => by
  rcases own_types_ne h1 h2 hne with h' | h'
  · rw [h'] at p; cases p
  · exact h' (p.trans q.symm)
section
variable {w w1 w' w3 : World} {F G : Nat → Prop} {g n c : Nat} {p p2 : Rl} {A : Option Addr} {es es2 : List Ene} {v' : Value}
theorem RDL.setAp (h : RDL w G g p A n c es) (u : Nat) (hu : u < 18446744073709551615) : RDL (w.setCell ⟨g, 0, none⟩ (.int .u64 (u : Int))) G g ⟨u, p.row⟩ A n c es ∧ Mv G G w (w.setCell ⟨g, 0, none⟩ (.int .u64 (u : Int))) := by
  have hk : Kp (fun k => k = g) w (w.setCell ⟨g, 0, none⟩ (.int .u64 (u : Int))) := Kp.set_ (F := fun k => k = g) (p := ⟨g, 0, none⟩) rfl _
  have hoff : ∀ k, ((Value.slice A n c).ownBlock = some k ∨ ∃ e ∈ es, (s3W e.2).ownBlock = some k) → k ≠ g := by
    rintro k (e | ⟨e, he, e2⟩)
    · exact own_not_bkE h.bk h.row.own (by decide) k e
    · exact own_not_bkE h.bk (h.row.each e he) (by decide) k e2
  exact ⟨⟨h.bk.set_ 0 _, ⟨own_kp h.row.own hk fun k e e2 => hoff k (.inl e) e2, fun e he => own_kp (h.row.each e he) hk fun k e1 e2 => hoff k (.inr ⟨e, he, e1⟩) e2, h.row.foot, h.row.bods⟩, ⟨h.al.mem, h.al.len, h.al.one⟩, h.len, ⟨hu, h.ok.rise, h.ok.len, h.ok.slot, h.ok.val⟩, h.fg, fun k e => Nat.lt_of_lt_of_le (h.lt k e) hk.size⟩, Mv.of (hk.mono fun k e => e ▸ h.fg)⟩
set_option maxRecDepth 100000 in
theorem rinstall_any (h : RDL w G g p A n c es) (u : Nat) (hu : u < 18446744073709551616) : Calls Try.prog 28 #[.pointer (some ⟨g, 0, none⟩), .int .u64 (u : Int)] w fun e w' => e = .returned (.bool (p.install u).1) ∧ Hid (∃ G', RDx w' G' g (p.install u).2 ∧ Mv G G' w w') := by
  have c0 := h.c0
  have f0 := h.bk.frozen 0
  unfold Rl.install
  by_cases h1 : u ≤ p.ap
  · have m1 : (u : Int) ≤ (p.ap : Int) := by omega
    rw [if_pos (.inl h1)]
    have HF : Hid (∃ G', RDx w G' g p ∧ Mv G G' w w) := Lib.hid ⟨G, ⟨_, _, _, _, h⟩, Mv.of (Kp.refl _ _)⟩
    clear h
    go_enter Try.func28, Try.ntmps28
    go_wp2
    go_ret
    exact ⟨rfl, HF⟩
  have m1 : ¬ (u : Int) ≤ (p.ap : Int) := by omega
  by_cases h2 : u = 18446744073709551615
  · rw [if_pos (.inr h2)]
    have n1 : ((u : Int) == 18446744073709551615) = true := by simp; omega
    have n2 : (u : Int) = 18446744073709551615 := by omega
    clear n2
    have HF : Hid (∃ G', RDx w G' g p ∧ Mv G G' w w) := Lib.hid ⟨G, ⟨_, _, _, _, h⟩, Mv.of (Kp.refl _ _)⟩
    clear h h2
    go_enter Try.func28, Try.ntmps28
    go_wp2
    go_ret
    exact ⟨rfl, HF⟩
  rw [if_neg (by omega)]
  have n1 : ((u : Int) == 18446744073709551615) = false := by simp; omega
  have n2 : ¬ (u : Int) = 18446744073709551615 := by omega
  have hs := h.setAp u (by omega)
  have HM := Lib.hid hs.2
  have HW := Lib.hid (rwithout_any hs.1 u)
  clear h hs
  go_enter Try.func28, Try.ntmps28
  go_wp2_with fail
  refine HW.out.mono ?_
  rintro e w' ⟨rfl, H⟩
  have HF : Hid (∃ G', RDx w' G' g ⟨u, aboveE u p.row⟩ ∧ Mv G G' w w') := Lib.hid (by
    obtain ⟨G', hd, hm⟩ := H.out
    exact ⟨G', hd, HM.out.trans hm⟩)
  clear H
  go_wp2
  go_ret
  exact ⟨rfl, HF⟩
/-- The row grows by one entry whose bytes were made since. -/
theorem RDL.push {e : En} {s : Sl3} (h : RDL w G g p A n c es) (hb1 : Below w.heap.size w w1) (ha : App w1 w3 0 45 2 (.slice A n c) v' n 1 (enC es) (enE (e, s))) (hs : w1.ownsRow w.heap.size 5 1 (s3W s) e.val.length (u8s e.val)) (hal : Alike p2 ((es ++ [(e, s)]).map (·.1))) (hok : p2.Ok) (hap : p2.ap = p.ap) :
    w3.cell? ⟨g, 1, none⟩ = some (.slice A n c) ∧ w3.frozen? ⟨g, 1, none⟩ = false ∧ Hid (∃ G', RDx (w3.setCell ⟨g, 1, none⟩ v') G' g p2 ∧ Mv G G' w (w3.setCell ⟨g, 1, none⟩ v')) := by
  have h1 := h.below hb1
  have hel := h.len
  have hgl := h.bk.lt
  have hk3 : Kp (fun k => (Value.slice A n c).ownBlock = some k) w1 w3 := Kp.of_row ha.grow (fun g e => e)
  have hk4 : Kp (fun k => k = g) w3 (w3.setCell ⟨g, 1, none⟩ v') := Kp.set_ (F := fun k => k = g) (p := ⟨g, 1, none⟩) rfl _
  have hbk3 := h1.bk.kp hk3 (fun e => own_not_bkE h1.bk h1.row.own (by decide) g e rfl)
  have hk1 : Kp (fun k => k = g ∨ (Value.slice A n c).ownBlock = some k) w1 (w3.setCell ⟨g, 1, none⟩ v') := (hk3.mono fun k e => .inr e).trans (hk4.mono fun k e => .inl e)
  have hk : Kp (fun k => k = g ∨ (Value.slice A n c).ownBlock = some k) w (w3.setCell ⟨g, 1, none⟩ v') := (Kp.of_below hb1).trans hk1
  obtain ⟨A', c', rfl, hnc, hcm⟩ := own_shape ha.own
  have hblk : ∀ k, (Value.slice A' (n + 1) c').ownBlock = some k → (Value.slice A n c).ownBlock = some k ∨ w.heap.size ≤ k := fun k e => by
    rcases ha.block with h' | h'
    · exact .inl (h' ▸ e)
    · rw [h'] at e; injection e with e; have := hb1.size; exact .inr (by omega)
  have hoff : ∀ x ∈ es, ∀ k, (s3W x.2).ownBlock = some k → ¬ (k = g ∨ (Value.slice A n c).ownBlock = some k) := fun x hx k e hk2 => by
    rcases hk2 with e2 | e2
    · exact own_not_bkE h.bk (h.row.each x hx) (by decide) k e e2
    · exact own_sepE (h.row.each x hx) h.row.own (by decide) k e e2
  refine ⟨hbk3.cell 1, hbk3.frozen 1, Lib.hid ⟨fun k => G k ∨ (Value.slice A' (n + 1) c').ownBlock = some k ∨ (s3W s).ownBlock = some k, ⟨A', n + 1, c', es ++ [(e, s)], ⟨by rw [hap]; exact hbk3.set_ 1 _, ⟨?_, ?_, fun k e => .inr (.inl e), ?_⟩, hal, by rw [List.length_append, ← h.len]; rfl, hok, .inl h.fg, ?_⟩⟩, ⟨hk.mono fun k e => ?_, fun k e => ?_⟩⟩⟩
  · rw [enC_app, List.length_append, ← hel]
    have := own_kp ha.own hk4 (fun k e e2 => own_not_bkE hbk3 ha.own (by decide) k e e2)
    simpa [enC] using this
  · intro x hx
    rcases List.mem_append.1 hx with hx | hx
    · exact own_kp (h.row.each x hx) hk (hoff x hx)
    · rw [List.mem_singleton.1 hx]
      refine own_mono (own_kp hs hk1 fun k e1 e2 => ?_) (Nat.zero_le _)
      have := (hs.lt k e1).1
      rcases e2 with e2 | e2
      · omega
      · have := h.row.lt k e2; omega
  · intro x hx k e2
    rcases List.mem_append.1 hx with hx | hx
    · exact .inl (h.row.bods x hx k e2)
    · rw [List.mem_singleton.1 hx] at e2
      exact .inr (.inr e2)
  · rintro k (e | e | e)
    · exact Nat.lt_of_lt_of_le (h.lt k e) hk.size
    · have := (ha.own.lt k e).2
      simpa [World.setCell] using this
    · have := (hs.lt k e).2
      exact Nat.lt_of_lt_of_le this hk1.size
  · rcases e with e | e
    · exact e ▸ h.fg
    · exact h.row.foot k e
  · rcases e with e | e | e
    · exact .inl e
    · rcases hblk k e with h' | h'
      · exact .inl (h.row.foot k h')
      · exact .inr h'
    · exact .inr (hs.lt k e).1
end
end Go.Proofs.Ytnomddhgcdoifaa
