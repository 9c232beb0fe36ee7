/- Of the proofs of layer 4, merged: SynLk. -/
import Derived.Test.YtjapmolmgfaocaaMSynB

/- The program's Look: a letter, its votes each their own. -/
namespace Go.Proofs.Ytjapmolmgfaocaa
open Go.RowKit Go.Maps

def vrE (e : Vtr) : List Value := [.int .u64 (e.1.slot : Int), .int .u64 (e.1.bal.n : Int), .int .i64 e.1.bal.node, .slice e.2.1 e.2.2.1 e.2.2.2]
def vrC (es : List Vtr) : List Value := es.flatMap vrE
theorem vrC_len (es : List Vtr) : (vrC es).length = es.length * 4 := flat_len es fun _ _ => rfl
theorem vrC_at (es : List Vtr) (i j : Nat) (hi : i < es.length) (hj : j < 4) : (vrC es)[i * 4 + j]? = (vrE es[i])[j]? := flat_at (s := 4) es (fun _ _ => rfl) i j hi hj
theorem vrC_one (es : List Vtr) : ∀ u ∈ vrC es, u.oneCell' = true := by
  intro u hu
  unfold vrC at hu
  rw [List.mem_flatMap] at hu
  obtain ⟨e, _, he⟩ := hu
  simp [vrE] at he
  rcases he with rfl | rfl | rfl | rfl <;> rfl
theorem VsR.cellsP {w : World} {G : Nat → Prop} {A : Option Addr} {n c : Nat} {es : List Vtr} (h : VsR w G A n c es) : ∀ ad, A = some ad → ∀ j u, (vrC es)[j]? = some u → w.cell? (ad.add j) = some u := by
  intro ad e j u hu
  have hj : j < (vrC es).length := (List.getElem?_eq_some_iff.1 hu).1
  rw [vrC_len] at hj
  have hn := h.len
  obtain ⟨R, o, e', _, _, hc⟩ := h.row (by omega)
  rw [e'] at e
  obtain rfl := Option.some.inj e
  have hi : j / 4 < es.length := by omega
  obtain ⟨c0, c1, c2, c3⟩ := hc (j / 4) hi
  rw [show j = j / 4 * 4 + j % 4 by omega, vrC_at es _ _ hi (Nat.mod_lt _ (by decide))] at hu
  rw [Addr.add_lit, show o + j = o + j / 4 * 4 + j % 4 by omega]
  have hm : j % 4 = 0 ∨ j % 4 = 1 ∨ j % 4 = 2 ∨ j % 4 = 3 := by omega
  rcases hm with h' | h' | h' | h' <;> (rw [h'] at hu ⊢; injection hu with hu; subst hu)
  · exact c0
  · exact c1
  · exact c2
  · exact c3
theorem infoVoteL : (Try.prog.info? 46).map (fun i => (i.zero, i.size, i.bytes)) = some (some (.agg #[.int .u64 0, .int .u64 0, .int .i64 0, .slice none 0 0]), 4, 48) := by kernel_rfl
def CloneVs (w : World) (es : List Vtr) (e : Ending) (w' : World) : Prop := ∃ A c, e = .returned (.slice A es.length c) ∧ w'.ownsRow w.heap.size 46 4 (.slice A es.length c) es.length (vrC es) ∧ Below w.heap.size w w'
set_option maxRecDepth 100000 in
set_option maxHeartbeats 2000000 in
theorem cloneVs_any {w : World} {G : Nat → Prop} {A : Option Addr} {n c : Nat} {es : List Vtr} (h : VsR w G A n c es) (hn : n ≤ 1000) :
    Calls Try.prog 40 #[.slice A n c] w (CloneVs w es) := by
  obtain ⟨i0, hi0, hz0, hz1, hz2⟩ := info_parts infoVoteL
  have q := fun (w : World) (a : Option Addr) (n c n' c' : Nat) => Lib.run_eql_slice_nil (P := Try.prog) w 51 46 a n c n' c' Try.underlying51
  have hl := h.len
  cases A with
  | none =>
    have hn0 : n = 0 := by
      rcases Nat.eq_zero_or_pos n with h0 | h0
      · exact h0
      · obtain ⟨b, o, e, _⟩ := h.row h0; cases e
    subst hn0
    obtain rfl : es = [] := List.eq_nil_of_length_eq_zero hl
    clear h
    go_enter Try.func40, Try.ntmps40
    go_wp2
    go_ret
    exact ⟨none, 0, rfl, World.ownsRow_nil _ _ _ _, Below.refl _ _⟩
  | some a =>
    have hb0 := (Below.refl w.heap.size w).alloc (Nat.le_refl _) (.cells #[] 46)
    have h' := h.below hb0
    have Hcells := Lib.hid h'.cellsP
    have Hl := Lib.hid hl
    clear hl h h'
    go_enter Try.func40, Try.ntmps40
    go_wp2_with (at_builtin; go_loud (refine wpList_append_app _ rfl _ _ 51 rfl w.heap.size 46 i0 (.agg #[.int .u64 0, .int .u64 0, .int .i64 0, .slice none 0 0]) 4 48 Try.underlying51 hi0 hz0 hz1 hz2 rfl _ 0 [] rfl (World.ownsRow_made w #[] 0 (Nat.le_refl _) (Nat.zero_le _) rfl) (some a) n c (vrC es) rfl (by rw [vrC_len, Hl.out]) (by intro e; cases e) Hcells.out (vrC_one es) (by unfold maxLen; omega) (by omega) (by simp) ?_))
    intro v' w1 ha
    have hb1 := ha.below hb0 (by simp) (by intro k hk; simp [Value.ownBlock] at hk; omega)
    have ho := ha.own
    rw [Nat.zero_add, List.nil_append] at ho
    obtain ⟨A', c', rfl, _⟩ := own_shape ho
    obtain rfl := Hl.out
    have HS := Lib.hid ho
    have HB := Lib.hid hb1
    clear Hcells ha ho hb0 hb1 Hl
    go_wp2
    go_ret
    exact ⟨A', c', rfl, HS.out, HB.out⟩
/-- What Look gives of a letter's votes. -/
def LkO (w w' : World) (l : List Vt) (A : Option Addr) (c : Nat) : Prop :=
  Below w.heap.size w w' ∧ ∀ v, l = [v] → ∃ R A' c', A = some ⟨R, 0, none⟩ ∧ w.heap.size ≤ R ∧ w'.ownsRow w.heap.size 46 4 (.slice A 1 c) 1 (vrE (v, A', v.val.length, c')) ∧ w'.ownsRow w.heap.size 5 1 (.slice A' v.val.length c') v.val.length (u8s v.val) ∧ ∀ k, (Value.slice A' v.val.length c').ownBlock = some k → k ≠ R
def LookR (w : World) (m : Ml) (ok : Bool) (e : Ending) (w' : World) : Prop :=
  ∃ A c, e = .returned (.tuple #[.agg #[.int .i64 (m.kind : Int), .int .i64 (m.frm : Int), .int .i64 (m.dst : Int), .int .u64 (m.bal.n : Int), .int .i64 m.bal.node, .slice A m.votes.length c], .bool ok]) ∧ LkO w w' m.votes A c
def Ro.look (r : Ro) (a : Int) : Ml × Bool := if r.is a then (r.at_ a, true) else (Ml.zero, false)
end Go.Proofs.Ytjapmolmgfaocaa
