/- ref00.Own answers true, and changes nothing below the lists' own blocks, if each list lies in memory of its own. -/
import Derived.Test.YtnomddhgcdoifaaProg
import Derived.Test.YtnomddhgcdoifaaOwnP
import Derived.Test.YtnomddhgcdoifaaRefPut
import Derived.Deep.LoopGhost
namespace Go.Proofs.Ytnomddhgcdoifaa
open Go.RowKit

section
variable {w w' : World} {base e e2 : Nat} {lv v : Value} {vals : List Value} {L : Nat → List UInt8}
theorem Lies.cell (h : Lies w base e e2 lv vals L) {gl c0 i : Nat} (hlv : lv = .slice (some ⟨gl, 0, none⟩) vals.length c0) (hi : vals[i]? = some v) : w.cell? ⟨gl, i, none⟩ = some v := by
  have hr := h.row
  rw [hlv] at hr
  rw [hr.cellAt i (by have := (List.getElem?_eq_some_iff.1 hi).1; omega), hi]
theorem own_head {n : Nat} {xs : List Value} {b s : Nat} {u : Value} (h : w.ownsRow b e s u n xs) (hn : 0 < n) : ∃ g c, u = .slice (some ⟨g, 0, none⟩) n c ∧ n ≤ c ∧ b ≤ g := by
  rcases h.2 with ⟨_, h0⟩ | ⟨g, cap, cur, rfl, hb, _, h1, _⟩
  · omega
  · exact ⟨g, cap, rfl, h1, hb⟩
end

theorem Try.infoBytes : (Try.prog.info? 33).map (fun i => (i.zero, i.size, i.bytes)) = some (some (.slice none 0 0), 1, 24) := by kernel_rfl

theorem Long.start {w : World} {base : Nat} {lv : Value} {vals : List Value} {ns : Nat → Nat} (h : Lies w base 5 33 lv vals fun i => F i (ns i)) : Long w base 5 33 lv vals ns (.slice none 0 0) [] :=
  ⟨h, World.ownsRow_nil _ _ _ _, fun j x hx => by simp at hx, Apart.nil _, fun j k x v _ hx => by simp at hx, fun i j v u _ hv => by simp at hv⟩

theorem wbyte (x : Int) : (IntKind.u8.wrap x) = x % 256 := IntKind.wrap_u8 x

/-- The first loop's state. -/
def S1 (base : Nat) (lv : Value) (vals : List Value) (L0 : Nat → List UInt8) (j k : Nat) (wr : World) : Prop :=
  ∃ L, Lies wr base 5 33 lv vals L ∧ (∀ i, (L i).length = (L0 i).length) ∧ (∀ i, i < j → L i = F i (L0 i).length) ∧ Done j k (L j)

theorem S1.next {base : Nat} {lv : Value} {vals : List Value} {L0 : Nat → List UInt8} {j : Nat} {wr : World} (h : S1 base lv vals L0 j (L0 j).length wr) : S1 base lv vals L0 (j + 1) 0 wr := by
  obtain ⟨L, h1, h2, h3, h4⟩ := h
  refine ⟨L, h1, h2, fun i hi => ?_, Done.zero _ _⟩
  by_cases hij : i = j
  · subst hij
    rw [← h2 i] at h4 ⊢
    exact h4.all
  · exact h3 i (by omega)

theorem S1.store {base : Nat} {lv : Value} {vals : List Value} {L0 : Nat → List UInt8} {j k : Nat} {wr : World} (h : S1 base lv vals L0 j k wr) (hap : AllApart vals) {g n c : Nat} (hv : vals[j]? = some (.slice (some ⟨g, 0, none⟩) n c)) :
    S1 base lv vals L0 j (k + 1) (wr.setCell ⟨g, k, none⟩ (.int .u8 ((fb j k).toNat : Int))) := by
  obtain ⟨L, h1, h2, h3, h4⟩ := h
  refine ⟨_, h1.store (by decide) hap hv (fb j k), fun i => ?_, fun i hi => ?_, ?_⟩
  · by_cases hi : i = j
    · subst hi; rw [upd_same, List.length_set, h2]
    · rw [upd_other _ _ _ _ hi, h2]
  · rw [upd_other _ _ _ _ (by omega)]; exact h3 i hi
  · rw [upd_same]; exact h4.step

theorem S1.done {base : Nat} {lv : Value} {vals : List Value} {L0 : Nat → List UInt8} {wr : World} (h : S1 base lv vals L0 vals.length 0 wr) : Lies wr base 5 33 lv vals fun i => F i (L0 i).length := by
  obtain ⟨L, h1, h2, h3, _⟩ := h
  exact h1.congr fun i hi => h3 i hi

theorem S1.shape {base : Nat} {lv : Value} {vals : List Value} {L0 : Nat → List UInt8} {j k : Nat} {wr : World} (h : S1 base lv vals L0 j k wr) {v : Value} (hv : vals[j]? = some v) : ∃ l, wr.ownsRow base 5 1 v (L0 j).length (u8s l) := by
  obtain ⟨L, h1, h2, _⟩ := h
  have := h1.each j v hv
  rw [h2 j] at this
  exact ⟨_, this⟩
theorem S1.cell {base c0 gl : Nat} {vals : List Value} {L0 : Nat → List UInt8} {j k i : Nat} {wr : World} (h : S1 base (.slice (some ⟨gl, 0, none⟩) vals.length c0) vals L0 j k wr) {v : Value} (hv : vals[i]? = some v) : wr.cell? ⟨gl, i, none⟩ = some v := by
  obtain ⟨L, h1, _⟩ := h
  exact h1.cell rfl hv

end Go.Proofs.Ytnomddhgcdoifaa
