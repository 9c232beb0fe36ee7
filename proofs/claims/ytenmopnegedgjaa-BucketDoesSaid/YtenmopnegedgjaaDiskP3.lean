/- Plain: a crash, write by write; and rows of numbers in memory. -/
import Derived.Test.YtenmopnegedgjaaDiskP2
namespace Go.Proofs.Ytenmopnegedgjaa
open Go.RowKit

/-- How many bytes of the i-th write are kept. -/
def keptOf (ks : List Int) (i : Nat) : Nat := if i < ks.length then clip (ks.getD i 0) else 0
theorem keptOf_le (ks : List Int) (i : Nat) : keptOf ks i ≤ 32 := by
  unfold keptOf
  split
  · exact clip_le _
  · omega
theorem lay_zero (b s : List UInt8) : lay 0 b s = s := by simp [lay]
theorem set_same (s : List (List UInt8)) (a : Nat) : s.set a (s.getD a []) = s := by
  apply List.ext_getElem?
  intro j
  by_cases h : a = j
  · subst h
    by_cases ha : a < s.length
    · simp [List.getD, ha]
    · rw [List.set_eq_of_length_le (by omega)]
  · rw [List.getElem?_set_ne h]
theorem crashS_cons (s : List (List UInt8)) (w : Nat × List UInt8) (ws : List (Nat × List UInt8)) (ks : List Int) :
    crashS s (w :: ws) ks = crashS (s.set w.1 (lay (keptOf ks 0) w.2 (s.getD w.1 []))) ws (ks.drop 1) := by
  cases ks with
  | nil =>
    have e : keptOf [] 0 = 0 := rfl
    rw [e, lay_zero, set_same]
    cases ws <;> rfl
  | cons k ks =>
    have e : keptOf (k :: ks) 0 = clip k := rfl
    rw [e]
    rfl
theorem keptOf_drop (ks : List Int) (i : Nat) : keptOf (ks.drop 1) i = keptOf ks (i + 1) := by
  unfold keptOf
  cases ks with
  | nil => simp
  | cons k ks => simp
theorem crashS_take (ws : List (Nat × List UInt8)) : ∀ (s : List (List UInt8)) (ks : List Int) (j : Nat) (hj : j < ws.length),
    crashS s (ws.take (j + 1)) ks = (crashS s (ws.take j) ks).set ws[j].1 (lay (keptOf ks j) ws[j].2 ((crashS s (ws.take j) ks).getD ws[j].1 [])) := by
  induction ws with
  | nil => intro s ks j hj; simp at hj
  | cons w ws ih =>
    intro s ks j hj
    cases j with
    | zero =>
      rw [List.take_zero, crashS_nil, List.take_succ_cons, List.take_zero, crashS_cons, crashS_nil]
      rfl
    | succ j =>
      have := ih (s.set w.1 (lay (keptOf ks 0) w.2 (s.getD w.1 []))) (ks.drop 1) j (by simpa using hj)
      rw [List.take_succ_cons, List.take_succ_cons, crashS_cons, crashS_cons, List.getElem_cons_succ, this, keptOf_drop]

/-- A slice of length n at A reads as the numbers l. -/
def RdI (w : World) (B : Nat) (A : Option Addr) (n : Nat) (l : List Int) : Prop :=
  l.length = n ∧ (∀ x ∈ l, -9223372036854775808 ≤ x ∧ x ≤ 9223372036854775807) ∧ (0 < n → ∃ b o, A = some ⟨b, o, none⟩ ∧ b < B ∧ ∀ j (h : j < l.length), w.cell? ⟨b, o + j, none⟩ = some (.int .i64 l[j]))
theorem RdI.nil (w : World) (B : Nat) (A : Option Addr) : RdI w B A 0 [] := ⟨rfl, fun x hx => by simp at hx, fun h => absurd h (by omega)⟩
theorem RdI.keep {w w' : World} {B n : Nat} {A : Option Addr} {l : List Int} (h : RdI w B A n l) (hk : ∀ p : Addr, p.block < B → w'.cell? p = w.cell? p) : RdI w' B A n l :=
  ⟨h.1, h.2.1, fun hn => by obtain ⟨b, o, e, hb, hc⟩ := h.2.2 hn; exact ⟨b, o, e, hb, fun j hj => (hk _ hb).trans (hc j hj)⟩⟩
theorem RdI.more {w : World} {B B' n : Nat} {A : Option Addr} {l : List Int} (h : RdI w B A n l) (hB : B ≤ B') : RdI w B' A n l :=
  ⟨h.1, h.2.1, fun hn => by obtain ⟨b, o, e, hb, hc⟩ := h.2.2 hn; exact ⟨b, o, e, by omega, hc⟩⟩
theorem RdI.below {w w' : World} {B n : Nat} {A : Option Addr} {l : List Int} (h : RdI w B A n l) (hb : Below B w w') : RdI w' B A n l := h.keep fun _ hp => hb.cell hp
theorem RdI.up {w w' : World} {n : Nat} {A : Option Addr} {l : List Int} (h : RdI w w.heap.size A n l) (hb : Below w.heap.size w w') : RdI w' w'.heap.size A n l := (h.below hb).more hb.size
theorem RdI.one (w : World) (x : Int) (h : -9223372036854775808 ≤ x ∧ x ≤ 9223372036854775807) (t : TypeId) : RdI (w.alloc (.cells #[.int .i64 x] t)) (w.heap.size + 1) (some ⟨w.heap.size, 0, none⟩) 1 [x] :=
  ⟨rfl, fun y hy => by simp at hy; subst hy; exact h, fun _ => ⟨_, _, rfl, by omega, fun j hj => by
    have : j = 0 := by simpa using hj
    subst this
    rw [cell_of_row _ _ _ #[.int .i64 x] t (0, 0) (heap_alloc_new w _)]
    rfl⟩⟩
end Go.Proofs.Ytenmopnegedgjaa
