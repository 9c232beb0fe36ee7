/- Rows of elements of several cells each, one behind the other. No program is named here. -/
import Derived.Test.YtnomddhgcdoifaaFoot
namespace Go.Proofs.Ytnomddhgcdoifaa
open Go.RowKit

section
variable {α : Type} {f : α → List Value} {s : Nat}
theorem flat_len : ∀ (l : List α), (∀ x ∈ l, (f x).length = s) → (l.flatMap f).length = l.length * s
  | [], _ => by simp
  | x :: l, h => by
    rw [List.flatMap_cons, List.length_append, h x (List.mem_cons_self ..), flat_len l fun y hy => h y (List.mem_cons_of_mem _ hy), List.length_cons, Nat.add_mul, Nat.one_mul, Nat.add_comm]
theorem flat_drop : ∀ (l : List α), (∀ x ∈ l, (f x).length = s) → ∀ i, (l.flatMap f).drop (i * s) = (l.drop i).flatMap f
  | _, _, 0 => by simp
  | [], _, i + 1 => by simp
  | x :: l, h, i + 1 => by
    have hx := h x (List.mem_cons_self ..)
    rw [List.flatMap_cons, List.drop_succ_cons, ← flat_drop l (fun y hy => h y (List.mem_cons_of_mem _ hy)) i, Nat.add_mul, Nat.one_mul, Nat.add_comm, ← hx, List.drop_append, List.drop_eq_nil_of_le (by omega), List.nil_append, Nat.add_sub_cancel_left]
theorem flat_take : ∀ (l : List α), (∀ x ∈ l, (f x).length = s) → ∀ i, (l.flatMap f).take (i * s) = (l.take i).flatMap f
  | _, _, 0 => by simp
  | [], _, i + 1 => by simp
  | x :: l, h, i + 1 => by
    have hx := h x (List.mem_cons_self ..)
    rw [List.flatMap_cons, List.take_succ_cons, List.flatMap_cons, ← flat_take l (fun y hy => h y (List.mem_cons_of_mem _ hy)) i, Nat.add_mul, Nat.one_mul, Nat.add_comm, ← hx, List.take_append, List.take_of_length_le (by omega), Nat.add_sub_cancel_left]
theorem flat_at (l : List α) (h : ∀ x ∈ l, (f x).length = s) (i j : Nat) (hi : i < l.length) (hj : j < s) : (l.flatMap f)[i * s + j]? = (f l[i])[j]? := by
  rw [← List.getElem?_drop, flat_drop l h i, List.drop_eq_getElem_cons hi, List.flatMap_cons, List.getElem?_append_left (by rw [h _ (List.getElem_mem hi)]; exact hj)]
theorem flat_set (l : List α) (h : ∀ x ∈ l, (f x).length = s) (i : Nat) (b : α) (hi : i < l.length) (hb : (f b).length = s) : over (l.flatMap f) (i * s) (f b) = (l.set i b).flatMap f := by
  unfold over
  rw [flat_take l h i, hb, show i * s + s = (i + 1) * s by rw [Nat.add_mul, Nat.one_mul], flat_drop l h (i + 1), List.set_eq_take_append_cons_drop, if_pos hi, List.flatMap_append, List.flatMap_cons]
end

theorem take_getD {α : Type} (l : List α) (d : α) (i : Nat) (h : i < l.length) : l.getD i d = l[i] := by simp [List.getD, h]
theorem new_cells (w : World) (cs : List Value) (t : TypeId) {g : Nat} (hg : g = w.heap.size) : ∀ a, (some ⟨g, 0, none⟩ : Option Addr) = some a → ∀ j u, cs[j]? = some u → (w.alloc (.cells cs.toArray t)).cell? (a.add j) = some u := by
  intro a ha j u hu
  subst hg
  obtain rfl := Option.some.inj ha
  rw [Addr.add_lit, Nat.zero_add, cell_of_row _ _ j cs.toArray t (0, 0) (heap_alloc_new w _)]
  simpa using hu
end Go.Proofs.Ytnomddhgcdoifaa
