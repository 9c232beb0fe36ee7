/- Layer 6, plain: packets in a row, pairs that are parted. And a row of packets as it lies in memory. -/
import Derived.Test.YtfghbhjljbdlmaaFoot
import Derived.Test.YtfghbhjljbdlmaaFlat
namespace Go.Proofs.Ytfghbhjljbdlmaa
open Go.RowKit

structure Pk where
  frm : Int
  dst : Int
  body : List UInt8
structure Nt where
  n : Nat
  row : List Pk
  apart : List (Int × Int)

def hit (a b : Int) (z : Int × Int) : Bool := (decide (z.1 = a) && decide (z.2 = b)) || (decide (z.1 = b) && decide (z.2 = a))
def Nt.node (s : Nt) (a : Int) : Bool := decide (0 ≤ a) && decide (a < (s.n : Int))
def Nt.parted (s : Nt) (a b : Int) : Bool := s.apart.any (hit a b)
def Nt.there (s : Nt) (k : Int) : Bool := decide (0 ≤ k) && decide (k < (s.row.length : Int))
def Nt.at_ (s : Nt) (k : Int) : Pk := s.row.getD k.toNat ⟨0, 0, []⟩
def Nt.cut (s : Nt) (k : Int) : Nt := { s with row := s.row.eraseIdx k.toNat }
def Nt.send (s : Nt) (p : Pk) : Int × Nt :=
  if (s.node p.frm && s.node p.dst) = false then (2, s)
  else if 1200 < p.body.length then (3, s)
  else if 256 ≤ s.row.length then (5, s)
  else if s.parted p.frm p.dst = true then (0, s)
  else (0, { s with row := s.row ++ [p] })
def Nt.look (s : Nt) (k : Int) : Pk × Bool := if s.there k = true then (s.at_ k, true) else (⟨0, 0, []⟩, false)
def Nt.take (s : Nt) (k : Int) : Nt := if s.there k = true then s.cut k else s
def Nt.twice (s : Nt) (k : Int) : Bool × Nt := if s.there k = true ∧ s.row.length < 256 then (true, { s with row := s.row ++ [s.at_ k] }) else (false, s)
def Nt.back (s : Nt) (k : Int) : Nt := if s.there k = true then { s with row := s.row.eraseIdx k.toNat ++ [s.at_ k] } else s
def Nt.set (s : Nt) (a b : Int) (x : Bool) : Int × Nt :=
  if (s.node a && s.node b) = false ∨ a = b then (2, s)
  else (0, { s with apart := s.apart.filter (fun z => !hit a b z) ++ (if x then [(a, b)] else []) })
def Nt.new (n : Nat) : Nt := ⟨n, [], []⟩
structure Nt.Ok (s : Nt) : Prop where
  n1 : 1 ≤ s.n
  n2 : s.n ≤ 12
  len : s.row.length ≤ 256
  body : ∀ p ∈ s.row, p.body.length ≤ 1200
  nodes : ∀ p ∈ s.row, s.node p.frm = true ∧ s.node p.dst = true
  apart : ∀ z ∈ s.apart, s.node z.1 = true ∧ s.node z.2 = true

theorem Nt.at_mem {s : Nt} {k : Int} (h : s.there k = true) : s.at_ k ∈ s.row := by
  unfold Nt.there at h
  simp only [Bool.and_eq_true, decide_eq_true_eq] at h
  have hk : k.toNat < s.row.length := by omega
  unfold Nt.at_
  simp only [List.getD, List.getElem?_eq_getElem hk, Option.getD_some]
  exact List.getElem_mem hk
theorem Nt.Ok.new {n : Nat} (h1 : 1 ≤ n) (h2 : n ≤ 12) : (Nt.new n).Ok := ⟨h1, h2, by simp [Nt.new], by simp [Nt.new], by simp [Nt.new], by simp [Nt.new]⟩
theorem Nt.Ok.cut {s : Nt} (h : s.Ok) (k : Int) : (s.cut k).Ok :=
  ⟨h.n1, h.n2, Nat.le_trans (List.length_eraseIdx_le _ _) h.len, fun p hp => h.body p ((List.eraseIdx_sublist _ _).subset hp), fun p hp => h.nodes p ((List.eraseIdx_sublist _ _).subset hp), h.apart⟩
theorem Nt.Ok.take {s : Nt} (h : s.Ok) (k : Int) : (s.take k).Ok := by
  unfold Nt.take
  split
  · exact h.cut k
  · exact h
theorem Nt.Ok.send {s : Nt} (h : s.Ok) (p : Pk) : (s.send p).2.Ok := by
  unfold Nt.send
  split
  · exact h
  rename_i h1
  split
  · exact h
  rename_i h2
  split
  · exact h
  rename_i h3
  split
  · exact h
  simp only [Bool.not_eq_false, Bool.and_eq_true] at h1
  refine ⟨h.n1, h.n2, by simp; omega, fun q hq => ?_, fun q hq => ?_, h.apart⟩
  · rcases List.mem_append.1 hq with hq | hq
    · exact h.body q hq
    · rw [List.mem_singleton.1 hq]; omega
  · rcases List.mem_append.1 hq with hq | hq
    · exact h.nodes q hq
    · rw [List.mem_singleton.1 hq]; exact h1
theorem Nt.Ok.twice {s : Nt} (h : s.Ok) (k : Int) : (s.twice k).2.Ok := by
  unfold Nt.twice
  split
  · rename_i h1
    refine ⟨h.n1, h.n2, by simp; omega, fun q hq => ?_, fun q hq => ?_, h.apart⟩
    · rcases List.mem_append.1 hq with hq | hq
      · exact h.body q hq
      · rw [List.mem_singleton.1 hq]; exact h.body _ (Nt.at_mem h1.1)
    · rcases List.mem_append.1 hq with hq | hq
      · exact h.nodes q hq
      · rw [List.mem_singleton.1 hq]; exact h.nodes _ (Nt.at_mem h1.1)
  · exact h
theorem Nt.there_lt {s : Nt} {k : Int} (h : s.there k = true) : 0 ≤ k ∧ k.toNat < s.row.length := by
  unfold Nt.there at h
  simp only [Bool.and_eq_true, decide_eq_true_eq] at h
  omega
theorem Nt.Ok.back {s : Nt} (h : s.Ok) (k : Int) : (s.back k).Ok := by
  unfold Nt.back
  split
  · rename_i h1
    have h2 := Nt.there_lt h1
    have h3 := h.len
    refine ⟨h.n1, h.n2, by simp only [List.length_append, List.length_eraseIdx_of_lt h2.2, List.length_singleton]; omega, fun q hq => ?_, fun q hq => ?_, h.apart⟩
    · rcases List.mem_append.1 hq with hq | hq
      · exact h.body q ((List.eraseIdx_sublist _ _).subset hq)
      · rw [List.mem_singleton.1 hq]; exact h.body _ (Nt.at_mem h1)
    · rcases List.mem_append.1 hq with hq | hq
      · exact h.nodes q ((List.eraseIdx_sublist _ _).subset hq)
      · rw [List.mem_singleton.1 hq]; exact h.nodes _ (Nt.at_mem h1)
  · exact h
theorem Nt.Ok.set {s : Nt} (h : s.Ok) (a b : Int) (x : Bool) : (s.set a b x).2.Ok := by
  unfold Nt.set
  split
  · exact h
  rename_i h1
  have h2 : s.node a = true ∧ s.node b = true := by
    cases h3 : (s.node a && s.node b)
    · exact absurd (.inl h3) h1
    · simpa using h3
  refine ⟨h.n1, h.n2, h.len, h.body, h.nodes, fun z hz => ?_⟩
  rcases List.mem_append.1 hz with hz | hz
  · exact h.apart z (List.mem_filter.1 hz).1
  · cases x with
    | true => rw [List.mem_singleton.1 hz]; exact h2
    | false => cases hz
theorem Nt.set_len (s : Nt) (a b : Int) (x : Bool) : (s.set a b x).2.apart.length ≤ s.apart.length + 1 := by
  unfold Nt.set
  split
  · exact Nat.le_succ _
  have := List.length_filter_le (fun z => !hit a b z) s.apart
  cases x <;> simp <;> omega
theorem hit_comm (a b : Int) (z : Int × Int) : hit a b z = hit b a z := by unfold hit; exact Bool.or_comm _ _
theorem parted_comm (s : Nt) (a b : Int) : s.parted a b = s.parted b a := by
  unfold Nt.parted
  congr 1
  funext z
  exact hit_comm a b z
theorem Nt.set_parted {s : Nt} {a b : Int} {x : Bool} (h : (s.node a && s.node b) = true) (hab : a ≠ b) (i j : Int) : (s.set a b x).2.parted i j = if (i = a ∧ j = b) ∨ (i = b ∧ j = a) then x else s.parted i j := by
  unfold Nt.set
  rw [if_neg (by rw [h]; simp [hab])]
  unfold Nt.parted
  simp only [List.any_append]
  by_cases hc : (i = a ∧ j = b) ∨ (i = b ∧ j = a)
  · rw [if_pos hc]
    have e : ∀ z, hit i j z = hit a b z := by
      intro z
      rcases hc with ⟨rfl, rfl⟩ | ⟨rfl, rfl⟩
      · rfl
      · exact hit_comm _ _ z
    have e1 : (s.apart.filter (fun z => !hit a b z)).any (hit i j) = false := by
      rw [List.any_eq_false]
      intro z hz
      rw [e z]
      simpa using (List.mem_filter.1 hz).2
    rw [e1]
    cases x with
    | true =>
      have : hit i j (a, b) = true := by rw [e]; simp [hit]
      simp [this]
    | false => rfl
  · rw [if_neg hc]
    have e1 : (s.apart.filter (fun z => !hit a b z)).any (hit i j) = s.apart.any (hit i j) := by
      rw [Bool.eq_iff_iff]
      simp only [List.any_eq_true, List.mem_filter]
      constructor
      · rintro ⟨z, ⟨h1, _⟩, h3⟩; exact ⟨z, h1, h3⟩
      · rintro ⟨z, h1, h3⟩
        refine ⟨z, ⟨h1, ?_⟩, h3⟩
        cases h4 : hit a b z with
        | false => rfl
        | true =>
          exfalso
          unfold hit at h3 h4
          simp only [Bool.or_eq_true, Bool.and_eq_true, decide_eq_true_eq] at h3 h4
          omega
    rw [e1]
    cases x with
    | true =>
      have : hit i j (a, b) = false := by
        cases h4 : hit i j (a, b) with
        | false => rfl
        | true =>
          exfalso
          unfold hit at h4
          simp only [Bool.or_eq_true, Bool.and_eq_true, decide_eq_true_eq] at h4
          omega
      simp [this]
    | false => simp

/-! ### in memory -/
def pkE (e : Pk × Value) : List Value := [.int .i64 e.1.frm, .int .i64 e.1.dst, e.2]
def pkC (es : List (Pk × Value)) : List Value := es.flatMap pkE
theorem pkE_len (e : Pk × Value) : (pkE e).length = 3 := rfl
theorem pkC_len (es : List (Pk × Value)) : (pkC es).length = es.length * 3 := flat_len es fun _ _ => rfl
theorem pkC_app (a b : List (Pk × Value)) : pkC (a ++ b) = pkC a ++ pkC b := by unfold pkC; rw [List.flatMap_append]
theorem pkC_at (es : List (Pk × Value)) (i j : Nat) (hi : i < es.length) (hj : j < 3) : (pkC es)[i * 3 + j]? = (pkE es[i])[j]? := flat_at (s := 3) es (fun _ _ => rfl) i j hi hj
end Go.Proofs.Ytfghbhjljbdlmaa
