/- Layer 10, plain: THE HEART: of the values that nodes voted for. -/
import Derived.Test.YthkkkldkpdkabaaProU
namespace Go.Proofs.Ythkkkldkpdkabaa

/-- The vote of each node: the ballot, the value. -/
abbrev Vts := Nat → Option (Bl × List UInt8)
/-- What has been chosen stays the value of all votes from that ballot on. -/
structure Heart (q : Qm) (won : Bool) (first : List UInt8) (vt : Vts) (b : Bl) : Prop where
  less : ∀ i x, i < q.n → vt i = some x → Bl.less x.1 b = true ∧ x.1.right = true ∧ x.2.length ≤ 100 ∧ x.1.n < 18446744073709551616
  safe : won = true → ∃ (B : Bl) (S : Nat), q.isQ true S = true ∧ (∀ i, i < q.n → S.testBit i = true → ∃ x, vt i = some x ∧ Bl.less x.1 B = false) ∧ (∀ i x, i < q.n → vt i = some x → Bl.less x.1 B = false → x.2 = first)
theorem Heart.start (q : Qm) (b : Bl) : Heart q false [] (fun _ => none) b := ⟨fun _ _ _ h => (by cases h), fun h => (by cases h)⟩
def voteL (x : Option (Bl × List UInt8)) : List Vt := match x with
  | none => []
  | some x => [⟨1, x.1, x.2⟩]
/-- The votes of the nodes of a set, below k. -/
def gather (vt : Vts) (P : Nat) : Nat → List Vt
  | 0 => []
  | k + 1 => gather vt P k ++ (if P.testBit k then voteL (vt k) else [])
theorem gather_mem {vt : Vts} {P : Nat} : ∀ {k : Nat} {v : Vt}, v ∈ gather vt P k → ∃ i, i < k ∧ P.testBit i = true ∧ vt i = some (v.bal, v.val) ∧ v.slot = 1
  | 0, v, h => by cases h
  | k + 1, v, h => by
    unfold gather at h
    rcases List.mem_append.1 h with h | h
    · obtain ⟨i, h1, h2⟩ := gather_mem h
      exact ⟨i, by omega, h2⟩
    · split at h
      · rename_i hb
        cases hv : vt k with
        | none => rw [hv] at h; cases h
        | some x =>
          rw [hv] at h
          unfold voteL at h
          rw [List.mem_singleton] at h
          subst h
          exact ⟨k, by omega, hb, hv, rfl⟩
      · cases h
theorem mem_gather {vt : Vts} {P : Nat} : ∀ {k i : Nat} {x : Bl × List UInt8}, i < k → P.testBit i = true → vt i = some x → (⟨1, x.1, x.2⟩ : Vt) ∈ gather vt P k
  | 0, i, x, h, _, _ => by omega
  | k + 1, i, x, h, hb, hv => by
    unfold gather
    by_cases hi : i = k
    · subst hi
      rw [if_pos hb, hv]
      simp [voteL]
    · exact List.mem_append_left _ (mem_gather (by omega) hb hv)
/-- What must be proposed, once something was chosen, is that. -/
theorem Heart.must {q : Qm} {first : List UInt8} {vt : Vts} {b : Bl} (h : Heart q true first vt b) (hr : q.right = 0) {P : Nat} (hP : q.isQ false P = true) {p : Pp} (ht : TI p 1 (gather vt P q.n)) : p.must 1 = some first := by
  obtain ⟨B, S, hS, h1, h2⟩ := h.safe rfl
  obtain ⟨i, hi, hPi, hSi⟩ := Qm.meets q hr hP hS
  obtain ⟨x, hx, hxB⟩ := h1 i hi hSi
  have hm := mem_gather hi hPi hx
  obtain ⟨hsome, hmust⟩ := ht.must
  have hpos : 0 < (gather vt P q.n).length := List.length_pos_of_mem hm
  rw [decide_eq_true hpos] at hsome
  obtain ⟨v, hv⟩ := Option.isSome_iff_exists.1 hsome
  obtain ⟨u, hu, huv, hall⟩ := hmust v hv
  obtain ⟨j, hj, _, huj, _⟩ := gather_mem hu
  have h3 := hall _ hm
  -- the greatest is not below x, and x is not below B
  have h4 : Bl.less u.bal B = false := Bl.less_trans_f (a := B) (b := x.1) (c := u.bal) hxB h3
  have := h2 j _ hj huj h4
  rw [hv, ← huv]
  exact congrArg some this
/-- The nodes of a set vote. -/
def castV (vt : Vts) (A : Nat) (b : Bl) (v : List UInt8) : Vts := fun i => if A.testBit i then some (b, v) else vt i
theorem Bl.less_tr {a b c : Bl} (h1 : Bl.less a b = true) (h2 : Bl.less b c = true) : Bl.less a c = true := by
  unfold Bl.less at *
  split at h1 <;> split at h2 <;> split <;> simp only [decide_eq_true_eq] at * <;> omega
theorem Heart.cast {q : Qm} (hr : q.right = 0) {won : Bool} {first v : List UInt8} {vt : Vts} {b b2 : Bl} (h : Heart q won first vt b) (hb : b.right = true) (hbn : b.n < 18446744073709551616) (hv : v.length ≤ 100) (hw : won = true → v = first) (A : Nat) (hlt : Bl.less b b2 = true) :
    Heart q won first (castV vt A b v) b2 ∧ (q.isQ true A = true → Heart q true v (castV vt A b v) b2) := by
  have hl : ∀ i x, i < q.n → castV vt A b v i = some x → Bl.less x.1 b2 = true ∧ x.1.right = true ∧ x.2.length ≤ 100 ∧ x.1.n < 18446744073709551616 := fun i x hi hx => by
    unfold castV at hx
    split at hx
    · injection hx with hx
      subst hx
      exact ⟨hlt, hb, hv, hbn⟩
    · have := h.less i x hi hx
      exact ⟨Bl.less_tr this.1 hlt, this.2⟩
  refine ⟨⟨hl, fun hw2 => ?_⟩, fun hA => ⟨hl, fun _ => ⟨b, A, hA, fun i _ hi2 => ⟨(b, v), by unfold castV; rw [if_pos hi2], Bl.less_self _⟩, fun i x hi hx hxb => ?_⟩⟩⟩
  · obtain ⟨B, S, hS, h1, h2⟩ := h.safe hw2
    have hBb : Bl.less b B = false := by
      by_cases hn : ∃ i, i < q.n ∧ S.testBit i = true
      · obtain ⟨i, hi, hSi⟩ := hn
        obtain ⟨x, hx, hxB⟩ := h1 i hi hSi
        have hxb := (h.less i x hi hx).1
        cases hc : Bl.less b B with
        | false => rfl
        | true => rw [Bl.less_tr hxb hc] at hxB; cases hxB
      · have : q.isQ true S = false := Qm.isQ_none q hr true fun i hi => by
          cases hc : S.testBit i with
          | false => rfl
          | true => exact absurd ⟨i, hi, hc⟩ hn
        rw [this] at hS
        cases hS
    refine ⟨B, S, hS, fun i hi hSi => ?_, fun i x hi hx hxB => ?_⟩
    · unfold castV
      split
      · exact ⟨_, rfl, hBb⟩
      · exact h1 i hi hSi
    · unfold castV at hx
      split at hx
      · injection hx with hx
        subst hx
        exact hw hw2
      · exact h2 i x hi hx hxB
  · unfold castV at hx
    split at hx
    · injection hx with hx
      subst hx
      rfl
    · have := (h.less i x hi hx).1
      rw [this] at hxb
      cases hxb
theorem Heart.next {q : Qm} {won : Bool} {first : List UInt8} {vt : Vts} {b b2 : Bl} (h : Heart q won first vt b) (hlt : Bl.less b b2 = true) : Heart q won first vt b2 := ⟨fun i x hi hx => by have := h.less i x hi hx; exact ⟨Bl.less_tr this.1 hlt, this.2⟩, h.safe⟩
end Go.Proofs.Ythkkkldkpdkabaa
