/- Of the proofs of layer 4, merged: SynZ2. -/
import Derived.Test.YtjapmolmgfaocaaM1SynZ

/- Layer 11, plain: a round of one starter ends: each letter taken lowers a measure. -/
namespace Go.Proofs.Ytjapmolmgfaocaa

def wt (m : Ml) : Nat := if m.kind = 1 ∨ m.kind = 3 then 2 else 1
def sumW (l : List Ml) : Nat := (l.map wt).sum
theorem wt_le (m : Ml) : wt m ≤ 2 := by unfold wt; split <;> omega
theorem sumW_app (a b : List Ml) : sumW (a ++ b) = sumW a + sumW b := by unfold sumW; rw [List.map_append, List.sum_append]
theorem sumW_cons (m : Ml) (l : List Ml) : sumW (m :: l) = wt m + sumW l := by unfold sumW; rw [List.map_cons, List.sum_cons]
theorem sumW_len (l : List Ml) : l.length ≤ sumW l := by
  induction l with
  | nil => exact Nat.zero_le _
  | cons m l ih =>
    rw [sumW_cons, List.length_cons]
    have : 1 ≤ wt m := by unfold wt; split <;> omega
    omega
def debt (r : Ro) (o : Nat) : Nat := match (r.node o).pro with | none => 0 | some p => if p.ready then 0 else 2 * r.nodes.length
def mu (r : Ro) (o : Nat) : Nat := sumW r.row + debt r o
structure Rnd (r : Ro) (o : Nat) (b : Bl) : Prop where
  oi : o < r.nodes.length
  row : ∀ m ∈ r.row, m.bal = b ∧ ((m.kind = 1 ∧ m.frm = o) ∨ (m.kind = 2 ∧ m.dst = o) ∨ (m.kind = 3 ∧ m.frm = o) ∨ (m.kind = 4 ∧ m.dst = o))
  bal : (r.node o).bal = b
section
variable {r : Ro} {o : Nat} {b : Bl}
theorem send_sum (r : Ro) (m : Ml) : sumW (r.send m).row ≤ sumW r.row + wt m := by
  unfold Ro.send
  split
  · exact Nat.le_add_right _ _
  · show sumW (r.row ++ [m]) ≤ _
    rw [sumW_app, sumW_cons]
    exact Nat.le_refl _
theorem sends_sum (r : Ro) (f kd : Nat) (b : Bl) (vs : List Vt) : ∀ k, sumW (r.sends k f kd b vs).row ≤ sumW r.row + 2 * k
  | 0 => Nat.le_refl _
  | k + 1 => by
    have h1 := sends_sum r f kd b vs k
    have h2 := send_sum (r.sends k f kd b vs) ⟨kd, f, k, b, vs⟩
    have h3 := wt_le ⟨kd, f, k, b, vs⟩
    show sumW ((r.sends k f kd b vs).send ⟨kd, f, k, b, vs⟩).row ≤ _
    omega
theorem send_mem {r : Ro} {m u : Ml} (h : u ∈ (r.send m).row) : u ∈ r.row ∨ u = m := by
  unfold Ro.send at h
  split at h
  · exact .inl h
  · rcases List.mem_append.1 h with h | h
    · exact .inl h
    · exact .inr (List.mem_singleton.1 h)
theorem sends_mem {r : Ro} {f kd : Nat} {b : Bl} {vs : List Vt} {u : Ml} : ∀ {k}, u ∈ (r.sends k f kd b vs).row → u ∈ r.row ∨ ∃ j, j < k ∧ u = ⟨kd, f, j, b, vs⟩
  | 0, h => .inl h
  | k + 1, h => by
    rcases send_mem h with h | h
    · rcases sends_mem h with h | ⟨j, hj, h⟩
      · exact .inl h
      · exact .inr ⟨j, by omega, h⟩
    · exact .inr ⟨k, by omega, h⟩
theorem setN_len (r : Ro) (i : Nat) (n : Nd) : (r.setN i n).nodes.length = r.nodes.length := by unfold Ro.setN; exact List.length_set ..
theorem send_len (r : Ro) (m : Ml) : (r.send m).nodes.length = r.nodes.length := by rw [(Ro.send_same r m).2]
theorem sends_len (r : Ro) (k f kd : Nat) (b : Bl) (vs : List Vt) : (r.sends k f kd b vs).nodes.length = r.nodes.length := by rw [(Ro.sends_same r k f kd b vs).2]
/-- A node's proposer and ballot behind a turn of a node that keeps both. -/
theorem setN_pro {i : Nat} {n : Nd} (hp : n.pro = (r.node i).pro) (hb : n.bal = (r.node i).bal) (o : Nat) : ((r.setN i n).node o).pro = (r.node o).pro ∧ ((r.setN i n).node o).bal = (r.node o).bal := by
  by_cases hi : i < r.nodes.length
  · rw [Ro.node_set r n hi]
    split
    · rename_i e
      rw [e]
      exact ⟨hp, hb⟩
    · exact ⟨rfl, rfl⟩
  · have : r.setN i n = r := by unfold Ro.setN; rw [List.set_eq_of_length_le (by omega)]
    rw [this]; exact ⟨rfl, rfl⟩
theorem promise_pb (n : Nd) (b : Bl) : (n.promise b).2.pro = n.pro ∧ (n.promise b).2.bal = n.bal := by
  unfold Nd.promise
  split <;> exact ⟨rfl, rfl⟩
theorem debt_same {r r' : Ro} (hp : (r'.node o).pro = (r.node o).pro) (hl : r'.nodes.length = r.nodes.length) : debt r' o = debt r o := by unfold debt; rw [hp, hl]
theorem propose_ready (p : Pp) (s : Nat) (own : List UInt8) : (p.propose s own).2.2.prom = p.prom ∧ (p.propose s own).2.2.q = p.q ∧ ((p.propose s own).1 = 0 → p.ready = true) := by
  unfold Pp.propose
  split
  · exact ⟨rfl, rfl, fun e => by cases e⟩
  · rename_i hr
    have hr' : p.ready = true := by simpa using hr
    split
    · exact ⟨rfl, rfl, fun _ => hr'⟩
    split
    · exact ⟨rfl, rfl, fun _ => hr'⟩
    split
    · exact ⟨rfl, rfl, fun _ => hr'⟩
    split
    · exact ⟨rfl, rfl, fun _ => hr'⟩
    · exact ⟨rfl, rfl, fun _ => hr'⟩
theorem accepted_ready (p : Pp) (n : Int) (s : Nat) : (p.accepted n s).2.ready = p.ready := by
  unfold Pp.accepted
  split
  · rfl
  split <;> rfl
/-- What a letter 2 does to what is owed. -/
theorem gather_debt (n : Nd) (m : Ml) : (n.gather m).2.bal = n.bal ∧ ((n.gather m).1 ≠ none → (∃ p, n.pro = some p ∧ p.ready = false) ∧ ∃ p, (n.gather m).2.pro = some p ∧ p.ready = true) ∧
    ((n.gather m).1 = none → (n.gather m).2.pro = n.pro ∨ ∃ p, n.pro = some p ∧ p.ready = false) := by
  unfold Nd.gather
  split
  · exact ⟨rfl, fun e => absurd rfl e, fun _ => .inl rfl⟩
  · rename_i p hp
    split
    · exact ⟨rfl, fun e => absurd rfl e, fun _ => .inl rfl⟩
    split
    · exact ⟨rfl, fun e => absurd rfl e, fun _ => .inl rfl⟩
    · rename_i hr
      have hr' : p.ready = false := by simpa using hr
      have hq := propose_ready (p.promise m.frm m.votes).2 1 n.own
      refine ⟨rfl, fun e => ⟨⟨p, hp, hr'⟩, _, rfl, ?_⟩, fun _ => .inr ⟨p, hp, hr'⟩⟩
      have h0 : ((p.promise m.frm m.votes).2.propose 1 n.own).1 = 0 := by
        by_cases h : ((p.promise m.frm m.votes).2.propose 1 n.own).1 = 0
        · exact h
        · exact absurd (if_neg h) e
      have h1 := hq.2.2 h0
      unfold Pp.ready at h1 ⊢
      rw [hq.1, hq.2.1]
      exact h1
theorem count_debt (n : Nd) (m : Ml) : (n.count m).bal = n.bal ∧ ((n.count m).pro = n.pro ∨ ∃ p p', n.pro = some p ∧ (n.count m).pro = some p' ∧ p'.ready = p.ready) := by
  unfold Nd.count
  split
  · exact ⟨rfl, .inl rfl⟩
  · rename_i p hp
    split
    · exact ⟨rfl, .inl rfl⟩
    split
    · exact ⟨rfl, .inr ⟨p, _, hp, rfl, accepted_ready p _ _⟩⟩
    · exact ⟨rfl, .inr ⟨p, _, hp, rfl, accepted_ready p _ _⟩⟩
/-- A letter comes: the measure falls by what it weighed, but one. -/
theorem Rnd.arrive (h : Rnd r o b) {m : Ml} (hm : m.bal = b ∧ ((m.kind = 1 ∧ m.frm = o) ∨ (m.kind = 2 ∧ m.dst = o) ∨ (m.kind = 3 ∧ m.frm = o) ∨ (m.kind = 4 ∧ m.dst = o))) : Rnd (r.arrive m) o b ∧ mu (r.arrive m) o + 1 ≤ mu r o + wt m := by
  have hpb := promise_pb (r.node m.dst) m.bal
  have h1 : Rnd (r.setN m.dst ((r.node m.dst).promise m.bal).2) o b := ⟨by rw [setN_len]; exact h.oi, h.row, by rw [(setN_pro hpb.1 hpb.2 o).2]; exact h.bal⟩
  have m1 : mu (r.setN m.dst ((r.node m.dst).promise m.bal).2) o = mu r o := by
    unfold mu
    rw [debt_same (setN_pro hpb.1 hpb.2 o).1 (setN_len _ _ _)]
    rfl
  have snd : ∀ {r1 : Ro} {u : Ml}, Rnd r1 o b → u.bal = b → ((u.kind = 2 ∧ u.dst = o) ∨ (u.kind = 4 ∧ u.dst = o)) → Rnd (r1.send u) o b ∧ mu (r1.send u) o ≤ mu r1 o + 1 := fun {r1 u} g hb hu => by
    refine ⟨⟨by rw [send_len]; exact g.oi, fun v hv => ?_, by rw [Ro.send_node]; exact g.bal⟩, ?_⟩
    · rcases send_mem hv with hv | rfl
      · exact g.row v hv
      · exact ⟨hb, by rcases hu with e | e
                      · exact .inr (.inl e)
                      · exact .inr (.inr (.inr e))⟩
    · have s1 := send_sum r1 u
      have s2 : wt u = 1 := by unfold wt; rw [if_neg (by rcases hu with e | e <;> omega)]
      unfold mu
      rw [debt_same (r := r1) (by rw [Ro.send_node]) (send_len _ _)]
      omega
  obtain ⟨hmb, hk⟩ := hm
  unfold Ro.arrive
  rcases hk with ⟨hk, hf⟩ | ⟨hk, hf⟩ | ⟨hk, hf⟩ | ⟨hk, hf⟩
  · have w1 : wt m = 2 := by unfold wt; rw [if_pos (.inl hk)]
    rw [if_pos hk]
    split
    · obtain ⟨g1, g2⟩ := snd (u := ⟨2, m.dst, m.frm, m.bal, ((r.node m.dst).promise m.bal).2.votes⟩) h1 hmb (.inl ⟨rfl, hf⟩)
      exact ⟨g1, by omega⟩
    · exact ⟨h1, by omega⟩
  · have w1 : wt m = 1 := by unfold wt; rw [if_neg (by omega)]
    rw [if_neg (by omega), if_pos hk]
    subst hf
    obtain ⟨g1, g2, g3⟩ := gather_debt (r.node m.dst) m
    have hno := Ro.node_set r ((r.node m.dst).gather m).2 h.oi m.dst
    rw [if_pos rfl] at hno
    have hR : Rnd (r.setN m.dst ((r.node m.dst).gather m).2) m.dst b := ⟨by rw [setN_len]; exact h.oi, h.row, by rw [hno, g1]; exact h.bal⟩
    split
    · rename_i v hv
      obtain ⟨⟨p, hp, hpr⟩, p', hp', hpr'⟩ := g2 (by rw [hv]; intro e; cases e)
      refine ⟨⟨by rw [sends_len]; exact hR.oi, fun u hu => ?_, by rw [Ro.sends_node]; exact hR.bal⟩, ?_⟩
      · rcases sends_mem hu with hu | ⟨j, hj, rfl⟩
        · exact hR.row u hu
        · exact ⟨hmb, .inr (.inr (.inl ⟨rfl, rfl⟩))⟩
      · have s1 := sends_sum (r.setN m.dst ((r.node m.dst).gather m).2) m.dst 3 m.bal [v] r.nodes.length
        have d1 : debt r m.dst = 2 * r.nodes.length := by unfold debt; rw [hp]; simp [hpr]
        have d2 : debt ((r.setN m.dst ((r.node m.dst).gather m).2).sends r.nodes.length m.dst 3 m.bal [v]) m.dst = 0 := by
          unfold debt
          rw [Ro.sends_node, hno, hp']
          simp [hpr']
        have e1 : sumW (r.setN m.dst ((r.node m.dst).gather m).2).row = sumW r.row := rfl
        unfold mu
        omega
    · rename_i hv
      refine ⟨hR, ?_⟩
      have e1 : sumW (r.setN m.dst ((r.node m.dst).gather m).2).row = sumW r.row := rfl
      have d2 : debt (r.setN m.dst ((r.node m.dst).gather m).2) m.dst ≤ debt r m.dst := by
        rcases g3 hv with e | ⟨p, hp, hpr⟩
        · rw [debt_same (r := r) (by rw [hno, e]) (setN_len _ _ _)]
          exact Nat.le_refl _
        · have d1 : debt r m.dst = 2 * r.nodes.length := by unfold debt; rw [hp]; simp [hpr]
          rw [d1]
          unfold debt
          rw [setN_len]
          split
          · exact Nat.zero_le _
          split
          · exact Nat.zero_le _
          · exact Nat.le_refl _
      unfold mu
      omega
  · have w1 : wt m = 2 := by unfold wt; rw [if_pos (.inr hk)]
    rw [if_neg (by omega), if_neg (by omega), if_pos hk]
    split
    · have hv : Rnd (r.setN m.dst { ((r.node m.dst).promise m.bal).2 with vote := m.votes.headD Vt.none_ }) o b := ⟨by rw [setN_len]; exact h.oi, h.row, by rw [(setN_pro (n := { ((r.node m.dst).promise m.bal).2 with vote := m.votes.headD Vt.none_ }) hpb.1 hpb.2 o).2]; exact h.bal⟩
      have m2 : mu (r.setN m.dst { ((r.node m.dst).promise m.bal).2 with vote := m.votes.headD Vt.none_ }) o = mu r o := by
        unfold mu
        rw [debt_same (setN_pro (n := { ((r.node m.dst).promise m.bal).2 with vote := m.votes.headD Vt.none_ }) hpb.1 hpb.2 o).1 (setN_len _ _ _)]
        rfl
      obtain ⟨g1, g2⟩ := snd (u := ⟨4, m.dst, m.frm, m.bal, []⟩) hv hmb (.inr ⟨rfl, hf⟩)
      exact ⟨g1, by omega⟩
    · exact ⟨h1, by omega⟩
  · have w1 : wt m = 1 := by unfold wt; rw [if_neg (by omega)]
    rw [if_neg (by omega), if_neg (by omega), if_neg (by omega), if_pos hk]
    subst hf
    obtain ⟨g1, g2⟩ := count_debt (r.node m.dst) m
    have hno := Ro.node_set r ((r.node m.dst).count m) h.oi m.dst
    rw [if_pos rfl] at hno
    refine ⟨⟨by rw [setN_len]; exact h.oi, h.row, by rw [hno, g1]; exact h.bal⟩, ?_⟩
    have e1 : sumW (r.setN m.dst ((r.node m.dst).count m)).row = sumW r.row := rfl
    have d2 : debt (r.setN m.dst ((r.node m.dst).count m)) m.dst = debt r m.dst := by
      rcases g2 with e | ⟨p, p', hp, hp', hr⟩
      · exact debt_same (by rw [hno, e]) (setN_len _ _ _)
      · unfold debt
        rw [hno, hp, hp', setN_len]
        simp only [hr]
    unfold mu
    omega
theorem take_head {m : Ml} {l : List Ml} (h : r.row = m :: l) : (r.take 0).2 = (r.cut 0).arrive m ∧ (r.cut 0).row = l := by
  have hi : r.is 0 = true := Ro.is_iff.2 ⟨Int.le_refl _, by rw [h]; simp⟩
  have ha : r.at_ 0 = m := by unfold Ro.at_; rw [h]; rfl
  refine ⟨?_, by unfold Ro.cut; rw [h]; rfl⟩
  unfold Ro.take
  rw [if_pos hi, ha]
  rfl
theorem Rnd.take (h : Rnd r o b) (hr : r.row ≠ []) : Rnd (r.take 0).2 o b ∧ mu (r.take 0).2 o + 1 ≤ mu r o := by
  obtain ⟨m, l, hml⟩ : ∃ m l, r.row = m :: l := by
    cases e : r.row with
    | nil => exact absurd e hr
    | cons m l => exact ⟨m, l, rfl⟩
  obtain ⟨e1, e2⟩ := take_head hml
  have hc : Rnd (r.cut 0) o b := ⟨h.oi, fun u hu => h.row u (by rw [e2] at hu; rw [hml]; exact List.mem_cons_of_mem _ hu), h.bal⟩
  obtain ⟨g1, g2⟩ := hc.arrive (h.row m (by rw [hml]; exact List.mem_cons_self ..))
  rw [e1]
  refine ⟨g1, ?_⟩
  have e3 : mu r o = wt m + mu (r.cut 0) o := by
    unfold mu
    rw [hml, sumW_cons, e2, show debt (r.cut 0) o = debt r o from rfl]
    omega
  omega
end
end Go.Proofs.Ytjapmolmgfaocaa
