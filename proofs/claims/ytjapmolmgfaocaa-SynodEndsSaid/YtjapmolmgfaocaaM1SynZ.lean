/- Of the proofs of layer 4, merged: SynZ. -/
import Derived.Test.YtjapmolmgfaocaaM1SynX3

/- Layer 11, plain: no ballot's number is above the number of starts. -/
namespace Go.Proofs.Ytjapmolmgfaocaa

structure Low (r : Ro) (S : Nat) : Prop where
  seen : ∀ i, (r.node i).seen ≤ S
  prom : ∀ i, (r.node i).prom.n ≤ S
  row : ∀ m ∈ r.row, m.bal.n ≤ S
section
variable {r : Ro} {S : Nat}
theorem Low.mono {T : Nat} (h : Low r S) (hs : S ≤ T) : Low r T := ⟨fun i => Nat.le_trans (h.seen i) hs, fun i => Nat.le_trans (h.prom i) hs, fun m hm => Nat.le_trans (h.row m hm) hs⟩
theorem Low.new (q : Qm) : Low (Ro.new q) 0 := by
  have hn : ∀ i, (Ro.new q).node i = Nd.zero := fun i => by
    unfold Ro.node Ro.new
    rw [List.getD_eq_getElem?_getD, List.getElem?_replicate]
    split <;> rfl
  exact ⟨fun i => by rw [hn]; exact Nat.le_refl _, fun i => by rw [hn]; exact Nat.le_refl _, fun m hm => (List.not_mem_nil hm).elim⟩
theorem Low.setN (h : Low r S) (i : Nat) {n : Nd} (h1 : n.seen ≤ S) (h2 : n.prom.n ≤ S) : Low (r.setN i n) S := by
  by_cases hi : i < r.nodes.length
  · refine ⟨fun j => ?_, fun j => ?_, h.row⟩
    · rw [Ro.node_set r n hi]
      split
      · exact h1
      · exact h.seen j
    · rw [Ro.node_set r n hi]
      split
      · exact h2
      · exact h.prom j
  · have : r.setN i n = r := by unfold Ro.setN; rw [List.set_eq_of_length_le (by omega)]
    rw [this]; exact h
theorem Low.send (h : Low r S) {m : Ml} (hm : m.bal.n ≤ S) : Low (r.send m) S := by
  refine ⟨fun i => by rw [Ro.send_node]; exact h.seen i, fun i => by rw [Ro.send_node]; exact h.prom i, fun u hu => ?_⟩
  unfold Ro.send at hu
  split at hu
  · exact h.row u hu
  · rcases List.mem_append.1 hu with hu | hu
    · exact h.row u hu
    · rw [List.mem_singleton.1 hu]; exact hm
theorem Low.sends (h : Low r S) (f kd : Nat) (b : Bl) (vs : List Vt) (hb : b.n ≤ S) : ∀ k, Low (r.sends k f kd b vs) S
  | 0 => h
  | k + 1 => (Low.sends h f kd b vs hb k).send hb
theorem Low.cut (h : Low r S) (k : Nat) : Low (r.cut k) S := ⟨h.seen, h.prom, fun m hm => h.row m ((List.eraseIdx_sublist _ _).subset hm)⟩
theorem Low.prom_ {n : Nd} {b : Bl} (h1 : n.seen ≤ S) (h2 : n.prom.n ≤ S) (hb : b.n ≤ S) : (n.promise b).2.seen ≤ S ∧ (n.promise b).2.prom.n ≤ S := by
  unfold Nd.promise
  split
  · exact ⟨Nat.max_le.2 ⟨h1, hb⟩, h2⟩
  · exact ⟨Nat.max_le.2 ⟨h1, hb⟩, hb⟩
theorem Low.gather_ (n : Nd) (m : Ml) : (n.gather m).2.seen = n.seen ∧ (n.gather m).2.prom = n.prom := by
  unfold Nd.gather
  split
  · exact ⟨rfl, rfl⟩
  split
  · exact ⟨rfl, rfl⟩
  split
  · exact ⟨rfl, rfl⟩
  · exact ⟨rfl, rfl⟩
theorem Low.count_ (n : Nd) (m : Ml) : (n.count m).seen = n.seen ∧ (n.count m).prom = n.prom := by
  unfold Nd.count
  split
  · exact ⟨rfl, rfl⟩
  split
  · exact ⟨rfl, rfl⟩
  split <;> exact ⟨rfl, rfl⟩
theorem Low.arrive (h : Low r S) {m : Ml} (hm : m.bal.n ≤ S) : Low (r.arrive m) S := by
  have hp := Low.prom_ (h.seen m.dst) (h.prom m.dst) hm
  have h1 : Low (r.setN m.dst ((r.node m.dst).promise m.bal).2) S := h.setN _ hp.1 hp.2
  unfold Ro.arrive
  split
  · split
    · exact h1.send hm
    · exact h1
  split
  · have hg := Low.gather_ (r.node m.dst) m
    have h2 : Low (r.setN m.dst ((r.node m.dst).gather m).2) S := h.setN _ (by rw [hg.1]; exact h.seen _) (by rw [hg.2]; exact h.prom _)
    split
    · exact h2.sends _ _ _ _ hm _
    · exact h2
  split
  · split
    · exact Low.send (h.setN m.dst (n := { ((r.node m.dst).promise m.bal).2 with vote := m.votes.headD Vt.none_ }) hp.1 hp.2) hm
    · exact h1
  split
  · have hc := Low.count_ (r.node m.dst) m
    exact h.setN _ (by rw [hc.1]; exact h.seen _) (by rw [hc.2]; exact h.prom _)
  · exact h
theorem Low.take (h : Low r S) (a : Int) : Low (r.take a).2 S := by
  unfold Ro.take
  split
  · rename_i hi
    exact (h.cut _).arrive (h.row _ (Ro.at_mem hi))
  · exact h
theorem Low.takes (h : Low r S) : ∀ k, Low (r.takes k) S
  | 0 => h
  | k + 1 => (Low.takes h k).take 0
theorem Low.start (h : Low r S) (a : Int) (v : List UInt8) : Low (r.start a v).2.2 (S + 1) := by
  have h' := h.mono (Nat.le_succ S)
  have hs := h.seen a.toNat
  have hp := h.prom a.toNat
  unfold Ro.start
  split
  · exact h'
  split
  · exact h'
  split
  · exact h'
  · exact (h'.setN _ (n := (r.node a.toNat).start r.q ⟨(r.node a.toNat).seen + 1, a⟩ v) (by show (r.node a.toNat).seen + 1 ≤ S + 1; omega) (by show (r.node a.toNat).prom.n ≤ S + 1; omega)).sends _ _ _ _ (by show (r.node a.toNat).seen + 1 ≤ S + 1; omega) _
theorem Low.play (h : Low r S) (kd a : Int) (v : List UInt8) (n : Nat) : Low (r.play kd a v n) (S + 1) := by
  have h' := h.mono (Nat.le_succ S)
  unfold Ro.play
  split
  · exact h.start _ v
  split
  · exact h'.take _
  split
  · unfold Ro.drop
    split
    · exact h'.cut _
    · exact h'
  split
  · unfold Ro.twice
    split
    · split
      · exact h'
      · rename_i hi _
        exact h'.send (h'.row _ (Ro.at_mem hi))
    · exact h'
  split
  · unfold Ro.crash
    split
    · exact h'.setN _ (n := (r.node (atN a n : Int).toNat).crash) (h'.seen _) (h'.prom _)
    · exact h'
  · exact h'.takes 60
end
end Go.Proofs.Ytjapmolmgfaocaa
