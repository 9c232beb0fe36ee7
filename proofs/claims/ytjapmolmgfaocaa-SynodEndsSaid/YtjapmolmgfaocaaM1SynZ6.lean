/- Of the proofs of layer 4, merged: SynZ6. -/
import Derived.Test.YtjapmolmgfaocaaM1SynZ5

/- Layer 11, plain: a round's start; what is promised and seen in it. -/
namespace Go.Proofs.Ytjapmolmgfaocaa

section
variable {r : Ro} {o : Nat} {b : Bl} {M : Nat} {x : Gh} {L : List UInt8 → Prop}
/-- The starter's ballot. -/
def Ro.nextB (r : Ro) (o : Nat) : Bl := ⟨(r.node o).seen + 1, (o : Int)⟩
theorem start_eq {v : List UInt8} (ho : o < r.nodes.length) (hv : v.length ≤ 100) (hs : (r.node o).seen < 4611686018427387904) :
    (r.start (o : Int) v).2.2 = (r.setN o ((r.node o).start r.q (r.nextB o) v)).sends r.nodes.length o 1 (r.nextB o) [] := by
  have hh : r.has (o : Int) = true := Ro.has_iff.2 ⟨by omega, by rw [Int.toNat_natCast]; exact ho⟩
  unfold Ro.start
  rw [if_neg (by rw [hh]; decide), if_neg (by omega), Int.toNat_natCast, if_neg (by omega)]
  rfl
/-- A round under way: what is promised is old or the starter's; who has no letter has seen the ballot. -/
structure Rd2 (r : Ro) (o : Nat) (b : Bl) (M : Nat) : Prop where
  rnd : Rnd r o b
  cap : ∀ i, (r.node i).prom.n ≤ max M b.n
  own : b.n ≤ (r.node o).seen
  one : ∀ i, i < r.nodes.length → (∃ m ∈ r.row, m.kind = 1 ∧ m.dst = i) ∨ b.n ≤ (r.node i).seen
theorem Rnd.start {v : List UInt8} (hr : r.row = []) (ho : o < r.nodes.length) (hn : r.nodes.length ≤ 12) (hv : v.length ≤ 100) (hs : (r.node o).seen < 4611686018427387904) (hc : ∀ i, (r.node i).prom.n ≤ max M (r.node o).seen) :
    Rd2 (r.start (o : Int) v).2.2 o (r.nextB o) M ∧ mu (r.start (o : Int) v).2.2 o ≤ 48 := by
  rw [start_eq ho hv hs]
  have hno := Ro.node_set r ((r.node o).start r.q (r.nextB o) v) ho
  have hnoo := hno o
  rw [if_pos rfl] at hnoo
  obtain ⟨s1, s2, s3⟩ := sends_has (r := r.setN o ((r.node o).start r.q (r.nextB o) v)) (f := o) (kd := 1) (b := r.nextB o) (vs := []) r.nodes.length (by show r.row.length + _ ≤ 200; rw [hr]; show 0 + _ ≤ 200; omega)
  refine ⟨⟨⟨by rw [sends_len, setN_len]; exact ho, fun m hm => ?_, by rw [Ro.sends_node, hnoo]; rfl⟩, fun i => ?_, by rw [Ro.sends_node, hnoo]; exact Nat.le_refl _, fun i hi => ?_⟩, ?_⟩
  · rcases sends_mem hm with h | ⟨j, _, rfl⟩
    · rw [show (r.setN o ((r.node o).start r.q (r.nextB o) v)).row = r.row from rfl, hr] at h
      cases h
    · exact ⟨rfl, .inl ⟨rfl, rfl⟩⟩
  · rw [Ro.sends_node, hno]
    have h1 : (r.nextB o).n = (r.node o).seen + 1 := rfl
    split
    · have := hc o
      show (r.node o).prom.n ≤ _
      omega
    · have := hc i
      omega
  · rw [sends_len, setN_len] at hi
    exact .inl ⟨_, s3 i hi, rfl, rfl⟩
  · have h1 := sends_sum (r.setN o ((r.node o).start r.q (r.nextB o) v)) o 1 (r.nextB o) [] r.nodes.length
    have h2 : sumW (r.setN o ((r.node o).start r.q (r.nextB o) v)).row = 0 := by
      show sumW r.row = 0
      rw [hr]; rfl
    have h3 : debt ((r.setN o ((r.node o).start r.q (r.nextB o) v)).sends r.nodes.length o 1 (r.nextB o) []) o ≤ 2 * r.nodes.length := by
      unfold debt
      rw [sends_len, setN_len]
      split
      · exact Nat.zero_le _
      split
      · exact Nat.zero_le _
      · exact Nat.le_refl _
    unfold mu
    omega
theorem Cov.start {v : List UInt8} (hok : r.Ok) (hr : r.row = []) (ho : o < r.nodes.length) (hn : r.nodes.length ≤ 12) (hv : v.length ≤ 100) (hs : (r.node o).seen < 4611686018427387904) (hc : ∀ i, (r.node i).prom.n ≤ (r.node o).seen) : Cov (r.start (o : Int) v).2.2 o (r.nextB o) := by
  obtain ⟨g1, g2⟩ := Rnd.start (M := 0) (v := v) hr ho hn hv hs (fun i => by have := hc i; omega)
  have htop0 : ∀ i, Bl.le (r.node i).prom (r.nextB o) := fun i => by
    refine Bl.le_of_less ?_
    have h1 := hc i
    have h2 : (r.nextB o).n = (r.node o).seen + 1 := rfl
    unfold Bl.less
    rw [if_neg (by omega), decide_eq_true (by omega)]
  refine ⟨g1.rnd, g2, ?_, ?_⟩
  · rw [start_eq ho hv hs]
    intro j
    rw [Ro.sends_node]
    exact top_set (n := (r.node o).start r.q (r.nextB o) v) htop0 (htop0 o) j
  · have hno := Ro.node_set r ((r.node o).start r.q (r.nextB o) v) ho o
    rw [if_pos rfl] at hno
    have hnr : (Pp.new r.q (r.nextB o) 1).ready = false := r.q.isQ_none hok.right false fun i _ => Nat.zero_testBit i
    rw [start_eq ho hv hs]
    refine ⟨Pp.new r.q (r.nextB o) 1, by rw [Ro.sends_node, hno]; rfl, fun _ => ⟨rfl, fun i hi => ?_⟩, fun _ m hm hm2 => ?_, fun e => (by rw [hnr] at e; cases e)⟩
    · obtain ⟨s1, s2, s3⟩ := sends_has (r := r.setN o ((r.node o).start r.q (r.nextB o) v)) (f := o) (kd := 1) (b := r.nextB o) (vs := []) r.nodes.length (by show r.row.length + _ ≤ 200; rw [hr]; show 0 + _ ≤ 200; omega)
      rw [sends_len, setN_len] at hi
      exact .inl ⟨_, s3 i hi, rfl, rfl⟩
    · rcases sends_mem hm with h | ⟨j, _, rfl⟩
      · rw [show (r.setN o ((r.node o).start r.q (r.nextB o) v)).row = r.row from rfl, hr] at h
        cases h
      · cases hm2
end
end Go.Proofs.Ytjapmolmgfaocaa
