/- Layer 7's laws: Same, long; segments that are handed in. -/
import Derived.Test.YtfdlhefbbhblnaaSesL
import Derived.Test.YtfdlhefbbhblnaaLaw
import Derived.Deep.SlicePairs
namespace Go.Proofs.Ytfdlhefbbhblnaa
open Go.ChangeShapes Go.WideShapes Go.ChangeAt Go.RowKit Go.Deep Go.Maps

def sameSg (a b : Sg) : Bool := decide (a.life = b.life) && decide (a.seq = b.seq) && decide (a.ack = b.ack) && decide (a.body = b.body)
theorem sameSg_self (a : Sg) : sameSg a a = true := by simp [sameSg]
theorem sameSg_eq {a b : Sg} : sameSg a b = true ↔ a = b := by
  obtain ⟨a1, a2, a3, a4⟩ := a
  obtain ⟨b1, b2, b3, b4⟩ := b
  simp [sameSg, and_assoc]

set_option maxRecDepth 100000 in
set_option maxHeartbeats 1000000 in
theorem sSame_any (p q : Sg) (A A' : Option Addr) (n c n' c' : Nat) (w : World) (h : Rd w w.heap.size A n p.body) (h' : Rd w w.heap.size A' n' q.body) :
    Calls Try.prog 27 #[sgV p (.slice A n c), sgV q (.slice A' n' c')] w fun e w' => e = .returned (.bool (sameSg p q)) ∧ Below w.heap.size w w' := by
  have hb : Below w.heap.size w ((w.alloc (.cells #[.int .u64 (p.life : Int), .int .u64 (p.seq : Int), .bool p.ack, .slice A n c] 36)).alloc (.cells #[.int .u64 (q.life : Int), .int .u64 (q.seq : Int), .bool q.ack, .slice A' n' c'] 36)) := ((Below.refl _ _).alloc (Nat.le_refl _) _).alloc (by simp) _
  have k1 := (h.up hb).str Try.underlying34 Try.underlying5 Try.underlying9 c
  have k2 := (h'.up hb).str Try.underlying34 Try.underlying5 Try.underlying9 c'
  have HB := Lib.hid hb
  obtain ⟨pl, ps, pa, pb⟩ := p
  obtain ⟨ql, qs, qa, qb⟩ := q
  unfold sgV sameSg
  dsimp only at *
  clear h h' hb
  by_cases hf : pl = ql
  · subst hf
    by_cases hd : ps = qs
    · subst hd
      by_cases ha : pa = qa
      · subst ha
        go_enter Try.func27, Try.ntmps27
        go_wp2
        go_ret
        refine ⟨?_, HB.out⟩
        have : (pb == qb) = decide (pb = qb) := by rw [Bool.eq_iff_iff]; simp
        simp [this]
      · have ha' : (pa == qa) = false := by cases pa <;> cases qa <;> first | rfl | exact absurd rfl ha
        go_enter Try.func27, Try.ntmps27
        go_wp2
        go_ret
        exact ⟨by simp [ha], HB.out⟩
    · have hd' : ¬ (ps : Int) = (qs : Int) := by omega
      go_enter Try.func27, Try.ntmps27
      go_wp2
      go_ret
      exact ⟨by simp [hd], HB.out⟩
  · have hf' : ¬ (pl : Int) = (ql : Int) := by omega
    go_enter Try.func27, Try.ntmps27
    go_wp2
    go_ret
    exact ⟨by simp [hf], HB.out⟩
set_option maxRecDepth 100000 in
set_option maxHeartbeats 400000 in
theorem slong_any (p : Sg) (A : Option Addr) (n c : Nat) (w : World) :
    Calls Try.prog 9 #[sgV p (.slice A n c)] w fun e w' => e = .returned (.bool (decide (3000 < n))) ∧ Below w.heap.size w w' := by
  obtain ⟨pl, ps, pa, pb⟩ := p
  unfold sgV
  dsimp only
  go_enter Try.func9, Try.ntmps9
  go_wp2
  go_ret
  exact ⟨by simp; omega, (Below.refl _ _).alloc (Nat.le_refl _) _⟩

/-- A slice of bytes, as it was read. -/
theorem bytes_of_trod7 {H : Type} {enc : TypeId × Value → H} {W : World} {v : Value} {fuel : Nat} {x : DataW H × List MemPlace} (hf : DataW.trod enc Try.prog W 0 (fun _ => true) true fuel 34 [v] = some x) :
    ∃ (A : Option Addr) (n c : Nat) (l : List UInt8), v = .slice A n c ∧ n ≤ c ∧ c ≤ 9223372036854775807 ∧ Rd W W.heap.size A n l := by
  rcases open_ints Try.underlying34 Try.underlying5 (by kernel_rfl) hf with ⟨hcs, _⟩ | ⟨x, l, c', zs, hcs, _, hl, hm, hz, _, hcell, hwz⟩
  · injection hcs with hcs
    exact ⟨none, 0, 0, [], hcs, by omega, by omega, Rd.nil _ _ _⟩
  · injection hcs with hcs
    have hz' : zs.length = c' := by simpa using hz
    refine ⟨some x, l, c', (zs.take l).map fun z => UInt8.ofNat z.toNat, hcs, hl, by unfold maxLen at hm; omega, by simp; omega, fun hn => ?_⟩
    obtain ⟨b, o, spot⟩ := x
    have hc0 := hcell 0 (by omega)
    have hspot : spot = none := by simpa [Addr.add] using World.cell?_spot hc0
    subst hspot
    refine ⟨b, o, rfl, World.block_lt_of_cell? W _ (by simpa [Addr.add] using hc0), fun j hj => ?_⟩
    have hj' : j < l := by simp at hj; omega
    have hcj := hcell j (by omega)
    rw [Addr.add_lit] at hcj
    rw [hcj]
    have hzj : zs.getD j 0 = zs[j]'(by omega) := by simp [List.getD, show j < zs.length by omega]
    have hw := hwz _ (List.getElem_mem (show j < zs.length by omega))
    have hb := bounds_u8 hw
    rw [hzj]
    simp only [List.getElem_map, List.getElem_take, UInt8.toNat_ofNat']
    congr 2
    omega
/-- A segment that was handed in. -/
structure Gs where
  s : Sg
  A : Option Addr
  n : Nat
  c : Nat
structure Gs.Ok (x : Gs) (w : World) (B : Nat) : Prop where
  ok : x.s.Ok
  cap : x.n ≤ x.c ∧ x.c ≤ 9223372036854775807
  body : Rd w B x.A x.n x.s.body
theorem Gs.Ok.below {x : Gs} {w w' : World} {B : Nat} (h : x.Ok w B) (hb : Below B w w') : x.Ok w' B := ⟨h.ok, h.cap, h.body.below hb⟩
def Gs.v (x : Gs) : Value := sgV x.s (.slice x.A x.n x.c)
theorem sg_of_trod {H : Type} {enc : TypeId × Value → H} {W : World} {u0 u1 u2 u3 : Value} {fuel : Nat} {y : DataW H × List MemPlace} (hf : DataW.trod enc Try.prog W 0 (fun _ => true) true fuel 36 [u0, u1, u2, u3] = some y) :
    ∃ x : Gs, x.Ok W W.heap.size ∧ u0 = .int .u64 (x.s.life : Int) ∧ u1 = .int .u64 (x.s.seq : Int) ∧ u2 = .bool x.s.ack ∧ u3 = .slice x.A x.n x.c := by
  obtain ⟨ys, n', hn', hy, hlen, hyl, hff⟩ := DataW.trod_struct Try.underlying36 hf
  have hyl' : ys.length = 4 := hyl
  have e3 : Try.prog.cellsOf 22 = 1 := by kernel_rfl
  have e4 : Try.prog.cellsOf 4 = 1 := by kernel_rfl
  have e6 : Try.prog.cellsOf 34 = 1 := by kernel_rfl
  have f0 : DataW.trod enc Try.prog W 0 (fun _ => true) true n' 22 (List.take (Try.prog.cellsOf 22) (List.drop 0 [u0, u1, u2, u3])) = ys[0]? := hff 0 _ rfl
  have f1 : DataW.trod enc Try.prog W 0 (fun _ => true) true n' 22 (List.take (Try.prog.cellsOf 22) (List.drop 1 [u0, u1, u2, u3])) = ys[1]? := hff 1 _ rfl
  have f2 : DataW.trod enc Try.prog W 0 (fun _ => true) true n' 4 (List.take (Try.prog.cellsOf 4) (List.drop 2 [u0, u1, u2, u3])) = ys[2]? := hff 2 _ rfl
  have f3 : DataW.trod enc Try.prog W 0 (fun _ => true) true n' 34 (List.take (Try.prog.cellsOf 34) (List.drop 3 [u0, u1, u2, u3])) = ys[3]? := hff 3 _ rfl
  rw [List.getElem?_eq_getElem (by omega)] at f0 f1 f2 f3
  simp only [e3, e4, e6, List.drop_zero, List.drop_succ_cons, List.take_succ_cons, List.take_zero] at f0 f1 f2 f3
  obtain ⟨z0, hz0, _, hw0⟩ := DataW.trod_int Try.underlying22 f0
  obtain ⟨z1, hz1, _, hw1⟩ := DataW.trod_int Try.underlying22 f1
  obtain ⟨z2, hz2, _⟩ := DataW.trod_bool Try.underlying4 f2
  obtain ⟨A, n, c, l, hv3, k1, k2, k3⟩ := bytes_of_trod7 f3
  injection hz0 with hz0
  injection hz1 with hz1
  injection hz2 with hz2
  have b0 := bounds_u64 hw0
  have b1 := bounds_u64 hw1
  obtain ⟨m0, rfl⟩ := Int.eq_ofNat_of_zero_le b0.1
  obtain ⟨m1, rfl⟩ := Int.eq_ofNat_of_zero_le b1.1
  exact ⟨⟨⟨m0, m1, z2, l⟩, A, n, c⟩, ⟨⟨by show m0 < _; omega, by show m1 < _; omega⟩, ⟨k1, k2⟩, k3⟩, hz0, hz1, hz2, hv3⟩
set_option maxRecDepth 100000 in
theorem given_sg {H : Type} {enc : TypeId × Value → H} {W : World} {base : Nat} {v : Value} {d : DataW H} {p : List MemPlace} (hv : Value.okWide Try.prog W .any base 36 v) (h : DataW.Trod enc Try.prog W 0 (fun _ => true) true 36 v d p) :
    ∃ x : Gs, x.Ok W W.heap.size ∧ v = x.v := by
  obtain ⟨cs, rfl, hcs⟩ := okWide_struct Try.underlying36 hv
  obtain ⟨fuel, hf⟩ := h
  have hC : Try.prog.cellsOf 36 = 4 := by kernel_rfl
  rw [hC] at hcs
  obtain ⟨l⟩ := cs
  match l, hcs with
  | [u0, u1, u2, u3], _ =>
    obtain ⟨x, hx, e0, e1, e2, e3⟩ := sg_of_trod hf
    exact ⟨x, hx, by rw [e0, e1, e2, e3]; rfl⟩
end Go.Proofs.Ytfdlhefbbhblnaa
