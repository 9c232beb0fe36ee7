/- Layer 10's laws: the chapter's examples. -/
import Derived.Test.YthkkkldkpdkabaaProO
import Derived.Lib.SlBytesConst
namespace Go.Proofs.Ythkkkldkpdkabaa
open Go.RowKit Go.Maps

def k0 : Pp := Pp.new kq3 ⟨5, 0⟩ 1
def kA : Pp := (k0.propose 1 []).2.2
def k1 : Pp := (kA.promise 0 []).2
def kV : Vt := ⟨1, ⟨3, 1⟩, [120]⟩
def k2 : Pp := (k1.promise 2 [kV]).2
def k3 : Pp := (k2.propose 1 [121]).2.2
def k4 : Pp := (k3.propose 2 [121]).2.2
def k5 : Pp := (k4.accepted 0 1).2
def k6 : Pp := (k5.accepted 1 1).2
theorem kr1 : (k0.propose 1 []).1 = 100 := by decide +kernel
theorem kr2 : (k1.promise 2 [kV]).1 = 0 := by decide +kernel
theorem kr3 : (k2.propose 1 [121]).1 = 0 ∧ (k2.propose 1 [121]).2.1.val = [120] := by decide +kernel
theorem kr4 : (k3.propose 2 [121]).1 = 0 ∧ (k3.propose 2 [121]).2.1.val = [121] := by decide +kernel
theorem kr5 : (k5.accepted 1 1).1 = 0 := by decide +kernel
theorem kr6 : k6.chosen 1 = some [120] := by decide +kernel
theorem kr7 : k6.pre = 1 ∧ k6.top = 1 := by decide +kernel
theorem kl0 : kA.told.length = 0 ∧ k1.told.length = 0 ∧ k0.props.length = 0 ∧ k2.props.length = 0 ∧ k3.props.length = 1 := by decide +kernel
theorem conv_bytesP (w : World) (C : Array Value) (n c g : Nat) (hg : g = w.heap.size) : (convert 39 39 (.slice (some ⟨g, 0, none⟩) n c)).run Try.prog (w.alloc (.cells C 5)) = .ok (.slice (some ⟨g, 0, none⟩) n c) (w.alloc (.cells C 5 (C.size, C.size + 1))) := by
  subst hg
  exact Lib.run_convert_bytes_const w 39 5 C n c Try.underlying39 Try.underlying5
theorem cell_mark (w : World) (v : Value) (t : TypeId) (fr : Nat × Nat) : (w.alloc (.cells #[v] t fr)).cell? ⟨w.heap.size, 0, none⟩ = some v := by rw [World.cell?_alloc_mark]; rfl
/-- One vote that the call made: its bytes in the block gb, the vote in the block gv. -/
theorem vsr_one {w : World} {gb gv : Nat} (hb : w.cell? ⟨gb, 0, none⟩ = some (.int .u8 120)) (hv : Bk w gv 48 #[.int .u64 1, .int .u64 3, .int .i64 1, .slice (some ⟨gb, 0, none⟩) 1 1]) : VsR w (fun k => k = gb ∨ k = gv) (some ⟨gv, 0, none⟩) 1 1 [(kV, (some ⟨gb, 0, none⟩, 1, 1))] := by
  refine ⟨rfl, ⟨Nat.le_refl _, by decide⟩, fun _ => ⟨gv, 0, rfl, .inr rfl, hv.lt, fun i hi => ?_⟩, fun e he => ?_⟩
  · have : i = 0 := by simp at hi; omega
    subst this
    exact ⟨hv.cell 0, hv.cell 1, hv.cell 2, hv.cell 3⟩
  · rw [List.mem_singleton] at he
    subst he
    refine ⟨Nat.le_refl _, (by decide : (1 : Nat) ≤ 9223372036854775807), ⟨rfl, fun _ => ⟨gb, 0, rfl, .inl rfl, World.block_lt_of_cell? w _ hb, fun j hj => ?_⟩⟩, (⟨by decide, by decide⟩ : kV.Num), (⟨by decide, by decide, by decide⟩ : kV.bal.Ok)⟩
    have : j = 0 := by simp [kV] at hj; omega
    subst this
    exact hb
theorem rd_one {w : World} {gb : Nat} {x : UInt8} {y : Int} (hy : (x.toNat : Int) = y) (hb : w.cell? ⟨gb, 0, none⟩ = some (.int .u8 y)) : Rd w w.heap.size (some ⟨gb, 0, none⟩) 1 [x] := by
  subst hy
  refine ⟨rfl, fun _ => ⟨gb, 0, rfl, World.block_lt_of_cell? w _ hb, fun j hj => ?_⟩⟩
  have : j = 0 := by simp at hj; omega
  subst this
  exact hb
theorem vsr_nil (w : World) (G : Nat → Prop) : VsR w G none 0 0 [] := VsR.nil w G none 0 (by decide)
theorem strs {w : World} {F : Nat → Prop} {B : Nat} {A : Option Addr} {c : Nat} {l : List UInt8} (h : Ap w F B (.slice A l.length c) l) : (convert 39 9 (.slice A l.length c)).run Try.prog w = .ok (.string ⟨l.toArray⟩) w := (Rd.of_own h.1).str Try.underlying39 Try.underlying5 Try.underlying9 c
/-- A vote in a block that lies apart from the proposer. -/
structure KpB (w : World) (F : Nat → Prop) (b : Nat) (cs : Array Value) : Prop where
  bk : Bk w b 48 cs
  off : ¬ F b
theorem KpB.mv {w w' : World} {F F' : Nat → Prop} {b : Nat} {cs : Array Value} (h : KpB w F b cs) (hm : Mv F F' w w') : KpB w' F' b cs := ⟨h.bk.kp hm.kp h.off, fun hf => by
  rcases hm.new b hf with h1 | h1
  · exact h.off h1
  · have := h.bk.lt; omega⟩
theorem KpB.below {w w' : World} {F : Nat → Prop} {b : Nat} {cs : Array Value} (h : KpB w F b cs) (hb : Below w.heap.size w w') : KpB w' F b cs := ⟨h.bk.below hb h.bk.lt, h.off⟩
theorem KpB.new {w : World} {F : Nat → Prop} (hlt : ∀ k, F k → k < w.heap.size) (cs : Array Value) : KpB (w.alloc (.cells cs 48)) F w.heap.size cs := ⟨Bk.new w _ cs, fun hf => by have := hlt _ hf; omega⟩
set_option maxRecDepth 100000 in
set_option maxHeartbeats 8000000 in
theorem known10_any (w : World) : Calls Try.prog 11 #[] w fun e w' => e = .returned (.bool true) ∧ Below w.heap.size w w' := by
  have HT := Lib.hid (three_any w)
  have HN := Lib.hid (fun W hb => OwP.new kq3 none 0 0 ⟨5, 0⟩ 1 w W hb (qi_kq3 W) kq3_right (by decide) (by decide) (by decide) (by decide) (by decide))
  have H1 : Hid (∀ W F g, OwP w W F g k0 → Calls Try.prog 20 #[.pointer (some ⟨g, 0, none⟩), .int .u64 1, .slice none 0 0] W fun e w' => ∃ F' A c s n d, e = .returned (.tuple #[.agg #[.int .u64 s, .int .u64 n, .int .i64 d, .slice A 0 c], .int .i64 100]) ∧ OwP w w' F' g kA) := Lib.hid fun W F g h => by
    refine (h.propose 1 (by decide) none 0 0 [] (by decide) (Rd.nil _ _ _) (by have := kl0.2.2.1; omega)).mono ?_
    rintro e w' ⟨F', A, c, rfl, ha, ho, hm⟩
    have hv : (k0.propose 1 []).2.1.val.length = 0 := by decide +kernel
    rw [kr1, hv]
    exact ⟨F', A, c, _, _, _, rfl, ho⟩
  have H2 : Hid (∀ W F g, OwP w W F g kA → Calls Try.prog 16 #[.pointer (some ⟨g, 0, none⟩), .int .i64 0, .slice none 0 0] W fun e w' => ∃ F' r, e = .returned (.int .i64 r) ∧ OwP w w' F' g k1) := Lib.hid fun W F g h => by
    refine (h.promise (vsr_nil W (fun _ => False)) (fun _ h => h.elim) (fun _ h => h.elim) (by have := kl0.1; omega) 0).mono ?_
    rintro e w' ⟨F', rfl, ho, hm⟩
    exact ⟨F', _, rfl, ho⟩
  have H3 : Hid (∀ W F g gb gv, OwP w W F g k1 → W.cell? ⟨gb, 0, none⟩ = some (.int .u8 120) → Bk W gv 48 #[.int .u64 1, .int .u64 3, .int .i64 1, .slice (some ⟨gb, 0, none⟩) 1 1] → ¬ F gb → ¬ F gv → Calls Try.prog 16 #[.pointer (some ⟨g, 0, none⟩), .int .i64 2, .slice (some ⟨gv, 0, none⟩) 1 1] W fun e w' => ∃ F', e = .returned (.int .i64 0) ∧ OwP w w' F' g k2) := Lib.hid fun W F g gb gv h hb hv h1 h2 => by
    refine (h.promise (vsr_one hb hv) (fun k hk => by rcases hk with rfl | rfl <;> assumption) (fun k hk => by rcases hk with rfl | rfl; exact World.block_lt_of_cell? W _ hb; exact hv.lt) (by have := kl0.2.1; omega) 2).mono ?_
    rintro e w' ⟨F', rfl, ho, hm⟩
    exact ⟨F', by rw [show (k1.promise 2 ([((kV, (some ⟨gb, 0, none⟩, 1, 1)) : Vtr)].map (·.1))).1 = 0 from kr2], ho⟩
  have H4 : Hid (∀ W F g gb, OwP w W F g k2 → W.cell? ⟨gb, 0, none⟩ = some (.int .u8 121) → Calls Try.prog 20 #[.pointer (some ⟨g, 0, none⟩), .int .u64 1, .slice (some ⟨gb, 0, none⟩) 1 1] W fun e w' => ∃ F' A c s n d, e = .returned (.tuple #[.agg #[.int .u64 s, .int .u64 n, .int .i64 d, .slice A 1 c], .int .i64 0]) ∧ Hid (OwP w w' F' g k3 ∧ Ap w' F' 0 (.slice A 1 c) [120])) := Lib.hid fun W F g gb h hb => by
    refine (h.propose 1 (by decide) (some ⟨gb, 0, none⟩) 1 1 [121] (by decide) (rd_one rfl hb) (by have := kl0.2.2.2.1; omega)).mono ?_
    rintro e w' ⟨F', A, c, rfl, ha, ho, hm⟩
    rw [kr3.1, kr3.2] at *
    exact ⟨F', A, c, _, _, _, rfl, Lib.hid ⟨ho, own_mono ha.1 (Nat.zero_le _), ha.2⟩⟩
  have H5 : Hid (∀ W F g gb, OwP w W F g k3 → W.cell? ⟨gb, 0, none⟩ = some (.int .u8 121) → Calls Try.prog 20 #[.pointer (some ⟨g, 0, none⟩), .int .u64 2, .slice (some ⟨gb, 0, none⟩) 1 1] W fun e w' => ∃ F' A c s n d, e = .returned (.tuple #[.agg #[.int .u64 s, .int .u64 n, .int .i64 d, .slice A 1 c], .int .i64 0]) ∧ Hid (OwP w w' F' g k4 ∧ Ap w' F' 0 (.slice A 1 c) [121] ∧ Mv F F' W w')) := Lib.hid fun W F g gb h hb => by
    refine (h.propose 2 (by decide) (some ⟨gb, 0, none⟩) 1 1 [121] (by decide) (rd_one rfl hb) (by have := kl0.2.2.2.2; omega)).mono ?_
    rintro e w' ⟨F', A, c, rfl, ha, ho, hm⟩
    rw [kr4.1, kr4.2] at *
    exact ⟨F', A, c, _, _, _, rfl, Lib.hid ⟨ho, ⟨own_mono ha.1 (Nat.zero_le _), ha.2⟩, hm⟩⟩
  have H6 : Hid (∀ W F g, OwP w W F g k4 → Calls Try.prog 24 #[.pointer (some ⟨g, 0, none⟩), .int .i64 0, .int .u64 1] W fun e w' => ∃ F' r, e = .returned (.int .i64 r) ∧ Hid (OwP w w' F' g k5 ∧ Mv F F' W w')) := Lib.hid fun W F g h => by
    refine (h.accepted 0 1 (by decide)).mono ?_
    rintro e w' ⟨F', rfl, ho, hm⟩
    exact ⟨F', _, rfl, Lib.hid ⟨ho, hm⟩⟩
  have H7 : Hid (∀ W F g, OwP w W F g k5 → Calls Try.prog 24 #[.pointer (some ⟨g, 0, none⟩), .int .i64 1, .int .u64 1] W fun e w' => ∃ F', e = .returned (.int .i64 0) ∧ Hid (OwP w w' F' g k6 ∧ Mv F F' W w')) := Lib.hid fun W F g h => by
    refine (h.accepted 1 1 (by decide)).mono ?_
    rintro e w' ⟨F', rfl, ho, hm⟩
    exact ⟨F', by rw [kr5], Lib.hid ⟨ho, hm⟩⟩
  have H8 : Hid (∀ W F g, OwP w W F g k6 → Calls Try.prog 25 #[.pointer (some ⟨g, 0, none⟩), .int .u64 1] W fun e w' => ∃ A c, e = .returned (.tuple #[.slice A 1 c, .bool true]) ∧ Hid (Ap w' F 0 (.slice A 1 c) [120] ∧ Below W.heap.size W w')) := Lib.hid fun W F g h => by
    refine (h.chosen 1 (by decide)).mono ?_
    rintro e w' ⟨A, c, rfl, ho, hb⟩
    rw [kr6] at ho ⊢
    exact ⟨A, c, rfl, Lib.hid ⟨Ap.new ho h.pm.lt (Nat.zero_le _), hb⟩⟩
  have H9 : Hid (∀ W F g, OwP w W F g k6 → Calls Try.prog 29 #[.pointer (some ⟨g, 0, none⟩)] W fun e w' => e = .returned (.int .u64 1) ∧ W = w') := Lib.hid fun W F g h => by
    refine h.pre.mono ?_
    rintro e w' ⟨rfl, rfl⟩
    exact ⟨by rw [kr7.1]; rfl, rfl⟩
  have H10 : Hid (∀ W F g, OwP w W F g k6 → Calls Try.prog 30 #[.pointer (some ⟨g, 0, none⟩)] W fun e w' => e = .returned (.int .u64 1) ∧ W = w') := Lib.hid fun W F g h => by
    refine h.top.mono ?_
    rintro e w' ⟨rfl, rfl⟩
    exact ⟨by rw [kr7.2]; rfl, rfl⟩
  have hq : qV kq3 (.slice none 0 0) = .agg #[.int .i64 1, .int .i64 3, .int .i64 2, .int .i64 2, .slice none 0 0] := rfl
  have hbl : blV ⟨5, 0⟩ = .agg #[.int .u64 5, .int .i64 0] := rfl
  rw [hq, hbl] at HN
  clear hq hbl
  go_enter Try.func11, Try.ntmps11
  go_wp2_with fail
  refine HT.out.mono ?_
  rintro e w1 ⟨rfl, hb1⟩
  have HB1 := Lib.hid hb1
  clear hb1
  go_wp2_with fail
  refine (HN.out w1 HB1.out).mono ?_
  rintro e w2 ⟨g, F0, rfl, ho⟩
  have HO := Lib.hid ho
  clear ho
  go_wp2_with fail
  refine (H1.out _ _ _ HO.out).mono ?_
  rintro e w3 ⟨F1, A1, c1, s1, n1, d1, rfl, ho⟩
  have HO1 := Lib.hid (ho.below (bel1P (.cells #[.int .u64 s1, .int .u64 n1, .int .i64 d1, .slice A1 0 c1] 48)))
  clear ho HO
  go_wp2_with fail
  refine (H2.out _ _ _ HO1.out).mono ?_
  rintro e w4 ⟨F2, r2, rfl, ho⟩
  have HO2 := Lib.hid ho
  clear ho HO1
  have kc := conv_bytesP
  have HS3 : Hid (Calls Try.prog 16 #[.pointer (some ⟨g, 0, none⟩), .int .i64 2, .slice (some ⟨w4.heap.size + 1, 0, none⟩) 1 1] ((w4.alloc (.cells #[.int .u8 120] 5 (1, 2))).alloc (.cells #[.int .u64 1, .int .u64 3, .int .i64 1, .slice (some ⟨w4.heap.size, 0, none⟩) 1 1] 48)) fun e w' => ∃ F', e = .returned (.int .i64 0) ∧ OwP w w' F' g k2) := by
    have ho := HO2.out
    have b1 : Below w4.heap.size w4 (w4.alloc (.cells #[.int .u8 120] 5 (1, 2))) := bel1P _
    have z1 : (w4.alloc (.cells #[.int .u8 120] 5 (1, 2))).heap.size = w4.heap.size + 1 := by simp
    have b2 : Below (w4.alloc (.cells #[.int .u8 120] 5 (1, 2))).heap.size (w4.alloc (.cells #[.int .u8 120] 5 (1, 2))) ((w4.alloc (.cells #[.int .u8 120] 5 (1, 2))).alloc (.cells #[.int .u64 1, .int .u64 3, .int .i64 1, .slice (some ⟨w4.heap.size, 0, none⟩) 1 1] 48)) := bel1P _
    have hv := Bk.new (w4.alloc (.cells #[.int .u8 120] 5 (1, 2))) 48 #[.int .u64 1, .int .u64 3, .int .i64 1, .slice (some ⟨w4.heap.size, 0, none⟩) 1 1]
    rw [z1] at hv
    refine Lib.hid (H3.out _ F2 g w4.heap.size (w4.heap.size + 1) (ho.below (below_then b1 b2)) ?_ hv (fun hf => by have := ho.pm.lt _ hf; omega) (fun hf => by have := ho.pm.lt _ hf; omega))
    rw [b2.cell (p := ⟨w4.heap.size, 0, none⟩) (by rw [z1]; show w4.heap.size < w4.heap.size + 1; omega)]
    exact cell_mark w4 _ _ _
  go_wp2_with fail
  refine HS3.out.mono ?_
  rintro e w5 ⟨F3, rfl, ho⟩
  have HO3 := Lib.hid ho
  clear ho HO2 HS3
  have HS4 := Lib.hid (H4.out (w5.alloc (.cells #[.int .u8 121] 5 (1, 2))) F3 g w5.heap.size (HO3.out.below (bel1P _)) (cell_mark w5 _ _ _))
  go_wp2_with fail
  refine HS4.out.mono ?_
  rintro e w6 ⟨F4, A4, c4, s4, n4, d4, rfl, HO4⟩
  have HO5 := Lib.hid (HO4.out.1.below (bel1P (.cells #[.int .u64 s4, .int .u64 n4, .int .i64 d4, .slice A4 1 c4] 48)))
  have HA5 := Lib.hid (HO4.out.2.below (bel1P (.cells #[.int .u64 s4, .int .u64 n4, .int .i64 d4, .slice A4 1 c4] 48)))
  have HK5 := Lib.hid (KpB.new HO4.out.1.pm.lt #[.int .u64 s4, .int .u64 n4, .int .i64 d4, .slice A4 1 c4])
  clear HS4 HO4 HO3
  have HS5 := Lib.hid (H5.out ((w6.alloc (.cells #[.int .u64 s4, .int .u64 n4, .int .i64 d4, .slice A4 1 c4] 48)).alloc (.cells #[.int .u8 121] 5 (1, 2))) F4 g (w6.alloc (.cells #[.int .u64 s4, .int .u64 n4, .int .i64 d4, .slice A4 1 c4] 48)).heap.size (HO5.out.below (bel1P _)) (cell_mark _ _ _ _))
  have HA6 := Lib.hid (HA5.out.below (bel1P (.cells #[.int .u8 121] 5 (1, 2))))
  have HK6 := Lib.hid (HK5.out.below (bel1P (.cells #[.int .u8 121] 5 (1, 2))))
  have HSz : Hid ((w6.alloc (.cells #[.int .u64 s4, .int .u64 n4, .int .i64 d4, .slice A4 1 c4] 48)).heap.size = w6.heap.size + 1) := Lib.hid (by simp)
  rw [HSz.out] at HS5
  clear HA5 HK5 HO5
  go_wp2_with fail
  refine HS5.out.mono ?_
  rintro e w7 ⟨F5, A5, c5, s5, n5, d5, rfl, HO7⟩
  have HA7 := Lib.hid ((HA6.out.mv HO7.out.2.2).below (bel1P (.cells #[.int .u64 s5, .int .u64 n5, .int .i64 d5, .slice A5 1 c5] 48)))
  have HK7 := Lib.hid ((HK6.out.mv HO7.out.2.2).below (bel1P (.cells #[.int .u64 s5, .int .u64 n5, .int .i64 d5, .slice A5 1 c5] 48)))
  have HO8 := Lib.hid (HO7.out.1.below (bel1P (.cells #[.int .u64 s5, .int .u64 n5, .int .i64 d5, .slice A5 1 c5] 48)))
  have HB8 := Lib.hid (HO7.out.2.1.below (bel1P (.cells #[.int .u64 s5, .int .u64 n5, .int .i64 d5, .slice A5 1 c5] 48)))
  have HL8 := Lib.hid (KpB.new HO7.out.1.pm.lt #[.int .u64 s5, .int .u64 n5, .int .i64 d5, .slice A5 1 c5])
  clear HS5 HO7 HA6 HK6 HSz kc
  go_wp2_with fail
  refine (H6.out _ _ _ HO8.out).mono ?_
  rintro e w8 ⟨F6, r6, rfl, HO9⟩
  have HA9 := Lib.hid (HA7.out.mv HO9.out.2)
  have HK9 := Lib.hid (HK7.out.mv HO9.out.2)
  have HB9 := Lib.hid (HB8.out.mv HO9.out.2)
  have HL9 := Lib.hid (HL8.out.mv HO9.out.2)
  clear HA7 HK7 HB8 HL8 HO8
  go_wp2_with fail
  refine (H7.out _ _ _ HO9.out.1).mono ?_
  rintro e w9 ⟨F7, rfl, HOa⟩
  have HAa := Lib.hid (HA9.out.mv HOa.out.2)
  have HKa := Lib.hid (HK9.out.mv HOa.out.2)
  have HBa := Lib.hid (HB9.out.mv HOa.out.2)
  have HLa := Lib.hid (HL9.out.mv HOa.out.2)
  clear HA9 HK9 HB9 HL9 HO9
  go_wp2_with fail
  refine (H8.out _ _ _ HOa.out.1).mono ?_
  rintro e wa ⟨A8, c8, rfl, HC⟩
  have HOb := Lib.hid (HOa.out.1.below HC.out.2)
  have HAb := (HAa.out.below HC.out.2)
  have HKb := (HKa.out.below HC.out.2)
  have HBb := (HBa.out.below HC.out.2)
  have HLb := (HLa.out.below HC.out.2)
  have t1 : (convert 39 9 (.slice A4 1 c4)).run Try.prog wa = .ok (.string ⟨#[120]⟩) wa := strs (l := [120]) HAb
  have t2 : (convert 39 9 (.slice A5 1 c5)).run Try.prog wa = .ok (.string ⟨#[121]⟩) wa := strs (l := [121]) HBb
  have t3 : (convert 39 9 (.slice A8 1 c8)).run Try.prog wa = .ok (.string ⟨#[120]⟩) wa := strs (l := [120]) HC.out.1
  have u1 : wa.cell? ⟨w6.heap.size, 3, none⟩ = some (.slice A4 1 c4) := HKb.bk.cell 3
  have u2 : wa.cell? ⟨w7.heap.size, 3, none⟩ = some (.slice A5 1 c5) := HLb.bk.cell 3
  have HD := Lib.hid HOb.out.bel
  clear HAa HKa HBa HLa HOa HC HAb HKb HBb HLb H1 H2 H3 H4 H5 H6 H7 H8 HT HN
  go_wp2_with fail
  refine (H9.out _ _ _ HOb.out).mono ?_
  rintro e wb ⟨rfl, rfl⟩
  go_wp2_with fail
  refine (H10.out _ _ _ HOb.out).mono ?_
  rintro e wb ⟨rfl, rfl⟩
  go_wp2
  go_ret
  exact ⟨rfl, HD.out⟩
end Go.Proofs.Ythkkkldkpdkabaa
