/- NetOwn is true at every packet. -/
import Derived.Test.YtfghbhjljbdlmaaNetGw
import Derived.Test.YtfghbhjljbdlmaaFam
import Derived.BigQuiet
import Derived.Deep.QuietTactic
namespace Go.Proofs.Ytfghbhjljbdlmaa
open Go.ChangeShapes Go.WideShapes Go.ChangeAt Go.RowKit

/-- Some packets, all the same. -/
def noS (l : List UInt8) (k : Nat) : Nt := ⟨1, List.replicate k ⟨0, 0, l⟩, []⟩
theorem no_send {l : List UInt8} (hl : l.length ≤ 1200) : (noS l 0).send ⟨0, 0, l⟩ = (0, noS l 1) := by
  have h1 : (noS l 0).node 0 = true := rfl
  have h2 : (noS l 0).parted 0 0 = false := rfl
  have h3 : (noS l 0).row.length = 0 := rfl
  unfold Nt.send
  simp only [h1, h2, h3]
  rw [if_neg (by decide), if_neg (by omega), if_neg (by decide), if_neg (by decide)]
  rfl
theorem no_twice1 (l : List UInt8) : (noS l 1).twice 0 = (true, noS l 2) := by rfl
theorem no_twice2 (l : List UInt8) : (noS l 2).twice 1 = (true, noS l 3) := by rfl
theorem no_look (l : List UInt8) : (noS l 3).look 0 = (⟨0, 0, l⟩, true) := by rfl
theorem no_look2 (l : List UInt8) : (noS l 3).look 2 = (⟨0, 0, l⟩, true) := by rfl
theorem no_look20 (l : List UInt8) : (noS l 2).look 0 = (⟨0, 0, l⟩, true) := by rfl
theorem no_look10 (l : List UInt8) : (noS l 1).look 0 = (⟨0, 0, l⟩, true) := by rfl
theorem no_take2 (l : List UInt8) : (noS l 3).take 2 = noS l 2 := by rfl
theorem no_take20 (l : List UInt8) : (noS l 2).take 0 = noS l 1 := by rfl
theorem no_take10 (l : List UInt8) : (noS l 1).take 0 = noS l 0 := by rfl

/-- What came so far: each packet in a block of its own, its body in another one; the packet that was handed in, in the block P. -/
structure OwnS (W w : World) (F : Nat → Prop) (g : Nat) (s : Nt) (l : List UInt8) (n P : Nat) (v : Value) (xs : List (Nat × Option Addr × Nat)) : Prop where
  nn : NN W w F g s
  len : l.length = n
  fam : Fam w (P + 1) (xs.map fun x => Value.slice x.2.1 n x.2.2) (List.replicate xs.length l)
  off : ∀ x ∈ xs, Apt w F x.1 ∧ ∀ k, (Value.slice x.2.1 n x.2.2).ownBlock = some k → Apt w F k
  blk : ∀ x ∈ xs, Bk w x.1 34 #[.int .i64 0, .int .i64 0, .slice x.2.1 n x.2.2]
  pk : Bk w P 34 #[.int .i64 0, .int .i64 0, v]
  pa : Apt w F P

theorem OwnS.mv {W w w' : World} {F F' : Nat → Prop} {g n P : Nat} {s s' : Nt} {l : List UInt8} {v : Value} {xs : List (Nat × Option Addr × Nat)} (h : OwnS W w F g s l n P v xs) (hn : NN W w' F' g s') (hm : Mv F F' w w') : OwnS W w' F' g s' l n P v xs := by
  refine ⟨hn, h.len, ⟨h.fam.len, fun i u hu => own_kp (h.fam.each i u hu) hm.kp fun k e hf => ?_, h.fam.apart⟩, fun x hx => ⟨(h.off x hx).1.mv hm, fun k e => ((h.off x hx).2 k e).mv hm⟩, fun x hx => (h.blk x hx).mv (h.off x hx).1 hm, h.pk.mv h.pa hm, h.pa.mv hm⟩
  obtain ⟨x, hx, rfl⟩ := List.mem_map.1 (List.mem_of_getElem? hu)
  exact ((h.off x hx).2 k e).off hf
theorem OwnS.below {W w w' : World} {F : Nat → Prop} {g n P : Nat} {s : Nt} {l : List UInt8} {v : Value} {xs : List (Nat × Option Addr × Nat)} (h : OwnS W w F g s l n P v xs) (hb : Below w.heap.size w w') : OwnS W w' F g s l n P v xs := h.mv (h.nn.below hb) (Mv.below hb)
theorem OwnS.come {W w w' : World} {F : Nat → Prop} {g n c P : Nat} {s s' : Nt} {l : List UInt8} {v : Value} {xs : List (Nat × Option Addr × Nat)} {A : Option Addr} (h : OwnS W w F g s l n P v xs) (hn : NN W w' F g s') (hm : Mv F F w w') (ho : w'.ownsRow w.heap.size 5 1 (.slice A n c) n (u8s l)) :
    OwnS W (w'.alloc (.cells #[.int .i64 0, .int .i64 0, .slice A n c] 34)) F g s' l n P v (xs ++ [(w'.heap.size, A, c)]) := by
  have h1 := h.mv hn hm
  have hlt : ∀ k, F k → k < w.heap.size := h.nn.lt
  have hz := hm.kp.size
  have hb : Below w'.heap.size w' (w'.alloc (.cells #[.int .i64 0, .int .i64 0, .slice A n c] 34)) := (Below.refl _ _).alloc (Nat.le_refl _) _
  have ho2 := own_below ho hb (fun k e => (ho.lt k e).2)
  have h2 := h1.below hb
  have hlen := h.len
  have hxl : (xs.map fun x => Value.slice x.2.1 n x.2.2).length = (List.replicate xs.length l).length := h.fam.len
  refine ⟨h2.nn, h.len, ?_, fun x hx => ?_, fun x hx => ?_, h2.pk, h2.pa⟩
  · rw [List.map_append, List.length_append, ← List.replicate_append_replicate]
    refine ⟨by simp, fun i u hu => ?_, fun i j u x hij hu hx => ?_⟩
    · rcases append_get hu with ⟨hi, hu⟩ | ⟨rfl, rfl⟩
      · have := h2.fam.each i u hu
        have e : (List.replicate xs.length l ++ List.replicate [(w'.heap.size, A, c)].length l).getD i [] = (List.replicate xs.length l).getD i [] := by
          simp at hi
          simp [List.getD, List.getElem?_append_left, hi]
        rw [e]
        exact this
      · have e : (List.replicate xs.length l ++ List.replicate [(w'.heap.size, A, c)].length l).getD (xs.map fun x => Value.slice x.2.1 n x.2.2).length [] = l := by simp [List.getD]
        rw [e, hlen]
        exact own_mono ho2 h.pk.lt
    · have hap : ∀ (i : Nat) (u : Value), (xs.map fun x => Value.slice x.2.1 n x.2.2)[i]? = some u → Apart u (.slice A n c) := by
        intro i u hu k hk hvk
        have h1 := ((h.fam.each i u hu).lt k hk).2
        have h2 := (ho.lt k hvk).1
        omega
      rcases append_get hu with ⟨_, hu'⟩ | ⟨rfl, rfl⟩
      · rcases append_get hx with ⟨_, hx'⟩ | ⟨rfl, rfl⟩
        · exact h.fam.apart i j u x hij hu' hx'
        · exact hap i u hu'
      · rcases append_get hx with ⟨_, hx'⟩ | ⟨rfl, rfl⟩
        · exact (hap j x hx').symm
        · exact absurd rfl hij
  · rcases List.mem_append.1 hx with hx | hx
    · exact h2.off x hx
    · rw [List.mem_singleton.1 hx]
      refine ⟨⟨by simp, fun hf => by have := hlt _ hf; simp at this; omega⟩, fun k e => ⟨by have := (ho2.lt k e).2; simpa using this, fun hf => by have := hlt _ hf; have := (ho2.lt k e).1; omega⟩⟩
  · rcases List.mem_append.1 hx with hx | hx
    · exact h2.blk x hx
    · rw [List.mem_singleton.1 hx]
      exact Bk.new w' 34 _

theorem OwnS.at_ {W w : World} {F : Nat → Prop} {g n P : Nat} {s : Nt} {l : List UInt8} {v : Value} {xs : List (Nat × Option Addr × Nat)} (h : OwnS W w F g s l n P v xs) {x : Nat × Option Addr × Nat} (hx : x ∈ xs) : Rd w w.heap.size x.2.1 n l := by
  obtain ⟨i, hi, rfl⟩ := List.mem_iff_getElem.1 hx
  have h1 := h.fam.each i (.slice xs[i].2.1 n xs[i].2.2) (by simp [hi])
  have e : (List.replicate xs.length l).getD i [] = l := by simp [List.getD, hi]
  rw [e] at h1
  rw [← h.len] at h1 ⊢
  exact Rd.of_own h1
theorem OwnS.same {W w : World} {F : Nat → Prop} {g n c P : Nat} {s : Nt} {l : List UInt8} {v : Value} {A : Option Addr} {xs : List (Nat × Option Addr × Nat)} (h : OwnS W w F g s l n P v xs) (hA : Rd W W.heap.size A n l) (x : Nat × Option Addr × Nat) (hx : x ∈ xs) :
    Calls Try.prog 22 #[.agg #[.int .i64 0, .int .i64 0, .slice x.2.1 n x.2.2], .agg #[.int .i64 0, .int .i64 0, .slice A n c]] w fun e w' => e = .returned (.bool true) ∧ Below w.heap.size w w' := by
  have := nSame_any ⟨0, 0, l⟩ ⟨0, 0, l⟩ x.2.1 A n x.2.2 n c w (h.at_ hx) ((hA.below h.nn.2.2).more h.nn.2.2.size)
  rw [samePk_self] at this
  exact this

set_option maxHeartbeats 8000000 in
set_option maxRecDepth 100000 in
theorem netOwn_walk (fr dt : Int) (l : List UInt8) (A : Option Addr) (n c : Nat) (w : World) (_hc : n ≤ c) (_hm : c ≤ 9223372036854775807) (hA : Rd w w.heap.size A n l) :
    Calls Try.prog 7 #[.agg #[.int .i64 fr, .int .i64 dt, .slice A n c]] w fun e w' => e = .returned (.bool true) ∧ Below w.heap.size w w' := by
  have HKn := Lib.hid netKnown_any
  have HA := Lib.hid hA
  have hl1 := hA.1
  have HN : Hid (∀ w, Calls Try.prog 15 #[.int .i64 1] w fun e w' => ∃ g F, e = .returned (.tuple #[.pointer (some ⟨g, 0, none⟩), .int .i64 0]) ∧ NN w w' F g (Nt.new 1)) := by
    exact Lib.hid fun w => nn_new 1 w (by decide) (by decide)
  obtain ⟨w0, hw0⟩ : ∃ w0, w0 = w.alloc (.cells #[.int .i64 fr, .int .i64 dt, .slice A n c] 34) := ⟨_, rfl⟩
  have hb0 : Below w.heap.size w w0 := by rw [hw0]; exact (Below.refl _ _).alloc (Nat.le_refl _) _
  have hk0 : Bk w0 w.heap.size 34 #[.int .i64 fr, .int .i64 dt, .slice A n c] := by rw [hw0]; exact Bk.new w 34 _
  have HL : Hid (Calls Try.prog 18 #[.agg #[.int .i64 fr, .int .i64 dt, .slice A n c]] w0 fun e w' => e = .returned (.bool (decide (3000 < n))) ∧ Below w0.heap.size w0 w') := Lib.hid (nlong_any ⟨fr, dt, l⟩ A n c w0)
  have c0 : w0.cell? ⟨w.heap.size, 0, none⟩ = some (.int .i64 fr) := hk0.cell 0
  have c1 : w0.cell? ⟨w.heap.size, 1, none⟩ = some (.int .i64 dt) := hk0.cell 1
  have c2 : w0.cell? ⟨w.heap.size, 2, none⟩ = some (.slice A n c) := hk0.cell 2
  have Hw0 := Lib.hid hw0
  have Hb0 := Lib.hid hb0
  have Hk0 := Lib.hid hk0
  have Hl1 := Lib.hid hl1
  obtain ⟨P, hP⟩ : ∃ P, P = w.heap.size := ⟨_, rfl⟩
  rw [← hP] at c0 c1 c2
  have HP := Lib.hid hP
  clear hA hw0 hb0 hk0 hl1 hP
  go_enter Try.func7, Try.ntmps7
  go_wp2_with fail
  rw [← Hw0.out]
  rw [← HP.out]
  refine HL.out.mono ?_
  rintro e w1 ⟨rfl, hb1⟩
  have hk1 := Hk0.out.below hb1 Hk0.out.lt
  have hbw1 := below_then Hb0.out hb1
  have d2 : w1.cell? ⟨P, 2, none⟩ = some (.slice A n c) := by rw [HP.out]; exact hk1.cell 2
  have Hk1 := Lib.hid hk1
  have Hbw1 := Lib.hid hbw1
  clear hk1 hbw1 hb1 c0 c1 c2 HL
  rcases (by omega : 3000 < n ∨ (¬ 3000 < n ∧ 1200 < n) ∨ (¬ 3000 < n ∧ ¬ 1200 < n)) with h1 | ⟨h1, h2⟩ | ⟨h1, h2⟩
  · rw [decide_eq_true h1]
    go_wp2_with fail
    refine (HKn.out _).mono ?_
    rintro e w2 ⟨rfl, hb2⟩
    have HB2 := Lib.hid (below_then Hbw1.out hb2)
    clear hb2
    go_wp2
    go_ret
    exact ⟨rfl, HB2.out⟩
  · rw [decide_eq_false h1]
    have m1 : (1200 : Int) < (n : Int) := by omega
    go_wp2_with fail
    refine (HKn.out _).mono ?_
    rintro e w2 ⟨rfl, hb2⟩
    have HB2 := Lib.hid (below_then Hbw1.out hb2)
    clear hb2
    go_wp2
    go_ret
    exact ⟨rfl, HB2.out⟩
  rw [decide_eq_false h1]
  have m1 : ¬ (1200 : Int) < (n : Int) := by omega
  go_wp2_with fail
  refine (HN.out w1).mono ?_
  clear HN
  rintro x w2 ⟨g, F, rfl, hn2⟩
  have hk2 := Hk1.out.below hn2.2.2 Hk1.out.lt
  have hP1 := Hk1.out.lt
  rw [← HP.out] at hk2 hP1
  have f0 : w2.cell? ⟨P, 0, none⟩ = some (.int .i64 fr) := hk2.cell 0
  have f1 : w2.cell? ⟨P, 1, none⟩ = some (.int .i64 dt) := hk2.cell 1
  have f2 : w2.cell? ⟨P, 2, none⟩ = some (.slice A n c) := hk2.cell 2
  have g0 := hk2.frozen 0
  have g1' := hk2.frozen 1
  have g1 := (hk2.set_ 0 (.int .i64 0)).frozen 1
  have hk3 := (hk2.set_ 0 (.int .i64 0)).set_ 1 (.int .i64 0)
  have hk3 : Bk ((w2.setCell ⟨P, 0, none⟩ (.int .i64 0)).setCell ⟨P, 1, none⟩ (.int .i64 0)) P 34 #[.int .i64 0, .int .i64 0, .slice A n c] := hk3
  have hkS : Kp (fun k => k = P) w2 ((w2.setCell ⟨P, 0, none⟩ (.int .i64 0)).setCell ⟨P, 1, none⟩ (.int .i64 0)) := (Kp.set_ (F := fun k => k = P) (p := ⟨P, 0, none⟩) rfl _).trans (Kp.set_ (F := fun k => k = P) (p := ⟨P, 1, none⟩) rfl _)
  have hPF : ¬ F P := fun hf => by have := hn2.2.1 P hf; omega
  have hs : Hid (OwnS w ((w2.setCell ⟨P, 0, none⟩ (.int .i64 0)).setCell ⟨P, 1, none⟩ (.int .i64 0)) F g (noS l 0) l n P (.slice A n c) []) := by
    have hPw := HP.out
    have q := Hbw1.out.size
    refine Lib.hid ⟨⟨hn2.1.kp hkS (fun k hf e => hPF (by rw [← e]; exact hf)), fun k hf => by have := hn2.2.1 k hf; omega, (below_then Hbw1.out hn2.2.2).trans (hkS.below (fun k e => by omega) (Nat.le_trans q hn2.2.2.size))⟩, Hl1.out, Fam.nil _ _, fun x hx => (List.not_mem_nil hx).elim, fun x hx => (List.not_mem_nil hx).elim, hk3, ⟨hk3.lt, hPF⟩⟩
  clear hk2 hk3 hkS hPF hn2 hP1 d2 Hk1
  obtain ⟨w3, hw3⟩ : ∃ w3, w3 = (w2.setCell ⟨P, 0, none⟩ (.int .i64 0)).setCell ⟨P, 1, none⟩ (.int .i64 0) := ⟨_, rfl⟩
  rw [← hw3] at hs
  have p0 : w3.cell? ⟨P, 0, none⟩ = some (.int .i64 0) := hs.out.pk.cell 0
  have p1 : w3.cell? ⟨P, 1, none⟩ = some (.int .i64 0) := hs.out.pk.cell 1
  have p2 : w3.cell? ⟨P, 2, none⟩ = some (.slice A n c) := hs.out.pk.cell 2
  have HS := hs.out.nn.acted (nSend_any g ⟨0, 0, l⟩ A n c (noS l 0) F w3 ((HA.out.below hs.out.nn.2.2).more hs.out.nn.2.2.size) hs.out.nn.1)
  rw [no_send (by rw [Hl1.out]; omega)] at HS
  unfold pkV at HS
  have HS := Lib.hid HS
  have Hw3 := Lib.hid hw3
  rw [hw3] at p0 p1 p2
  clear hw3
  go_wp2_with fail
  rw [← Hw3.out]
  refine HS.out.mono ?_
  rintro e w4 ⟨rfl, F4, hn4, hm4⟩
  have hs4 := Lib.hid (hs.out.mv hn4 hm4)
  have HT := hn4.acted (nTwice_any g 0 _ F4 w4 hn4.1)
  rw [no_twice1] at HT
  have HT := Lib.hid HT
  clear HS Hw3 hn4 hm4 p0 p1 p2 hs g0 g1 g1' f0 f1 f2
  go_wp2_with fail
  refine HT.out.mono ?_
  rintro e w5 ⟨rfl, F5, hn5, hm5⟩
  have hs5 := Lib.hid (hs4.out.mv hn5 hm5)
  have HT5 := hn5.acted (nTwice_any g 1 _ F5 w5 hn5.1)
  rw [no_twice2] at HT5
  have HT5 := Lib.hid HT5
  clear HT hn5 hm5 hs4
  go_wp2_with fail
  refine HT5.out.mono ?_
  rintro e w6 ⟨rfl, F6, hn6, hm6⟩
  have hs6 := Lib.hid (hs5.out.mv hn6 hm6)
  have HL6 := hn6.look 0
  rw [no_look] at HL6
  unfold pkV at HL6
  have HL6 := Lib.hid HL6
  clear HT5 hn6 hm6 hs5
  go_wp2_with fail
  refine HL6.out.mono ?_
  rintro e w7 ⟨b, rfl, ho, hn, hm⟩
  obtain ⟨A1, c1, rfl, _⟩ := own_shape ho
  have ho : w7.ownsRow w6.heap.size 5 1 (.slice A1 l.length c1) l.length (u8s l) := ho
  rw [Hl1.out] at ho
  have hs7 := Lib.hid (hs6.out.come hn (Mv.below hm) ho)
  have el : (({ frm := 0, dst := 0, body := l } : Pk).body.length) = n := Hl1.out
  simp only [el]
  obtain ⟨v7, hv7⟩ : ∃ v, v = w7.alloc (.cells #[.int .i64 0, .int .i64 0, .slice A1 n c1] 34) := ⟨_, rfl⟩
  rw [← hv7] at hs7
  have Hv7 := Lib.hid hv7
  have HL7 := hs7.out.nn.look 0
  rw [no_look] at HL7
  unfold pkV at HL7
  have HL7 := Lib.hid HL7
  clear hn hm ho hs6 HL6 hv7 el
  go_wp2_with fail
  rw [← Hv7.out]
  refine HL7.out.mono ?_
  rintro e w8 ⟨b, rfl, ho, hn, hm⟩
  obtain ⟨A2, c2, rfl, _⟩ := own_shape ho
  have ho : w8.ownsRow v7.heap.size 5 1 (.slice A2 l.length c2) l.length (u8s l) := ho
  rw [Hl1.out] at ho
  have hs8 := Lib.hid (hs7.out.come hn (Mv.below hm) ho)
  have el : (({ frm := 0, dst := 0, body := l } : Pk).body.length) = n := Hl1.out
  simp only [el]
  obtain ⟨v8, hv8⟩ : ∃ v, v = w8.alloc (.cells #[.int .i64 0, .int .i64 0, .slice A2 n c2] 34) := ⟨_, rfl⟩
  rw [← hv8] at hs8
  have Hv8 := Lib.hid hv8
  have HL8 := hs8.out.nn.take 2
  rw [no_look2, no_take2] at HL8
  unfold pkV at HL8
  have HL8 := Lib.hid HL8
  clear hn hm ho hs7 HL7 hv8 el
  go_wp2_with fail
  rw [← Hv8.out]
  refine HL8.out.mono ?_
  rintro e w9 ⟨b, rfl, ho, hn, hm⟩
  obtain ⟨A3, c3, rfl, _⟩ := own_shape ho
  have ho : w9.ownsRow v8.heap.size 5 1 (.slice A3 l.length c3) l.length (u8s l) := ho
  rw [Hl1.out] at ho
  have hs9 := Lib.hid (hs8.out.come hn hm ho)
  have el : (({ frm := 0, dst := 0, body := l } : Pk).body.length) = n := Hl1.out
  simp only [el]
  obtain ⟨v9, hv9⟩ : ∃ v, v = w9.alloc (.cells #[.int .i64 0, .int .i64 0, .slice A3 n c3] 34) := ⟨_, rfl⟩
  rw [← hv9] at hs9
  have Hv9 := Lib.hid hv9
  have HL9 := hs9.out.nn.take 0
  rw [no_look20, no_take20] at HL9
  unfold pkV at HL9
  have HL9 := Lib.hid HL9
  clear hn hm ho hs8 HL8 hv9 el
  go_wp2_with fail
  rw [← Hv9.out]
  refine HL9.out.mono ?_
  rintro e w10 ⟨b, rfl, ho, hn, hm⟩
  obtain ⟨A4, c4, rfl, _⟩ := own_shape ho
  have ho : w10.ownsRow v9.heap.size 5 1 (.slice A4 l.length c4) l.length (u8s l) := ho
  rw [Hl1.out] at ho
  have hs10 := Lib.hid (hs9.out.come hn hm ho)
  have el : (({ frm := 0, dst := 0, body := l } : Pk).body.length) = n := Hl1.out
  simp only [el]
  obtain ⟨v10, hv10⟩ : ∃ v, v = w10.alloc (.cells #[.int .i64 0, .int .i64 0, .slice A4 n c4] 34) := ⟨_, rfl⟩
  rw [← hv10] at hs10
  have Hv10 := Lib.hid hv10
  have HL10 := hs10.out.nn.take 0
  rw [no_look10, no_take10] at HL10
  unfold pkV at HL10
  have HL10 := Lib.hid HL10
  clear hn hm ho hs9 HL9 hv10 el
  go_wp2_with fail
  rw [← Hv10.out]
  refine HL10.out.mono ?_
  rintro e w11 ⟨b, rfl, ho, hn, hm⟩
  obtain ⟨A5, c5, rfl, _⟩ := own_shape ho
  have ho : w11.ownsRow v10.heap.size 5 1 (.slice A5 l.length c5) l.length (u8s l) := ho
  rw [Hl1.out] at ho
  have hs11 := Lib.hid (hs10.out.come hn hm ho)
  have el : (({ frm := 0, dst := 0, body := l } : Pk).body.length) = n := Hl1.out
  simp only [el]
  obtain ⟨v11, hv11⟩ : ∃ v, v = w11.alloc (.cells #[.int .i64 0, .int .i64 0, .slice A5 n c5] 34) := ⟨_, rfl⟩
  rw [← hv11] at hs11
  have Hv11 := Lib.hid hv11
  clear hn hm ho hs10 HL10 hv11 el
  simp only [List.nil_append, List.cons_append] at hs11
  have x0 : v11.cell? ⟨w7.heap.size, 0, none⟩ = some (.int .i64 0) := (hs11.out.blk (w7.heap.size, A1, c1) (by simp)).cell 0
  have p0 : v11.cell? ⟨P, 0, none⟩ = some (.int .i64 0) := hs11.out.pk.cell 0
  have x1 : v11.cell? ⟨w7.heap.size, 1, none⟩ = some (.int .i64 0) := (hs11.out.blk (w7.heap.size, A1, c1) (by simp)).cell 1
  have p1 : v11.cell? ⟨P, 1, none⟩ = some (.int .i64 0) := hs11.out.pk.cell 1
  have x2 : v11.cell? ⟨w7.heap.size, 2, none⟩ = some (.slice A1 n c1) := (hs11.out.blk (w7.heap.size, A1, c1) (by simp)).cell 2
  have p2 : v11.cell? ⟨P, 2, none⟩ = some (.slice A n c) := hs11.out.pk.cell 2
  have HC : Hid (Calls Try.prog 22 #[.agg #[.int .i64 0, .int .i64 0, .slice A1 n c1], .agg #[.int .i64 0, .int .i64 0, .slice A n c]] v11 fun e w' => e = .returned (.bool true) ∧ Below v11.heap.size v11 w') := Lib.hid (hs11.out.same HA.out (w7.heap.size, A1, c1) (by simp))
  have hv11 := Hv11.out
  rw [hv11] at x0 x1 x2 p0 p1 p2
  clear hv11
  go_wp2_with fail
  rw [← Hv11.out]
  refine HC.out.mono ?_
  rintro e u1 ⟨rfl, hb⟩
  have ht1 := Lib.hid (hs11.out.below hb)
  clear hb HC x0 x1 x2 p0 p1 p2 hs11
  have x0 : u1.cell? ⟨w8.heap.size, 0, none⟩ = some (.int .i64 0) := (ht1.out.blk (w8.heap.size, A2, c2) (by simp)).cell 0
  have p0 : u1.cell? ⟨P, 0, none⟩ = some (.int .i64 0) := ht1.out.pk.cell 0
  have x1 : u1.cell? ⟨w8.heap.size, 1, none⟩ = some (.int .i64 0) := (ht1.out.blk (w8.heap.size, A2, c2) (by simp)).cell 1
  have p1 : u1.cell? ⟨P, 1, none⟩ = some (.int .i64 0) := ht1.out.pk.cell 1
  have x2 : u1.cell? ⟨w8.heap.size, 2, none⟩ = some (.slice A2 n c2) := (ht1.out.blk (w8.heap.size, A2, c2) (by simp)).cell 2
  have p2 : u1.cell? ⟨P, 2, none⟩ = some (.slice A n c) := ht1.out.pk.cell 2
  have HC : Hid (Calls Try.prog 22 #[.agg #[.int .i64 0, .int .i64 0, .slice A2 n c2], .agg #[.int .i64 0, .int .i64 0, .slice A n c]] u1 fun e w' => e = .returned (.bool true) ∧ Below u1.heap.size u1 w') := Lib.hid (ht1.out.same HA.out (w8.heap.size, A2, c2) (by simp))
  go_wp2_with fail
  refine HC.out.mono ?_
  rintro e u2 ⟨rfl, hb⟩
  have ht2 := Lib.hid (ht1.out.below hb)
  clear hb HC x0 x1 x2 p0 p1 p2 ht1
  have x0 : u2.cell? ⟨w9.heap.size, 0, none⟩ = some (.int .i64 0) := (ht2.out.blk (w9.heap.size, A3, c3) (by simp)).cell 0
  have p0 : u2.cell? ⟨P, 0, none⟩ = some (.int .i64 0) := ht2.out.pk.cell 0
  have x1 : u2.cell? ⟨w9.heap.size, 1, none⟩ = some (.int .i64 0) := (ht2.out.blk (w9.heap.size, A3, c3) (by simp)).cell 1
  have p1 : u2.cell? ⟨P, 1, none⟩ = some (.int .i64 0) := ht2.out.pk.cell 1
  have x2 : u2.cell? ⟨w9.heap.size, 2, none⟩ = some (.slice A3 n c3) := (ht2.out.blk (w9.heap.size, A3, c3) (by simp)).cell 2
  have p2 : u2.cell? ⟨P, 2, none⟩ = some (.slice A n c) := ht2.out.pk.cell 2
  have HC : Hid (Calls Try.prog 22 #[.agg #[.int .i64 0, .int .i64 0, .slice A3 n c3], .agg #[.int .i64 0, .int .i64 0, .slice A n c]] u2 fun e w' => e = .returned (.bool true) ∧ Below u2.heap.size u2 w') := Lib.hid (ht2.out.same HA.out (w9.heap.size, A3, c3) (by simp))
  go_wp2_with fail
  refine HC.out.mono ?_
  rintro e u3 ⟨rfl, hb⟩
  have ht3 := Lib.hid (ht2.out.below hb)
  clear hb HC x0 x1 x2 p0 p1 p2 ht2
  have x0 : u3.cell? ⟨w10.heap.size, 0, none⟩ = some (.int .i64 0) := (ht3.out.blk (w10.heap.size, A4, c4) (by simp)).cell 0
  have p0 : u3.cell? ⟨P, 0, none⟩ = some (.int .i64 0) := ht3.out.pk.cell 0
  have x1 : u3.cell? ⟨w10.heap.size, 1, none⟩ = some (.int .i64 0) := (ht3.out.blk (w10.heap.size, A4, c4) (by simp)).cell 1
  have p1 : u3.cell? ⟨P, 1, none⟩ = some (.int .i64 0) := ht3.out.pk.cell 1
  have x2 : u3.cell? ⟨w10.heap.size, 2, none⟩ = some (.slice A4 n c4) := (ht3.out.blk (w10.heap.size, A4, c4) (by simp)).cell 2
  have p2 : u3.cell? ⟨P, 2, none⟩ = some (.slice A n c) := ht3.out.pk.cell 2
  have HC : Hid (Calls Try.prog 22 #[.agg #[.int .i64 0, .int .i64 0, .slice A4 n c4], .agg #[.int .i64 0, .int .i64 0, .slice A n c]] u3 fun e w' => e = .returned (.bool true) ∧ Below u3.heap.size u3 w') := Lib.hid (ht3.out.same HA.out (w10.heap.size, A4, c4) (by simp))
  go_wp2_with fail
  refine HC.out.mono ?_
  rintro e u4 ⟨rfl, hb⟩
  have ht4 := Lib.hid (ht3.out.below hb)
  clear hb HC x0 x1 x2 p0 p1 p2 ht3
  have x0 : u4.cell? ⟨w11.heap.size, 0, none⟩ = some (.int .i64 0) := (ht4.out.blk (w11.heap.size, A5, c5) (by simp)).cell 0
  have p0 : u4.cell? ⟨P, 0, none⟩ = some (.int .i64 0) := ht4.out.pk.cell 0
  have x1 : u4.cell? ⟨w11.heap.size, 1, none⟩ = some (.int .i64 0) := (ht4.out.blk (w11.heap.size, A5, c5) (by simp)).cell 1
  have p1 : u4.cell? ⟨P, 1, none⟩ = some (.int .i64 0) := ht4.out.pk.cell 1
  have x2 : u4.cell? ⟨w11.heap.size, 2, none⟩ = some (.slice A5 n c5) := (ht4.out.blk (w11.heap.size, A5, c5) (by simp)).cell 2
  have p2 : u4.cell? ⟨P, 2, none⟩ = some (.slice A n c) := ht4.out.pk.cell 2
  have HC : Hid (Calls Try.prog 22 #[.agg #[.int .i64 0, .int .i64 0, .slice A5 n c5], .agg #[.int .i64 0, .int .i64 0, .slice A n c]] u4 fun e w' => e = .returned (.bool true) ∧ Below u4.heap.size u4 w') := Lib.hid (ht4.out.same HA.out (w11.heap.size, A5, c5) (by simp))
  go_wp2_with fail
  refine HC.out.mono ?_
  rintro e u5 ⟨rfl, hb⟩
  have ht5 := Lib.hid (ht4.out.below hb)
  clear hb HC x0 x1 x2 p0 p1 p2 ht4
  have HO := (ht5.out.fam).lit (cs := #[.slice A1 n c1, .slice A2 n c2, .slice A3 n c3, .slice A4 n c4, .slice A5 n c5]) rfl (K := 5) rfl (g := u5.heap.size) rfl ht5.out.pk.lt (by omega) (fun x hx => by rw [List.eq_of_mem_replicate hx, Hl1.out]; omega)
  have HO := Lib.hid HO
  have y1 : u5.cell? ⟨w7.heap.size, 2, none⟩ = some (.slice A1 n c1) := (ht5.out.blk (w7.heap.size, A1, c1) (by simp)).cell 2
  have y2 : u5.cell? ⟨w8.heap.size, 2, none⟩ = some (.slice A2 n c2) := (ht5.out.blk (w8.heap.size, A2, c2) (by simp)).cell 2
  have y3 : u5.cell? ⟨w9.heap.size, 2, none⟩ = some (.slice A3 n c3) := (ht5.out.blk (w9.heap.size, A3, c3) (by simp)).cell 2
  have y4 : u5.cell? ⟨w10.heap.size, 2, none⟩ = some (.slice A4 n c4) := (ht5.out.blk (w10.heap.size, A4, c4) (by simp)).cell 2
  have y5 : u5.cell? ⟨w11.heap.size, 2, none⟩ = some (.slice A5 n c5) := (ht5.out.blk (w11.heap.size, A5, c5) (by simp)).cell 2
  go_wp2_with fail
  refine HO.out.mono ?_
  rintro e z1 ⟨rfl, hb⟩
  have hP5 := HP.out
  have hl5 := ht5.out.pk.lt
  have hz1 := Lib.hid (ht5.out.nn.2.2.trans (((Below.refl _ _).alloc ht5.out.nn.2.2.size _).trans (hb.mono (by omega))))
  have hk1 := Lib.hid ((ht5.out.pk.below ((Below.refl _ _).alloc (Nat.le_refl _) _) hl5).below hb (by omega))
  have HTk : Hid (∀ w, Calls Try.prog 24 #[.pointer none, .int .i64 0] w fun e w' => e = .returned (.tuple #[.agg #[.int .i64 0, .int .i64 0, .slice none 0 0], .bool false]) ∧ Below w.heap.size w w') := Lib.hid fun w => nTake_nil 0 w
  have HLk : Hid (∀ w, Calls Try.prog 21 #[.pointer none, .int .i64 0] w fun e w' => e = .returned (.tuple #[.agg #[.int .i64 0, .int .i64 0, .slice none 0 0], .bool false]) ∧ Below w.heap.size w w') := Lib.hid fun w => nLook_nil 0 w
  have HSd := Lib.hid nSend_nil
  have HDr := Lib.hid (nDrop_nil 0)
  have HTw := Lib.hid (nTwice_nil 0)
  have HBa := Lib.hid (nBack_nil 0)
  have HLe := Lib.hid nLen_nil
  have HPa := Lib.hid (nPart_nil 0 1)
  have HJo := Lib.hid (nJoin_nil 0 1)
  have HPd := Lib.hid (nParted_nil 0 1)
  clear y1 y2 y3 y4 y5 HO ht5 hb hP5 hl5
  go_wp2_with fail
  refine (HTk.out _).mono ?_
  rintro e z2 ⟨rfl, hb⟩
  obtain ⟨z3, hz3⟩ : ∃ z3, z3 = z2.alloc (.cells #[.int .i64 0, .int .i64 0, .slice none 0 0] 34) := ⟨_, rfl⟩
  have hb3 : Below z1.heap.size z1 z3 := by rw [hz3]; exact hb.trans ((Below.refl _ _).alloc hb.size _)
  have hw3 := Lib.hid (below_then hz1.out hb3)
  have hk3 := Lib.hid (hk1.out.below hb3 hk1.out.lt)
  have Hz3 := Lib.hid hz3
  clear hz3 hb3 hb hk1 hz1
  go_wp2_with fail
  rw [← Hz3.out]
  refine (HLk.out _).mono ?_
  rintro e z4 ⟨rfl, hb⟩
  obtain ⟨z5, hz5⟩ : ∃ z5, z5 = z4.alloc (.cells #[.int .i64 0, .int .i64 0, .slice none 0 0] 34) := ⟨_, rfl⟩
  have hb5 : Below z3.heap.size z3 z5 := by rw [hz5]; exact hb.trans ((Below.refl _ _).alloc hb.size _)
  have hw5 := Lib.hid (below_then hw3.out hb5)
  have hk5 := Lib.hid (hk3.out.below hb5 hk3.out.lt)
  have p0 : z5.cell? ⟨P, 0, none⟩ = some (.int .i64 0) := hk5.out.cell 0
  have p1 : z5.cell? ⟨P, 1, none⟩ = some (.int .i64 0) := hk5.out.cell 1
  have p2 : z5.cell? ⟨P, 2, none⟩ = some (.slice A n c) := hk5.out.cell 2
  have Hz5 := Lib.hid hz5
  rw [hz5] at p0 p1 p2
  clear hz5 hb5 hb hk3 hw3 Hz3
  go_wp2_with fail
  rw [← Hz5.out]
  refine (HSd.out _ _ _ _).mono ?_
  rintro e z6 ⟨rfl, hb⟩
  have hw6 := Lib.hid (below_then hw5.out hb)
  clear hb hw5 hk5 p0 p1 p2 Hz5
  go_wp2_with fail
  refine (HDr.out _).mono ?_
  rintro e z7 ⟨rfl, rfl⟩
  go_wp2_with fail
  refine (HTw.out _).mono ?_
  rintro e z7 ⟨rfl, rfl⟩
  go_wp2_with fail
  refine (HBa.out _).mono ?_
  rintro e z7 ⟨rfl, rfl⟩
  go_wp2_with fail
  refine (HLe.out _).mono ?_
  rintro e z7 ⟨rfl, rfl⟩
  go_wp2_with fail
  refine (HPa.out _).mono ?_
  rintro e z7 ⟨rfl, rfl⟩
  go_wp2_with fail
  refine (HJo.out _).mono ?_
  rintro e z7 ⟨rfl, rfl⟩
  go_wp2_with fail
  refine (HPd.out _).mono ?_
  rintro e z7 ⟨rfl, rfl⟩
  go_wp2_with fail
  refine (HKn.out _).mono ?_
  rintro e z8 ⟨rfl, hb⟩
  have hw8 := Lib.hid (below_then hw6.out hb)
  clear hb hw6
  go_wp2
  go_ret
  exact ⟨rfl, hw8.out⟩

namespace netOwn
set_option maxRecDepth 100000 in
theorem lifted (os : Os) (started : os.Started) (H : Type) (enc : TypeId × Value → H) :
    ReturnsInHanded {} Try.checked os 7 .any (Rows.netOwnSpec.pre6 enc Try.prog Try.f7 Rows.netOwnRow.domain false) (Rows.netOwnSpec.post enc Try.prog Try.f7 false true false false) := by
  refine law_lift started (by kernel_rfl) Try.func7
    (ChangeSpec.witness6 (enc := enc) (C := Try.checked) false ⟨#[], #[.agg #[.int .i64 0, .int .i64 0, .slice none 0 0]], []⟩ 8 (by kernel_rfl) (by kernel_rfl) (by kernel_rfl) (by kernel_rfl))
    rfl ?_ (by kernel_rfl) (by kernel_rfl) ?_
  · intro ds h
    match ds, h with
    | [_], _ => rfl
  intro W base args ds p g
  have hA := g.trod
  have hval := g.val
  rw [Try.params7] at hA hval
  obtain ⟨v0, vs0, d0, ds0, p0, q0, hargs, rfl, rfl, h0, r0⟩ := trodAll_cons hA
  obtain ⟨rfl, rfl, rfl⟩ := trodAll_nil r0
  obtain rfl : args = #[v0] := by cases args; simp_all
  obtain ⟨x0, hx0, rfl⟩ := given_pk (hval 0 34 v0 rfl rfl) h0
  exact netOwn_walk x0.p.frm x0.p.dst x0.p.body x0.A x0.n x0.c W hx0.cap.1 hx0.cap.2 hx0.body

theorem over : Rows.netOwnRow.holds Try.pinned (OpenSpec.ofChange Rows.netOwnSpec) :=
  OpenClaim.holds_of_wide 7 Try.f7 rfl rfl rfl rfl rfl rfl rfl ⟨rfl, rfl, rfl, rfl, rfl⟩ rfl rfl rfl rfl rfl (by kernel_rfl) Try.func7 (by kernel_rfl)
    (of_decide_eq_true (by kernel_rfl)) (by unfold Func.isWrapper; first | (rw [if_pos (by decide +kernel)]; kernel_rfl) | (rw [if_neg (by decide +kernel)]; exact ⟨rfl, rfl⟩))
    (fun os started H enc _ => lifted os started H enc)
end netOwn

theorem NetOwn_proved : Rows.NetOwnSaid := netOwn.over
#print axioms NetOwn_proved
end Go.Proofs.Ytfghbhjljbdlmaa
