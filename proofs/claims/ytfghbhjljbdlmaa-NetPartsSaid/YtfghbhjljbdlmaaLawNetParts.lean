/- NetParts is true at every two nodes and packets, if Back does as the chapter says. -/
import Derived.Test.YtfghbhjljbdlmaaNetB
import Derived.Test.YtfghbhjljbdlmaaLawNetOrder
import Derived.Deep.DeepCutAuto
namespace Go.Proofs.Ytfghbhjljbdlmaa
open Go.ChangeShapes Go.WideShapes Go.ChangeAt Go.RowKit

def rightP (a b : Int) : Bool := (decide (0 ≤ a) && decide (a < 4) && decide (0 ≤ b) && decide (b < 4)) && !decide (a = b)
def resP (a b : Int) : Int := if rightP a b = true then 0 else 2
def nps (a b : Int) : Nt := ((Nt.new 4).set a b true).2
theorem nps_set (a b : Int) : (Nt.new 4).set a b true = (if rightP a b = true then 0 else 2, nps a b) := by
  unfold nps
  have : ((Nt.new 4).set a b true).1 = if rightP a b = true then 0 else 2 := by
    unfold Nt.set rightP
    simp only [node_at (s := Nt.new 4) (N := 4) rfl]
    by_cases h : a = b
    · rw [if_pos (.inr h)]; simp [h]
    · by_cases h2 : (decide (0 ≤ a) && decide (a < ((4 : Nat) : Int)) && (decide (0 ≤ b) && decide (b < ((4 : Nat) : Int)))) = false
      · rw [if_pos (.inl h2)]
        rw [if_neg]
        intro h3
        simp only [Bool.and_eq_true, decide_eq_true_eq] at h3
        rw [← Bool.not_eq_true] at h2
        apply h2
        simp only [Bool.and_eq_true, decide_eq_true_eq]
        omega
      · rw [if_neg (by rintro (h3 | h3); exact h2 h3; exact h h3)]
        show (0 : Int) = _
        rw [if_pos]
        rw [Bool.not_eq_false] at h2
        simp only [Bool.and_eq_true, decide_eq_true_eq, Bool.not_eq_true', decide_eq_false_iff_not] at h2 ⊢
        exact ⟨⟨⟨⟨h2.1.1, by omega⟩, h2.2.1⟩, by omega⟩, h⟩
  rw [← this]
theorem nps_set' (a b : Int) : (Nt.new 4).set a b true = (resP a b, nps a b) := nps_set a b
theorem nps_parted (a b i j : Int) : (nps a b).parted i j = (rightP a b && (decide (i = a) && decide (j = b) || decide (i = b) && decide (j = a))) := by
  cases hr : rightP a b with
  | false =>
    have h := nps_set a b
    rw [hr] at h
    have : nps a b = Nt.new 4 := by
      unfold nps Nt.set
      split
      · rfl
      · rename_i h1
        unfold Nt.set at h
        rw [if_neg h1] at h
        injection h with h _
        cases h
    rw [this]
    rfl
  | true =>
    unfold rightP at hr
    simp only [Bool.and_eq_true, decide_eq_true_eq, Bool.not_eq_true', decide_eq_false_iff_not] at hr
    have hn : ((Nt.new 4).node a && (Nt.new 4).node b) = true := by
      simp only [node_at (s := Nt.new 4) (N := 4) rfl, Bool.and_eq_true, decide_eq_true_eq]
      omega
    unfold nps
    rw [Nt.set_parted hn hr.2]
    by_cases hc : (i = a ∧ j = b) ∨ (i = b ∧ j = a)
    · rw [if_pos hc]
      rcases hc with ⟨h1, h2⟩ | ⟨h1, h2⟩ <;> simp [h1, h2]
    · rw [if_neg hc]
      have : (Nt.new 4).parted i j = false := rfl
      rw [this]
      symm
      rw [Bool.true_and, ← Bool.not_eq_true]
      simp only [Bool.or_eq_true, Bool.and_eq_true, decide_eq_true_eq]
      exact hc
theorem nps_n (a b : Int) : (nps a b).n = 4 ∧ (nps a b).row = [] := by
  unfold nps Nt.set
  split <;> exact ⟨rfl, rfl⟩

/-- Ahead of each round: what is under way is what is wanted. -/
structure OrdQ (W w : World) (F : Nat → Prop) (g : Nat) (s0 s : Nt) (v : Value) (es : List (Pk × Value)) (j : Nat) : Prop where
  nn : NN W w F g s
  n : s.n = 4
  ap : s.apart = s0.apart
  row : s.row = (es.drop j).map (·.1)
  pk : PkL W w v es
  off : ∀ k, v.ownBlock = some k → Apt w F k
theorem OrdQ.mv {W w w' : World} {F F' : Nat → Prop} {g j i : Nat} {s0 s s' : Nt} {v : Value} {es : List (Pk × Value)} (h : OrdQ W w F g s0 s v es j) (hn : NN W w' F' g s') (hm : Mv F F' w w') (hr : s'.row = (es.drop i).map (·.1)) (h1 : s'.n = s.n) (h2 : s'.apart = s.apart) : OrdQ W w' F' g s0 s' v es i :=
  ⟨hn, h1.trans h.n, h2.trans h.ap, hr, h.pk.kp hm.kp fun k e hf => (h.off k e).off hf, fun k e => (h.off k e).mv hm⟩
theorem OrdQ.below {W w w' : World} {F : Nat → Prop} {g j : Nat} {s0 s : Nt} {v : Value} {es : List (Pk × Value)} (h : OrdQ W w F g s0 s v es j) (hb : Below w.heap.size w w') : OrdQ W w' F g s0 s v es j := h.mv (h.nn.below hb) (Mv.below hb) h.row rfl rfl
theorem OrdQ.j {W w : World} {F : Nat → Prop} {g j : Nat} {s0 s : Nt} {v : Value} {es : List (Pk × Value)} (h : OrdQ W w F g s0 s v es j) : OrdJ W w F g s v es j := ⟨h.nn, h.row, h.pk, h.off⟩
theorem OrdQ.parted {W w : World} {F : Nat → Prop} {g j : Nat} {a b : Int} {s : Nt} {v : Value} {es : List (Pk × Value)} (h : OrdQ W w F g (nps a b) s v es j) (x y : Int) : s.parted x y = (nps a b).parted x y := by unfold Nt.parted; rw [h.ap]
theorem take_same (s : Nt) (k : Int) : (s.take k).n = s.n ∧ (s.take k).apart = s.apart := by
  unfold Nt.take Nt.cut
  split <;> exact ⟨rfl, rfl⟩
theorem OrdQ.push {W w w' : World} {F : Nat → Prop} {g : Nat} {s0 s : Nt} {v v' : Value} {es : List (Pk × Value)} {p : Pk} {A : Option Addr} {n c : Nat} (hn : NN W w F g s) (h1 : s.n = 4) (h2 : s.apart = s0.apart) (h3 : s.row = (es ++ [(p, Value.slice A n c)]).map (·.1))
    (hp : PkL W w v es) (ho : ∀ j, v.ownBlock = some j → Apt w F j) (hr : Rd W W.heap.size A n p.body) (happ : App w w' W.heap.size 34 3 v v' es.length 1 (pkC es) (pkE (p, .slice A n c))) : OrdQ W w' F g s0 s v' (es ++ [(p, .slice A n c)]) 0 := by
  have hk : Kp (fun k => v.ownBlock = some k) w w' := Kp.of_row happ.grow (fun g e => e)
  have hn' : NN W w' F g s := ⟨hn.1.kp hk (fun k hf e => (ho k e).off hf), hn.2.1, hn.2.2.trans (hk.below (fun k e => (hp.own.lt k e).1) hn.2.2.size)⟩
  refine ⟨hn', h1, h2, h3, ⟨by rw [List.length_append, pkC_app]; exact happ.own, fun e he => ?_⟩, fun j e => ⟨(happ.own.lt j e).2, fun hf => ?_⟩⟩
  · rcases List.mem_append.1 he with he | he
    · exact hp.each e he
    · rw [List.mem_singleton.1 he]; exact ⟨A, n, c, rfl, hr⟩
  · rcases happ.block with h | h
    · rw [h] at e; exact (ho j e).off hf
    · rw [h] at e
      injection e with e
      have := hn.lt j hf
      omega
theorem send_cases4 {s : Nt} (h : s.Ok) (p : Pk) : (s.parted p.frm p.dst = true ∧ s.send p = (0, s)) ∨ (s.parted p.frm p.dst = false ∧ s.send p = (0, { s with row := s.row ++ [p] })) ∨ s.send p = (2, s) ∨ s.send p = (3, s) ∨ (s.row.length = 256 ∧ s.send p = (5, s)) := by
  unfold Nt.send
  split
  · exact .inr (.inr (.inl rfl))
  split
  · exact .inr (.inr (.inr (.inl rfl)))
  split
  · have := h.len
    exact .inr (.inr (.inr (.inr ⟨by omega, rfl⟩)))
  split
  · rename_i hp
    exact .inl ⟨hp, rfl⟩
  · rename_i hp
    exact .inr (.inl ⟨by simpa using hp, rfl⟩)

theorem set_res {s : Nt} (h : s.n = 4) (a b : Int) (x : Bool) : (s.set a b x).1 = resP a b ∧ (rightP a b = false → (s.set a b x).2 = s) ∧ (rightP a b = true → (s.node a && s.node b) = true ∧ a ≠ b) := by
  have hnode : ∀ c : Int, s.node c = (decide (0 ≤ c) && decide (c < 4)) := fun c => by rw [node_at (N := 4) h]; rfl
  have hR : rightP a b = ((s.node a && s.node b) && !decide (a = b)) := by
    rw [hnode, hnode]
    unfold rightP
    simp only [Bool.and_assoc]
  unfold Nt.set resP
  rw [hR]
  cases hn : (s.node a && s.node b) with
  | false => exact ⟨by rw [if_pos (.inl rfl)]; rfl, fun _ => by rw [if_pos (.inl rfl)], fun e => by simp at e⟩
  | true =>
    by_cases hab : a = b
    · exact ⟨by rw [if_pos (.inr hab)]; simp [hab], fun _ => by rw [if_pos (.inr hab)], fun e => by simp [hab] at e⟩
    · refine ⟨?_, fun e => ?_, fun _ => ⟨rfl, hab⟩⟩
      · rw [if_neg (by rintro (h3 | h3); cases h3; exact hab h3)]
        simp [hab]
      · simp [hab] at e
theorem join_none {s : Nt} {a b : Int} (h : s.n = 4) (hap : s.apart = (nps a b).apart) (hba : rightP b a = rightP a b) (i j : Int) : (s.set b a false).2.parted i j = false := by
  have hp : ∀ x y, s.parted x y = (rightP a b && (decide (x = a) && decide (y = b) || decide (x = b) && decide (y = a))) := fun x y => by
    rw [← nps_parted]
    unfold Nt.parted
    rw [hap]
  obtain ⟨_, h2, h3⟩ := set_res h b a false
  cases hR : rightP a b with
  | false =>
    rw [h2 (hba.trans hR), hp, hR]
    rfl
  | true =>
    obtain ⟨h4, h5⟩ := h3 (hba.trans hR)
    rw [Nt.set_parted h4 h5]
    split
    · rfl
    · rename_i hc
      rw [hp, hR, Bool.true_and, ← Bool.not_eq_true]
      simp only [Bool.or_eq_true, Bool.and_eq_true, decide_eq_true_eq]
      rintro (⟨e1, e2⟩ | ⟨e1, e2⟩)
      · exact hc (.inr ⟨e1, e2⟩)
      · exact hc (.inl ⟨e1, e2⟩)
theorem set_same (s : Nt) (a b : Int) (x : Bool) : (s.set a b x).2.n = s.n ∧ (s.set a b x).2.row = s.row := by
  unfold Nt.set
  split <;> exact ⟨rfl, rfl⟩
theorem join_end {s : Nt} {a b : Int} (h : s.n = 4) (hr : s.row = []) (hap : s.apart = (nps a b).apart) (hba : rightP b a = rightP a b) :
    (s.set b a false).1 = resP b a ∧ ∃ s3 : Nt, (s.set b a false).2.send ⟨0, 1, [120]⟩ = (0, s3) ∧ s3.row.length = 1 ∧ s3.parted a b = false := by
  obtain ⟨h1, h2⟩ := set_same s b a false
  refine ⟨(set_res h b a false).1, _, send_ok (N := 4) (h1.trans h) (join_none h hap hba 0 1) (by rw [h2, hr]; decide) (by decide) (by decide), ?_, ?_⟩
  · rw [h2, hr]; rfl
  · exact join_none h hap hba a b

set_option maxHeartbeats 8000000 in
set_option maxRecDepth 100000 in
theorem netParts_walk (hB : BackSaid) (a b : Int) (A : Option Addr) (n c : Nat) (f : Nat → Gp) (w : World) (_ha1 : -9223372036854775808 ≤ a) (_ha2 : a ≤ 9223372036854775807) (_hb1 : -9223372036854775808 ≤ b) (_hb2 : b ≤ 9223372036854775807) (_hc : n ≤ c) (_hm : c ≤ 9223372036854775807) (hA : Pks6 w w.heap.size A n f) :
    Calls Try.prog 6 #[.int .i64 a, .int .i64 b, .slice A n c] w fun e w' => e = .returned (.bool true) ∧ Below w.heap.size w w' := by
  have HKn := Lib.hid (nknown_any hB)
  have HA := Lib.hid hA
  have HN : Hid (Calls Try.prog 15 #[.int .i64 4] w fun e w' => ∃ g F, e = .returned (.tuple #[.pointer (some ⟨g, 0, none⟩), .int .i64 0]) ∧ NN w w' F g (Nt.new 4)) := by
    exact Lib.hid (nn_new 4 w (by decide) (by decide))
  clear hB hA
  go_enter Try.func6, Try.ntmps6
  go_wp2_with fail
  refine HN.out.mono ?_
  clear HN
  rintro x w1 ⟨g, F0, rfl, h1⟩
  have HP := h1.acted (nPart_any g a b (Nt.new 4) F0 w1 h1.1)
  rw [nps_set'] at HP
  replace HP := Lib.hid HP
  clear h1
  go_wp2_with fail
  refine HP.out.mono ?_
  rintro e w2 ⟨rfl, F2, h2, _⟩
  have HN2 := Lib.hid h2
  clear h2
  go_upto_region 5 with (fail)
  go_cut [10] (fun v w' => v = .bool (rightP a b) ∧ w2 = w')
  case first =>
    go_wp2_with fail
    all_goals
      go_meet
      refine ⟨congrArg Value.bool ?_, rfl⟩
      unfold rightP
      rw [Bool.eq_iff_iff]
      simp only [Bool.and_eq_true, decide_eq_true_eq, Bool.not_eq_true', decide_eq_false_iff_not, bne_iff_ne, ne_eq, Bool.false_eq_true, false_iff]
      omega
  case rest =>
    obtain ⟨rfl, rfl⟩ := hcut
    have HR := Lib.hid (nps_parted a b)
    have hf : resP a b = if rightP a b = true then 0 else 2 := rfl
    have HRd := Lib.hid (show rightP a b = true → 0 ≤ a ∧ a < 4 ∧ 0 ≤ b ∧ b < 4 ∧ a ≠ b from fun h => by
      unfold rightP at h
      simp only [Bool.and_eq_true, decide_eq_true_eq, Bool.not_eq_true', decide_eq_false_iff_not] at h
      exact ⟨h.1.1.1.1, h.1.1.1.2, h.1.1.2, h.1.2, h.2⟩)
    have HRba := Lib.hid (show rightP b a = rightP a b from by
      unfold rightP
      rw [Bool.eq_iff_iff]
      simp only [Bool.and_eq_true, decide_eq_true_eq, Bool.not_eq_true', decide_eq_false_iff_not]
      omega)
    generalize resP a b = rs at *
    generalize hREQ : rightP a b = R at *
    have HREQ := Lib.hid hREQ
    clear hREQ
    obtain ⟨nn4, nrow⟩ := nps_n a b
    have HI0 : Hid (∃ F s es, es.length ≤ 0 ∧ OrdQ w w2 F g (nps a b) s (.slice none 0 0) es 0) :=
      Lib.hid ⟨F2, nps a b, [], by simp, HN2.out, nn4, rfl, nrow, ⟨World.ownsRow_nil _ _ _ _, fun e he => (List.not_mem_nil he).elim⟩, fun j e => by cases e⟩
    clear nn4 nrow HN2
    cases R
    · replace hf : rs = 2 := hf
      subst hf
      go_wp2_with fail
      go_loopg [11, 12] n (fun q v iv wr => ∃ k : Nat, iv = .int .i64 k ∧ k + q = n ∧ Hid (∃ F s es, es.length ≤ k ∧ OrdQ w wr F g (nps a b) s v es 0))
      case atStart => exact ⟨0, rfl, by omega, HI0⟩
      case round =>
        obtain ⟨k, rfl, hk, HI⟩ := hrel
        clear HI0
        have hcase : (k < n ∧ k < 100) ∨ (k < n ∧ ¬ k < 100) ∨ ¬ k < n := by omega
        rcases hcase with ⟨hkn, hk2⟩ | hx
        · obtain ⟨F, s, es, hle, hI⟩ := HI.out
          have hb0 := hI.nn.2.2
          obtain ⟨bA, oA, rfl, hlt, hcells⟩ := (HA.out.below hb0) (by omega)
          obtain ⟨hok, c0, c1, c2⟩ := hcells k hkn
          have hok0 : (f k).Ok w w.heap.size := by
            obtain ⟨_, _, e, _, h9⟩ := HA.out (by omega)
            exact (h9 k hkn).1
          generalize hG : f k = G at *
          obtain ⟨⟨fr, dt, l⟩, GA, gn, gc⟩ := G
          simp only at c0 c1 c2
          obtain ⟨W2, hW2⟩ : ∃ W2, W2 = wr.alloc (.cells #[.int .i64 fr, .int .i64 dt, .slice GA gn gc] 34) := ⟨_, rfl⟩
          have hbl2 : Below wr.heap.size wr W2 := by rw [hW2]; exact (Below.refl _ _).alloc (Nat.le_refl _) _
          have hkP : Bk W2 wr.heap.size 34 #[.int .i64 fr, .int .i64 dt, .slice GA gn gc] := by rw [hW2]; exact Bk.new wr _ _
          have hI2 := hI.below hbl2
          have hAp : Apt W2 F wr.heap.size := ⟨hkP.lt, fun hf => by have := hI.nn.lt _ hf; omega⟩
          have HLo := nlong_any ⟨fr, dt, l⟩ GA gn gc W2
          generalize hP : wr.heap.size = P at *
          have HW2 := Lib.hid hW2
          have HkP := Lib.hid hkP
          have HI2 := Lib.hid hI2
          have HAp := Lib.hid hAp
          have Hok0 := Lib.hid hok0
          replace HLo := Lib.hid HLo
          have n1 : (0 : Int) ≤ (k : Int) := by omega
          have n2 : (k : Int) < (n : Int) := by omega
          have n3 : (k : Int) < 100 := by omega
          have HP := Lib.hid hP
          clear hW2 hkP hI2 hAp hok hok0 hI hbl2 hcells hlt hG hP hb0 HI
          unfold pkV at HLo
          go_wp2_with fail
          rw [← HW2.out, HP.out]
          refine HLo.out.mono ?_
          rintro e W3 ⟨rfl, hb3⟩
          have hk3 := HkP.out.below hb3 HAp.out.lt
          have d0 : W3.cell? ⟨P, 0, none⟩ = some (.int .i64 fr) := hk3.cell 0
          have d1 : W3.cell? ⟨P, 1, none⟩ = some (.int .i64 dt) := hk3.cell 1
          have d2 : W3.cell? ⟨P, 2, none⟩ = some (.slice GA gn gc) := hk3.cell 2
          have HI3 := Lib.hid (HI2.out.below hb3)
          have HAp3 := Lib.hid (HAp.out.mv (Mv.below hb3))
          have HkP3 := Lib.hid hk3
          clear hk3 hb3 HLo HW2 HkP HI2 HAp HP c0 c1 c2
          by_cases h3000 : 3000 < gn
          · rw [decide_eq_true h3000]
            go_wp2_with fail
            refine (HKn.out _).mono ?_
            rintro e w4 ⟨rfl, hb4⟩
            have Hb4 := Lib.hid (HI3.out.nn.2.2.trans (hb4.mono HI3.out.nn.2.2.size))
            clear hb4
            go_wp2
            go_ret
            exact ⟨rfl, Hb4.out⟩
          · rw [decide_eq_false h3000]
            have hS := HI3.out.nn.acted (nSend_any g ⟨fr, dt, l⟩ GA gn gc s F W3 (((Hok0.out.body).below HI3.out.nn.2.2).more HI3.out.nn.2.2.size) HI3.out.nn.1)
            have hrl : s.row.length = es.length := by rw [HI3.out.row]; simp
            have hpt : s.parted fr dt = _ := (HI3.out.parted fr dt).trans (nps_parted a b fr dt)
            rw [HREQ.out] at hpt
            have hsc := send_cases4 HI3.out.nn.1.ok ⟨fr, dt, l⟩
            simp only [hpt] at hsc
            unfold pkV at hS
            have hsc0 := Lib.hid hsc
            rcases hsc with ⟨s1, s2⟩ | ⟨s1, s2⟩ | s2 | s2 | ⟨s1, s2⟩
            · exact absurd s1 (by rw [Bool.false_and]; exact Bool.false_ne_true)
            · rw [s2] at hS
              replace hS := Lib.hid hS
              clear s1 s2 hsc0 hpt
              go_wp2_with fail
              refine hS.out.mono ?_
              rintro e W4 ⟨rfl, F4, hn4, hm4⟩
              have hk4 := HkP3.out.mv HAp3.out hm4
              clear d0 d1 d2
              have d0 : W4.cell? ⟨P, 0, none⟩ = some (.int .i64 fr) := hk4.cell 0
              have d1 : W4.cell? ⟨P, 1, none⟩ = some (.int .i64 dt) := hk4.cell 1
              have d2 : W4.cell? ⟨P, 2, none⟩ = some (.slice GA gn gc) := hk4.cell 2
              have HM4 := Lib.hid (And.intro (HI3.out.pk.kp hm4.kp fun j e hf => (HI3.out.off j e).off hf) (fun j e => (HI3.out.off j e).mv hm4 : ∀ j, _ = some j → Apt W4 F4 j))
              have Hn4 := Lib.hid hn4
              have HkP4 := Lib.hid hk4
              clear hS hk4 hm4 hn4 HkP3 HAp3
              obtain ⟨i0, hi0, hz0, hz1, hz2⟩ := info_parts Try.infoPacket
              have hca := own_below HM4.out.1.own ((Below.refl W4.heap.size W4).alloc (Nat.le_refl _) (.cells #[.int .i64 fr, .int .i64 dt, .slice GA gn gc] 34)) (fun g hg => (HM4.out.1.own.lt g hg).2)
              have hba : Below w.heap.size w (W4.alloc (.cells #[.int .i64 fr, .int .i64 dt, .slice GA gn gc] 34)) := Hn4.out.2.2.alloc Hn4.out.2.2.size _
              have HC1 : Hid (∀ u ∈ [Value.int .i64 fr, .int .i64 dt, .slice GA gn gc], u.oneCell' = true) := Lib.hid (by
                intro u hu
                simp only [List.mem_cons, List.not_mem_nil, or_false] at hu
                rcases hu with rfl | rfl | rfl <;> rfl)
              go_wp2_with (at_builtin; refine (?_ : _ ∧ True).1)
              refine ⟨?_, trivial⟩
              refine wpList_append_app _ rfl _ _ 39 rfl w.heap.size 34 i0 (.agg #[.int .i64 0, .int .i64 0, .slice none 0 0]) 3 40 Try.underlying39 hi0 hz0 hz1 hz2 rfl _ _ _ rfl hca (some ⟨W4.heap.size, 0, none⟩) 1 1 [.int .i64 fr, .int .i64 dt, .slice GA gn gc] rfl rfl (by intro e; cases e) (new_cells _ _ _ rfl) HC1.out (by unfold maxLen; omega) (by omega) hba.size ?_
              intro v9 w9 happ
              have HI9 : Hid (OrdQ w w9 F4 g (nps a b) { s with row := s.row ++ [⟨fr, dt, l⟩] } v9 (es ++ [(⟨fr, dt, l⟩, .slice GA gn gc)]) 0) := by
                have hbA : Below W4.heap.size W4 (W4.alloc (.cells #[.int .i64 fr, .int .i64 dt, .slice GA gn gc] 34)) := (Below.refl _ _).alloc (Nat.le_refl _) _
                have hm := Mv.below (F := F4) hbA
                refine Lib.hid (OrdQ.push (Hn4.out.below hbA) HI3.out.n HI3.out.ap ?_ (HM4.out.1.kp hm.kp fun j e hf => (HM4.out.2 j e).off hf) (fun j e => (HM4.out.2 j e).mv hm) Hok0.out.body happ)
                simp [HI3.out.row]
              have HL9 : Hid ((es ++ [((⟨fr, dt, l⟩ : Pk), Value.slice GA gn gc)]).length ≤ k + 1) := Lib.hid (by simp; omega)
              clear happ hca hba HM4 HkP4 Hn4 HI3 d0 d1 d2
              go_wp2
              go_roundg (gk - 1)
              case measure => omega
              case rel => exact ⟨k + 1, by go_num, by omega, Lib.hid ⟨_, _, _, HL9.out, HI9.out⟩⟩
            · rw [s2] at hS
              replace hS := Lib.hid hS
              clear s2 hsc0 hpt
              go_wp2_with fail
              refine hS.out.mono ?_
              rintro e W4 ⟨rfl, F4, hn4, hm4⟩
              have hk4 := HkP3.out.mv HAp3.out hm4
              clear d0 d1 d2
              have d0 : W4.cell? ⟨P, 0, none⟩ = some (.int .i64 fr) := hk4.cell 0
              have d1 : W4.cell? ⟨P, 1, none⟩ = some (.int .i64 dt) := hk4.cell 1
              have d2 : W4.cell? ⟨P, 2, none⟩ = some (.slice GA gn gc) := hk4.cell 2
              have HI9 := Lib.hid (HI3.out.mv hn4 hm4 HI3.out.row rfl rfl)
              clear hS hk4 hm4 hn4 HkP3 HAp3 HI3
              go_wp2
              go_roundg (gk - 1)
              case measure => omega
              case rel => exact ⟨k + 1, by go_num, by omega, Lib.hid ⟨_, _, _, by omega, HI9.out⟩⟩
            · rw [s2] at hS
              replace hS := Lib.hid hS
              clear s2 hsc0 hpt
              go_wp2_with fail
              refine hS.out.mono ?_
              rintro e W4 ⟨rfl, F4, hn4, hm4⟩
              have hk4 := HkP3.out.mv HAp3.out hm4
              clear d0 d1 d2
              have d0 : W4.cell? ⟨P, 0, none⟩ = some (.int .i64 fr) := hk4.cell 0
              have d1 : W4.cell? ⟨P, 1, none⟩ = some (.int .i64 dt) := hk4.cell 1
              have d2 : W4.cell? ⟨P, 2, none⟩ = some (.slice GA gn gc) := hk4.cell 2
              have HI9 := Lib.hid (HI3.out.mv hn4 hm4 HI3.out.row rfl rfl)
              clear hS hk4 hm4 hn4 HkP3 HAp3 HI3
              go_wp2
              go_roundg (gk - 1)
              case measure => omega
              case rel => exact ⟨k + 1, by go_num, by omega, Lib.hid ⟨_, _, _, by omega, HI9.out⟩⟩
            · omega
        · obtain ⟨F, s, es, hle, hI⟩ := HI.out
          obtain ⟨Av, cv, rfl, hcv⟩ := own_shape hI.pk.own
          have n1 : (0 : Int) ≤ (k : Int) := by omega
          have hx2 : ((k : Int) < (n : Int) ∧ ¬ (k : Int) < 100) ∨ ¬ (k : Int) < (n : Int) := by omega
          have HQ0 : Hid (OrdQ w wr F g (nps a b) s (.slice Av es.length cv) es 0) := Lib.hid hI
          have hv : es.length ≤ 256 := by have := hI.nn.1.ok.len; rw [hI.row] at this; simpa using this
          clear hI hx HI
          rcases hx2 with ⟨hkn, n3⟩ | hkn
          all_goals
            go_wp2_with fail
            go_loopg [16] es.length (fun q iv wq => ∃ j : Nat, iv = .int .i64 j ∧ j + q = es.length ∧ Hid (∃ F s, OrdQ w wq F g (nps a b) s (.slice Av es.length cv) es j))
            case atStart => exact ⟨0, rfl, by omega, Lib.hid ⟨_, _, HQ0.out⟩⟩
            case round =>
              obtain ⟨j, rfl, hj, HJ⟩ := hrel
              obtain ⟨F, s, hJ⟩ := HJ.out
              clear HJ HQ0
              by_cases hjn : j < es.length
              · have m1 : (0 : Int) ≤ (j : Int) := by omega
                have m2 : (j : Int) < (es.length : Int) := by omega
                obtain ⟨e1, e2⟩ := hJ.j.head hjn
                have hT := hJ.nn.take 0
                rw [e1] at hT
                obtain ⟨R, c', A2, n2, c2, e3, r0, r1, r2, r3, hRl⟩ := hJ.pk.cell j hjn
                injection e3 with e3 _ e4
                subst e3 e4
                generalize hpk : es[j].1 = pk at *
                obtain ⟨pf, pd, pb⟩ := pk
                replace hT := Lib.hid hT
                have HJ := Lib.hid hJ
                have HE2 := Lib.hid e2
                have HR := Lib.hid (And.intro r0 (And.intro r1 r2))
                clear hJ e1 e2 r0 r1 r2 hpk
                unfold pkV at hT
                go_wp2_with fail
                refine hT.out.mono ?_
                rintro e W4 ⟨bv, rfl, ho, hn4, hm4⟩
                obtain ⟨A4, c4, rfl, hc4⟩ := own_shape ho
                have hba : Below W4.heap.size W4 (W4.alloc (.cells #[.int .i64 pf, .int .i64 pd, .slice A4 pb.length c4] 34)) := (Below.refl _ _).alloc (Nat.le_refl _) _
                have HJ5 := Lib.hid ((HJ.out.mv hn4 hm4 HE2.out (take_same _ _).1 (take_same _ _).2).below hba)
                have hoR := (HJ.out.off R rfl).off
                have t0 := (hba.cell (p := ⟨R, j * 3, none⟩) (by have := hm4.kp.size; show R < _; omega)).trans (cell_kp HR.out.1 hm4.kp hoR)
                have t1 := (hba.cell (p := ⟨R, j * 3 + 1, none⟩) (by have := hm4.kp.size; show R < _; omega)).trans (cell_kp HR.out.2.1 hm4.kp hoR)
                have t2 := (hba.cell (p := ⟨R, j * 3 + 2, none⟩) (by have := hm4.kp.size; show R < _; omega)).trans (cell_kp HR.out.2.2 hm4.kp hoR)
                have hkP := Bk.new W4 34 #[.int .i64 pf, .int .i64 pd, .slice A4 pb.length c4]
                have hr4 := (Rd.of_own ho).up hba
                have HP5 : Hid (W4.heap.size < (W4.alloc (.cells #[.int .i64 pf, .int .i64 pd, .slice A4 pb.length c4] 34)).heap.size) := Lib.hid hkP.lt
                have HR5 : Hid (R < (W4.alloc (.cells #[.int .i64 pf, .int .i64 pd, .slice A4 pb.length c4] 34)).heap.size) := Lib.hid (by have := hm4.kp.size; have := hba.size; omega)
                go_wp2_with fail
                generalize W4.alloc (.cells #[.int .i64 pf, .int .i64 pd, .slice A4 pb.length c4] 34) = W5 at *
                generalize W4.heap.size = P at *
                have HC : Hid (∀ W, Below W5.heap.size W5 W → (W.cell? ⟨P, 0, none⟩ = some (.int .i64 pf) ∧ W.cell? ⟨P, 1, none⟩ = some (.int .i64 pd) ∧ W.cell? ⟨P, 2, none⟩ = some (.slice A4 pb.length c4) ∧
                    W.cell? ⟨R, j * 3, none⟩ = some (.int .i64 pf) ∧ W.cell? ⟨R, j * 3 + 1, none⟩ = some (.int .i64 pd) ∧ W.cell? ⟨R, j * 3 + 2, none⟩ = some (.slice A2 n2 c2)) ∧ Below W5.heap.size W5 W) := Lib.hid fun W hb =>
                  ⟨⟨(hb.cell (p := ⟨P, 0, none⟩) HP5.out).trans (hkP.cell 0), (hb.cell (p := ⟨P, 1, none⟩) HP5.out).trans (hkP.cell 1), (hb.cell (p := ⟨P, 2, none⟩) HP5.out).trans (hkP.cell 2), (hb.cell (p := ⟨R, j * 3, none⟩) HR5.out).trans t0, (hb.cell (p := ⟨R, j * 3 + 1, none⟩) HR5.out).trans t1, (hb.cell (p := ⟨R, j * 3 + 2, none⟩) HR5.out).trans t2⟩, hb⟩
                have HG : Hid (∀ W, Below W5.heap.size W5 W → Calls Try.prog 22 #[.agg #[.int .i64 pf, .int .i64 pd, .slice A4 pb.length c4], .agg #[.int .i64 pf, .int .i64 pd, .slice A2 n2 c2]] W fun e w' => e = .returned (.bool true) ∧ Below W.heap.size W w') := by
                  refine Lib.hid fun W hb => (nSame_any ⟨pf, pd, pb⟩ ⟨pf, pd, pb⟩ A4 A2 pb.length c4 n2 c2 W (hr4.up hb) (((r3.below HJ5.out.nn.2.2).more HJ5.out.nn.2.2.size).up hb)).mono ?_
                  rintro e w' ⟨rfl, hb2⟩
                  rw [samePk_self]
                  exact ⟨rfl, hb2⟩
                clear hba ho hn4 hm4 hoR t0 t1 t2 hkP hr4 HP5 HR5 HR HJ HE2 hT r3
                go_region_held3 (fun w' => (w'.cell? ⟨P, 0, none⟩ = some (.int .i64 pf) ∧ w'.cell? ⟨P, 1, none⟩ = some (.int .i64 pd) ∧ w'.cell? ⟨P, 2, none⟩ = some (.slice A4 pb.length c4) ∧
                    w'.cell? ⟨R, j * 3, none⟩ = some (.int .i64 pf) ∧ w'.cell? ⟨R, j * 3 + 1, none⟩ = some (.int .i64 pd) ∧ w'.cell? ⟨R, j * 3 + 2, none⟩ = some (.slice A2 n2 c2)) ∧ Below W5.heap.size W5 w') (first | (refine HC.out _ ?_; (repeat' (first | assumption | exact Below.refl _ _ | exact Nat.le_refl _ | apply Below.drew)); done) | go_keep)
                  (first
                    | (go_at_call 22; refine (HG.out _ (by (repeat' (first | assumption | exact Below.refl _ _ | apply Below.drew)))).mono ?_; rintro e w10 ⟨rfl, hb10⟩; have hd10 : Below W5.heap.size W5 w10 := below_then (by (repeat' (first | assumption | exact Below.refl _ _ | apply Below.drew))) hb10; have hk10 := HC.out w10 hd10))
                all_goals
                  have HJ10 := Lib.hid (HJ5.out.below hd10)
                  clear hk10 hd10 hb10
                  go_wp2
                  go_roundg (gk - 1)
                  case measure => omega
                  case rel => exact ⟨j + 1, by go_num, by omega, Lib.hid ⟨_, _, HJ10.out⟩⟩
              · have m2 : ¬ (j : Int) < (es.length : Int) := by omega
                obtain ⟨f1, s3, f2, f3, f4⟩ := join_end hJ.n (by have := (hJ.j.last (by omega)).2.2; exact List.eq_nil_of_length_eq_zero this) hJ.ap (HRba.out.trans HREQ.out.symm)
                have f5 : resP b a = 2 := by unfold resP; rw [HRba.out]; rfl
                rw [f5] at f1
                have hT := hJ.nn.acted (nJoin_any g b a s F wr hJ.nn.1)
                rw [f1] at hT
                replace hT := Lib.hid hT
                have HF2 := Lib.hid f2
                have HF3 := Lib.hid f3
                have HF4 := Lib.hid f4
                have kc := conv_bytes
                clear hJ f1 f2 f3 f4 f5
                go_wp2_with fail
                refine hT.out.mono ?_
                rintro e W4 ⟨rfl, F4, hn4, hm4⟩
                have hS := hn4.sent1 120 0 1 120 rfl
                rw [HF2.out] at hS
                replace hS := Lib.hid hS
                clear hn4 hm4 hT
                go_wp2_with fail
                refine hS.out.mono ?_
                rintro e W5 ⟨rfl, F5, hn5, hm5⟩
                have HL := hn5.len
                rw [HF3.out] at HL
                replace HL := Lib.hid HL
                have HPt := nParted_any hn5.1 a b
                rw [HF4.out] at HPt
                replace HPt := Lib.hid HPt
                have Hb5 := Lib.hid hn5.2.2
                clear hn5 hm5 hS
                go_wp2_with fail
                refine HL.out.mono ?_
                rintro e W6 ⟨rfl, rfl⟩
                go_wp2_with fail
                refine HPt.out.mono ?_
                rintro e W7 ⟨rfl, rfl⟩
                go_wp2_with fail
                refine (HKn.out _).mono ?_
                rintro e W8 ⟨rfl, hb8⟩
                have Hb8 := Lib.hid (Hb5.out.trans (hb8.mono Hb5.out.size))
                clear hb8
                go_wp2
                go_ret
                exact ⟨rfl, Hb8.out⟩
    · replace hf : rs = 0 := hf
      subst hf
      go_wp2_with fail
      go_loopg [11, 12] n (fun q v iv wr => ∃ k : Nat, iv = .int .i64 k ∧ k + q = n ∧ Hid (∃ F s es, es.length ≤ k ∧ OrdQ w wr F g (nps a b) s v es 0))
      case atStart => exact ⟨0, rfl, by omega, HI0⟩
      case round =>
        obtain ⟨k, rfl, hk, HI⟩ := hrel
        clear HI0
        have hcase : (k < n ∧ k < 100) ∨ (k < n ∧ ¬ k < 100) ∨ ¬ k < n := by omega
        rcases hcase with ⟨hkn, hk2⟩ | hx
        · obtain ⟨F, s, es, hle, hI⟩ := HI.out
          have hb0 := hI.nn.2.2
          obtain ⟨bA, oA, rfl, hlt, hcells⟩ := (HA.out.below hb0) (by omega)
          obtain ⟨hok, c0, c1, c2⟩ := hcells k hkn
          have hok0 : (f k).Ok w w.heap.size := by
            obtain ⟨_, _, e, _, h9⟩ := HA.out (by omega)
            exact (h9 k hkn).1
          generalize hG : f k = G at *
          obtain ⟨⟨fr, dt, l⟩, GA, gn, gc⟩ := G
          simp only at c0 c1 c2
          obtain ⟨W2, hW2⟩ : ∃ W2, W2 = wr.alloc (.cells #[.int .i64 fr, .int .i64 dt, .slice GA gn gc] 34) := ⟨_, rfl⟩
          have hbl2 : Below wr.heap.size wr W2 := by rw [hW2]; exact (Below.refl _ _).alloc (Nat.le_refl _) _
          have hkP : Bk W2 wr.heap.size 34 #[.int .i64 fr, .int .i64 dt, .slice GA gn gc] := by rw [hW2]; exact Bk.new wr _ _
          have hI2 := hI.below hbl2
          have hAp : Apt W2 F wr.heap.size := ⟨hkP.lt, fun hf => by have := hI.nn.lt _ hf; omega⟩
          have HLo := nlong_any ⟨fr, dt, l⟩ GA gn gc W2
          generalize hP : wr.heap.size = P at *
          have HW2 := Lib.hid hW2
          have HkP := Lib.hid hkP
          have HI2 := Lib.hid hI2
          have HAp := Lib.hid hAp
          have Hok0 := Lib.hid hok0
          replace HLo := Lib.hid HLo
          have n1 : (0 : Int) ≤ (k : Int) := by omega
          have n2 : (k : Int) < (n : Int) := by omega
          have n3 : (k : Int) < 100 := by omega
          have HP := Lib.hid hP
          clear hW2 hkP hI2 hAp hok hok0 hI hbl2 hcells hlt hG hP hb0 HI
          unfold pkV at HLo
          go_wp2_with fail
          rw [← HW2.out, HP.out]
          refine HLo.out.mono ?_
          rintro e W3 ⟨rfl, hb3⟩
          have hk3 := HkP.out.below hb3 HAp.out.lt
          have d0 : W3.cell? ⟨P, 0, none⟩ = some (.int .i64 fr) := hk3.cell 0
          have d1 : W3.cell? ⟨P, 1, none⟩ = some (.int .i64 dt) := hk3.cell 1
          have d2 : W3.cell? ⟨P, 2, none⟩ = some (.slice GA gn gc) := hk3.cell 2
          have HI3 := Lib.hid (HI2.out.below hb3)
          have HAp3 := Lib.hid (HAp.out.mv (Mv.below hb3))
          have HkP3 := Lib.hid hk3
          clear hk3 hb3 HLo HW2 HkP HI2 HAp HP c0 c1 c2
          by_cases h3000 : 3000 < gn
          · rw [decide_eq_true h3000]
            go_wp2_with fail
            refine (HKn.out _).mono ?_
            rintro e w4 ⟨rfl, hb4⟩
            have Hb4 := Lib.hid (HI3.out.nn.2.2.trans (hb4.mono HI3.out.nn.2.2.size))
            clear hb4
            go_wp2
            go_ret
            exact ⟨rfl, Hb4.out⟩
          · rw [decide_eq_false h3000]
            have hS := HI3.out.nn.acted (nSend_any g ⟨fr, dt, l⟩ GA gn gc s F W3 (((Hok0.out.body).below HI3.out.nn.2.2).more HI3.out.nn.2.2.size) HI3.out.nn.1)
            have hrl : s.row.length = es.length := by rw [HI3.out.row]; simp
            have hpt : s.parted fr dt = _ := (HI3.out.parted fr dt).trans (nps_parted a b fr dt)
            rw [HREQ.out] at hpt
            have hsc := send_cases4 HI3.out.nn.1.ok ⟨fr, dt, l⟩
            simp only [hpt] at hsc
            unfold pkV at hS
            obtain ⟨r1, r2, r3, r4, hab⟩ := HRd.out (by trivial)
            have hab2 : ¬ b = a := fun e => hab e.symm
            have hq : (a = fr ∧ b = dt) ∨ (a = fr ∧ ¬ dt = b) ∨ (¬ fr = a ∧ b = fr ∧ a = dt) ∨ (¬ fr = a ∧ b = fr ∧ ¬ dt = a) ∨ (¬ fr = a ∧ ¬ fr = b) := by omega
            clear r1 r2 r3 r4
            rcases hq with ⟨q1, q2⟩ | ⟨q1, q2⟩ | ⟨q1, q2, q3⟩ | ⟨q1, q2, q3⟩ | ⟨q1, q2⟩
            · subst q1 q2
              have hsc0 := Lib.hid hsc
              rcases hsc with ⟨s1, s2⟩ | ⟨s1, s2⟩ | s2 | s2 | ⟨s1, s2⟩
              · rw [s2] at hS
                replace hS := Lib.hid hS
                clear s1 s2 hsc0 hpt
                go_wp2_with fail
                refine hS.out.mono ?_
                rintro e W4 ⟨rfl, F4, hn4, hm4⟩
                have hk4 := HkP3.out.mv HAp3.out hm4
                clear d0 d1 d2
                have d0 : W4.cell? ⟨P, 0, none⟩ = some (.int .i64 a) := hk4.cell 0
                have d1 : W4.cell? ⟨P, 1, none⟩ = some (.int .i64 b) := hk4.cell 1
                have d2 : W4.cell? ⟨P, 2, none⟩ = some (.slice GA gn gc) := hk4.cell 2
                have HI9 := Lib.hid (HI3.out.mv hn4 hm4 HI3.out.row rfl rfl)
                clear hS hk4 hm4 hn4 HkP3 HAp3 HI3
                go_wp2
                go_roundg (gk - 1)
                case measure => omega
                case rel => exact ⟨k + 1, by go_num, by omega, Lib.hid ⟨_, _, _, by omega, HI9.out⟩⟩
              · exact absurd s1 (by simp [hab])
              · rw [s2] at hS
                replace hS := Lib.hid hS
                clear s2 hsc0 hpt
                go_wp2_with fail
                refine hS.out.mono ?_
                rintro e W4 ⟨rfl, F4, hn4, hm4⟩
                have hk4 := HkP3.out.mv HAp3.out hm4
                clear d0 d1 d2
                have d0 : W4.cell? ⟨P, 0, none⟩ = some (.int .i64 a) := hk4.cell 0
                have d1 : W4.cell? ⟨P, 1, none⟩ = some (.int .i64 b) := hk4.cell 1
                have d2 : W4.cell? ⟨P, 2, none⟩ = some (.slice GA gn gc) := hk4.cell 2
                have HI9 := Lib.hid (HI3.out.mv hn4 hm4 HI3.out.row rfl rfl)
                clear hS hk4 hm4 hn4 HkP3 HAp3 HI3
                go_wp2
                go_roundg (gk - 1)
                case measure => omega
                case rel => exact ⟨k + 1, by go_num, by omega, Lib.hid ⟨_, _, _, by omega, HI9.out⟩⟩
              · rw [s2] at hS
                replace hS := Lib.hid hS
                clear s2 hsc0 hpt
                go_wp2_with fail
                refine hS.out.mono ?_
                rintro e W4 ⟨rfl, F4, hn4, hm4⟩
                have hk4 := HkP3.out.mv HAp3.out hm4
                clear d0 d1 d2
                have d0 : W4.cell? ⟨P, 0, none⟩ = some (.int .i64 a) := hk4.cell 0
                have d1 : W4.cell? ⟨P, 1, none⟩ = some (.int .i64 b) := hk4.cell 1
                have d2 : W4.cell? ⟨P, 2, none⟩ = some (.slice GA gn gc) := hk4.cell 2
                have HI9 := Lib.hid (HI3.out.mv hn4 hm4 HI3.out.row rfl rfl)
                clear hS hk4 hm4 hn4 HkP3 HAp3 HI3
                go_wp2
                go_roundg (gk - 1)
                case measure => omega
                case rel => exact ⟨k + 1, by go_num, by omega, Lib.hid ⟨_, _, _, by omega, HI9.out⟩⟩
              · omega
            · subst q1
              have z2 : (dt == b) = false := by simpa using q2
              have hsc0 := Lib.hid hsc
              rcases hsc with ⟨s1, s2⟩ | ⟨s1, s2⟩ | s2 | s2 | ⟨s1, s2⟩
              · exact absurd s1 (by simp [*])
              · rw [s2] at hS
                replace hS := Lib.hid hS
                clear s1 s2 hsc0 hpt
                go_wp2_with fail
                refine hS.out.mono ?_
                rintro e W4 ⟨rfl, F4, hn4, hm4⟩
                have hk4 := HkP3.out.mv HAp3.out hm4
                clear d0 d1 d2
                have d0 : W4.cell? ⟨P, 0, none⟩ = some (.int .i64 a) := hk4.cell 0
                have d1 : W4.cell? ⟨P, 1, none⟩ = some (.int .i64 dt) := hk4.cell 1
                have d2 : W4.cell? ⟨P, 2, none⟩ = some (.slice GA gn gc) := hk4.cell 2
                have HM4 := Lib.hid (And.intro (HI3.out.pk.kp hm4.kp fun j e hf => (HI3.out.off j e).off hf) (fun j e => (HI3.out.off j e).mv hm4 : ∀ j, _ = some j → Apt W4 F4 j))
                have Hn4 := Lib.hid hn4
                have HkP4 := Lib.hid hk4
                clear hS hk4 hm4 hn4 HkP3 HAp3
                obtain ⟨i0, hi0, hz0, hz1, hz2⟩ := info_parts Try.infoPacket
                have hca := own_below HM4.out.1.own ((Below.refl W4.heap.size W4).alloc (Nat.le_refl _) (.cells #[.int .i64 a, .int .i64 dt, .slice GA gn gc] 34)) (fun g hg => (HM4.out.1.own.lt g hg).2)
                have hba : Below w.heap.size w (W4.alloc (.cells #[.int .i64 a, .int .i64 dt, .slice GA gn gc] 34)) := Hn4.out.2.2.alloc Hn4.out.2.2.size _
                have HC1 : Hid (∀ u ∈ [Value.int .i64 a, .int .i64 dt, .slice GA gn gc], u.oneCell' = true) := Lib.hid (by
                  intro u hu
                  simp only [List.mem_cons, List.not_mem_nil, or_false] at hu
                  rcases hu with rfl | rfl | rfl <;> rfl)
                go_wp2_with (at_builtin; refine (?_ : _ ∧ True).1)
                refine ⟨?_, trivial⟩
                refine wpList_append_app _ rfl _ _ 39 rfl w.heap.size 34 i0 (.agg #[.int .i64 0, .int .i64 0, .slice none 0 0]) 3 40 Try.underlying39 hi0 hz0 hz1 hz2 rfl _ _ _ rfl hca (some ⟨W4.heap.size, 0, none⟩) 1 1 [.int .i64 a, .int .i64 dt, .slice GA gn gc] rfl rfl (by intro e; cases e) (new_cells _ _ _ rfl) HC1.out (by unfold maxLen; omega) (by omega) hba.size ?_
                intro v9 w9 happ
                have HI9 : Hid (OrdQ w w9 F4 g (nps a b) { s with row := s.row ++ [⟨a, dt, l⟩] } v9 (es ++ [(⟨a, dt, l⟩, .slice GA gn gc)]) 0) := by
                  have hbA : Below W4.heap.size W4 (W4.alloc (.cells #[.int .i64 a, .int .i64 dt, .slice GA gn gc] 34)) := (Below.refl _ _).alloc (Nat.le_refl _) _
                  have hm := Mv.below (F := F4) hbA
                  refine Lib.hid (OrdQ.push (Hn4.out.below hbA) HI3.out.n HI3.out.ap ?_ (HM4.out.1.kp hm.kp fun j e hf => (HM4.out.2 j e).off hf) (fun j e => (HM4.out.2 j e).mv hm) Hok0.out.body happ)
                  simp [HI3.out.row]
                have HL9 : Hid ((es ++ [((⟨a, dt, l⟩ : Pk), Value.slice GA gn gc)]).length ≤ k + 1) := Lib.hid (by simp; omega)
                clear happ hca hba HM4 HkP4 Hn4 HI3 d0 d1 d2
                go_wp2
                go_roundg (gk - 1)
                case measure => omega
                case rel => exact ⟨k + 1, by go_num, by omega, Lib.hid ⟨_, _, _, HL9.out, HI9.out⟩⟩
              · rw [s2] at hS
                replace hS := Lib.hid hS
                clear s2 hsc0 hpt
                go_wp2_with fail
                refine hS.out.mono ?_
                rintro e W4 ⟨rfl, F4, hn4, hm4⟩
                have hk4 := HkP3.out.mv HAp3.out hm4
                clear d0 d1 d2
                have d0 : W4.cell? ⟨P, 0, none⟩ = some (.int .i64 a) := hk4.cell 0
                have d1 : W4.cell? ⟨P, 1, none⟩ = some (.int .i64 dt) := hk4.cell 1
                have d2 : W4.cell? ⟨P, 2, none⟩ = some (.slice GA gn gc) := hk4.cell 2
                have HI9 := Lib.hid (HI3.out.mv hn4 hm4 HI3.out.row rfl rfl)
                clear hS hk4 hm4 hn4 HkP3 HAp3 HI3
                go_wp2
                go_roundg (gk - 1)
                case measure => omega
                case rel => exact ⟨k + 1, by go_num, by omega, Lib.hid ⟨_, _, _, by omega, HI9.out⟩⟩
              · rw [s2] at hS
                replace hS := Lib.hid hS
                clear s2 hsc0 hpt
                go_wp2_with fail
                refine hS.out.mono ?_
                rintro e W4 ⟨rfl, F4, hn4, hm4⟩
                have hk4 := HkP3.out.mv HAp3.out hm4
                clear d0 d1 d2
                have d0 : W4.cell? ⟨P, 0, none⟩ = some (.int .i64 a) := hk4.cell 0
                have d1 : W4.cell? ⟨P, 1, none⟩ = some (.int .i64 dt) := hk4.cell 1
                have d2 : W4.cell? ⟨P, 2, none⟩ = some (.slice GA gn gc) := hk4.cell 2
                have HI9 := Lib.hid (HI3.out.mv hn4 hm4 HI3.out.row rfl rfl)
                clear hS hk4 hm4 hn4 HkP3 HAp3 HI3
                go_wp2
                go_roundg (gk - 1)
                case measure => omega
                case rel => exact ⟨k + 1, by go_num, by omega, Lib.hid ⟨_, _, _, by omega, HI9.out⟩⟩
              · omega
            · subst q2 q3
              have hsc0 := Lib.hid hsc
              rcases hsc with ⟨s1, s2⟩ | ⟨s1, s2⟩ | s2 | s2 | ⟨s1, s2⟩
              · rw [s2] at hS
                replace hS := Lib.hid hS
                clear s1 s2 hsc0 hpt
                go_wp2_with fail
                refine hS.out.mono ?_
                rintro e W4 ⟨rfl, F4, hn4, hm4⟩
                have hk4 := HkP3.out.mv HAp3.out hm4
                clear d0 d1 d2
                have d0 : W4.cell? ⟨P, 0, none⟩ = some (.int .i64 b) := hk4.cell 0
                have d1 : W4.cell? ⟨P, 1, none⟩ = some (.int .i64 a) := hk4.cell 1
                have d2 : W4.cell? ⟨P, 2, none⟩ = some (.slice GA gn gc) := hk4.cell 2
                have HI9 := Lib.hid (HI3.out.mv hn4 hm4 HI3.out.row rfl rfl)
                clear hS hk4 hm4 hn4 HkP3 HAp3 HI3
                go_wp2
                go_roundg (gk - 1)
                case measure => omega
                case rel => exact ⟨k + 1, by go_num, by omega, Lib.hid ⟨_, _, _, by omega, HI9.out⟩⟩
              · exact absurd s1 (by simp [hab])
              · rw [s2] at hS
                replace hS := Lib.hid hS
                clear s2 hsc0 hpt
                go_wp2_with fail
                refine hS.out.mono ?_
                rintro e W4 ⟨rfl, F4, hn4, hm4⟩
                have hk4 := HkP3.out.mv HAp3.out hm4
                clear d0 d1 d2
                have d0 : W4.cell? ⟨P, 0, none⟩ = some (.int .i64 b) := hk4.cell 0
                have d1 : W4.cell? ⟨P, 1, none⟩ = some (.int .i64 a) := hk4.cell 1
                have d2 : W4.cell? ⟨P, 2, none⟩ = some (.slice GA gn gc) := hk4.cell 2
                have HI9 := Lib.hid (HI3.out.mv hn4 hm4 HI3.out.row rfl rfl)
                clear hS hk4 hm4 hn4 HkP3 HAp3 HI3
                go_wp2
                go_roundg (gk - 1)
                case measure => omega
                case rel => exact ⟨k + 1, by go_num, by omega, Lib.hid ⟨_, _, _, by omega, HI9.out⟩⟩
              · rw [s2] at hS
                replace hS := Lib.hid hS
                clear s2 hsc0 hpt
                go_wp2_with fail
                refine hS.out.mono ?_
                rintro e W4 ⟨rfl, F4, hn4, hm4⟩
                have hk4 := HkP3.out.mv HAp3.out hm4
                clear d0 d1 d2
                have d0 : W4.cell? ⟨P, 0, none⟩ = some (.int .i64 b) := hk4.cell 0
                have d1 : W4.cell? ⟨P, 1, none⟩ = some (.int .i64 a) := hk4.cell 1
                have d2 : W4.cell? ⟨P, 2, none⟩ = some (.slice GA gn gc) := hk4.cell 2
                have HI9 := Lib.hid (HI3.out.mv hn4 hm4 HI3.out.row rfl rfl)
                clear hS hk4 hm4 hn4 HkP3 HAp3 HI3
                go_wp2
                go_roundg (gk - 1)
                case measure => omega
                case rel => exact ⟨k + 1, by go_num, by omega, Lib.hid ⟨_, _, _, by omega, HI9.out⟩⟩
              · omega
            · subst q2
              have z3 : (dt == a) = false := by simpa using q3
              have hsc0 := Lib.hid hsc
              rcases hsc with ⟨s1, s2⟩ | ⟨s1, s2⟩ | s2 | s2 | ⟨s1, s2⟩
              · exact absurd s1 (by simp [*])
              · rw [s2] at hS
                replace hS := Lib.hid hS
                clear s1 s2 hsc0 hpt
                go_wp2_with fail
                refine hS.out.mono ?_
                rintro e W4 ⟨rfl, F4, hn4, hm4⟩
                have hk4 := HkP3.out.mv HAp3.out hm4
                clear d0 d1 d2
                have d0 : W4.cell? ⟨P, 0, none⟩ = some (.int .i64 b) := hk4.cell 0
                have d1 : W4.cell? ⟨P, 1, none⟩ = some (.int .i64 dt) := hk4.cell 1
                have d2 : W4.cell? ⟨P, 2, none⟩ = some (.slice GA gn gc) := hk4.cell 2
                have HM4 := Lib.hid (And.intro (HI3.out.pk.kp hm4.kp fun j e hf => (HI3.out.off j e).off hf) (fun j e => (HI3.out.off j e).mv hm4 : ∀ j, _ = some j → Apt W4 F4 j))
                have Hn4 := Lib.hid hn4
                have HkP4 := Lib.hid hk4
                clear hS hk4 hm4 hn4 HkP3 HAp3
                obtain ⟨i0, hi0, hz0, hz1, hz2⟩ := info_parts Try.infoPacket
                have hca := own_below HM4.out.1.own ((Below.refl W4.heap.size W4).alloc (Nat.le_refl _) (.cells #[.int .i64 b, .int .i64 dt, .slice GA gn gc] 34)) (fun g hg => (HM4.out.1.own.lt g hg).2)
                have hba : Below w.heap.size w (W4.alloc (.cells #[.int .i64 b, .int .i64 dt, .slice GA gn gc] 34)) := Hn4.out.2.2.alloc Hn4.out.2.2.size _
                have HC1 : Hid (∀ u ∈ [Value.int .i64 b, .int .i64 dt, .slice GA gn gc], u.oneCell' = true) := Lib.hid (by
                  intro u hu
                  simp only [List.mem_cons, List.not_mem_nil, or_false] at hu
                  rcases hu with rfl | rfl | rfl <;> rfl)
                go_wp2_with (at_builtin; refine (?_ : _ ∧ True).1)
                refine ⟨?_, trivial⟩
                refine wpList_append_app _ rfl _ _ 39 rfl w.heap.size 34 i0 (.agg #[.int .i64 0, .int .i64 0, .slice none 0 0]) 3 40 Try.underlying39 hi0 hz0 hz1 hz2 rfl _ _ _ rfl hca (some ⟨W4.heap.size, 0, none⟩) 1 1 [.int .i64 b, .int .i64 dt, .slice GA gn gc] rfl rfl (by intro e; cases e) (new_cells _ _ _ rfl) HC1.out (by unfold maxLen; omega) (by omega) hba.size ?_
                intro v9 w9 happ
                have HI9 : Hid (OrdQ w w9 F4 g (nps a b) { s with row := s.row ++ [⟨b, dt, l⟩] } v9 (es ++ [(⟨b, dt, l⟩, .slice GA gn gc)]) 0) := by
                  have hbA : Below W4.heap.size W4 (W4.alloc (.cells #[.int .i64 b, .int .i64 dt, .slice GA gn gc] 34)) := (Below.refl _ _).alloc (Nat.le_refl _) _
                  have hm := Mv.below (F := F4) hbA
                  refine Lib.hid (OrdQ.push (Hn4.out.below hbA) HI3.out.n HI3.out.ap ?_ (HM4.out.1.kp hm.kp fun j e hf => (HM4.out.2 j e).off hf) (fun j e => (HM4.out.2 j e).mv hm) Hok0.out.body happ)
                  simp [HI3.out.row]
                have HL9 : Hid ((es ++ [((⟨b, dt, l⟩ : Pk), Value.slice GA gn gc)]).length ≤ k + 1) := Lib.hid (by simp; omega)
                clear happ hca hba HM4 HkP4 Hn4 HI3 d0 d1 d2
                go_wp2
                go_roundg (gk - 1)
                case measure => omega
                case rel => exact ⟨k + 1, by go_num, by omega, Lib.hid ⟨_, _, _, HL9.out, HI9.out⟩⟩
              · rw [s2] at hS
                replace hS := Lib.hid hS
                clear s2 hsc0 hpt
                go_wp2_with fail
                refine hS.out.mono ?_
                rintro e W4 ⟨rfl, F4, hn4, hm4⟩
                have hk4 := HkP3.out.mv HAp3.out hm4
                clear d0 d1 d2
                have d0 : W4.cell? ⟨P, 0, none⟩ = some (.int .i64 b) := hk4.cell 0
                have d1 : W4.cell? ⟨P, 1, none⟩ = some (.int .i64 dt) := hk4.cell 1
                have d2 : W4.cell? ⟨P, 2, none⟩ = some (.slice GA gn gc) := hk4.cell 2
                have HI9 := Lib.hid (HI3.out.mv hn4 hm4 HI3.out.row rfl rfl)
                clear hS hk4 hm4 hn4 HkP3 HAp3 HI3
                go_wp2
                go_roundg (gk - 1)
                case measure => omega
                case rel => exact ⟨k + 1, by go_num, by omega, Lib.hid ⟨_, _, _, by omega, HI9.out⟩⟩
              · rw [s2] at hS
                replace hS := Lib.hid hS
                clear s2 hsc0 hpt
                go_wp2_with fail
                refine hS.out.mono ?_
                rintro e W4 ⟨rfl, F4, hn4, hm4⟩
                have hk4 := HkP3.out.mv HAp3.out hm4
                clear d0 d1 d2
                have d0 : W4.cell? ⟨P, 0, none⟩ = some (.int .i64 b) := hk4.cell 0
                have d1 : W4.cell? ⟨P, 1, none⟩ = some (.int .i64 dt) := hk4.cell 1
                have d2 : W4.cell? ⟨P, 2, none⟩ = some (.slice GA gn gc) := hk4.cell 2
                have HI9 := Lib.hid (HI3.out.mv hn4 hm4 HI3.out.row rfl rfl)
                clear hS hk4 hm4 hn4 HkP3 HAp3 HI3
                go_wp2
                go_roundg (gk - 1)
                case measure => omega
                case rel => exact ⟨k + 1, by go_num, by omega, Lib.hid ⟨_, _, _, by omega, HI9.out⟩⟩
              · omega
            · have hsc0 := Lib.hid hsc
              rcases hsc with ⟨s1, s2⟩ | ⟨s1, s2⟩ | s2 | s2 | ⟨s1, s2⟩
              · exact absurd s1 (by simp [*])
              · rw [s2] at hS
                replace hS := Lib.hid hS
                clear s1 s2 hsc0 hpt
                go_wp2_with fail
                refine hS.out.mono ?_
                rintro e W4 ⟨rfl, F4, hn4, hm4⟩
                have hk4 := HkP3.out.mv HAp3.out hm4
                clear d0 d1 d2
                have d0 : W4.cell? ⟨P, 0, none⟩ = some (.int .i64 fr) := hk4.cell 0
                have d1 : W4.cell? ⟨P, 1, none⟩ = some (.int .i64 dt) := hk4.cell 1
                have d2 : W4.cell? ⟨P, 2, none⟩ = some (.slice GA gn gc) := hk4.cell 2
                have HM4 := Lib.hid (And.intro (HI3.out.pk.kp hm4.kp fun j e hf => (HI3.out.off j e).off hf) (fun j e => (HI3.out.off j e).mv hm4 : ∀ j, _ = some j → Apt W4 F4 j))
                have Hn4 := Lib.hid hn4
                have HkP4 := Lib.hid hk4
                clear hS hk4 hm4 hn4 HkP3 HAp3
                obtain ⟨i0, hi0, hz0, hz1, hz2⟩ := info_parts Try.infoPacket
                have hca := own_below HM4.out.1.own ((Below.refl W4.heap.size W4).alloc (Nat.le_refl _) (.cells #[.int .i64 fr, .int .i64 dt, .slice GA gn gc] 34)) (fun g hg => (HM4.out.1.own.lt g hg).2)
                have hba : Below w.heap.size w (W4.alloc (.cells #[.int .i64 fr, .int .i64 dt, .slice GA gn gc] 34)) := Hn4.out.2.2.alloc Hn4.out.2.2.size _
                have HC1 : Hid (∀ u ∈ [Value.int .i64 fr, .int .i64 dt, .slice GA gn gc], u.oneCell' = true) := Lib.hid (by
                  intro u hu
                  simp only [List.mem_cons, List.not_mem_nil, or_false] at hu
                  rcases hu with rfl | rfl | rfl <;> rfl)
                go_wp2_with (at_builtin; refine (?_ : _ ∧ True).1)
                refine ⟨?_, trivial⟩
                refine wpList_append_app _ rfl _ _ 39 rfl w.heap.size 34 i0 (.agg #[.int .i64 0, .int .i64 0, .slice none 0 0]) 3 40 Try.underlying39 hi0 hz0 hz1 hz2 rfl _ _ _ rfl hca (some ⟨W4.heap.size, 0, none⟩) 1 1 [.int .i64 fr, .int .i64 dt, .slice GA gn gc] rfl rfl (by intro e; cases e) (new_cells _ _ _ rfl) HC1.out (by unfold maxLen; omega) (by omega) hba.size ?_
                intro v9 w9 happ
                have HI9 : Hid (OrdQ w w9 F4 g (nps a b) { s with row := s.row ++ [⟨fr, dt, l⟩] } v9 (es ++ [(⟨fr, dt, l⟩, .slice GA gn gc)]) 0) := by
                  have hbA : Below W4.heap.size W4 (W4.alloc (.cells #[.int .i64 fr, .int .i64 dt, .slice GA gn gc] 34)) := (Below.refl _ _).alloc (Nat.le_refl _) _
                  have hm := Mv.below (F := F4) hbA
                  refine Lib.hid (OrdQ.push (Hn4.out.below hbA) HI3.out.n HI3.out.ap ?_ (HM4.out.1.kp hm.kp fun j e hf => (HM4.out.2 j e).off hf) (fun j e => (HM4.out.2 j e).mv hm) Hok0.out.body happ)
                  simp [HI3.out.row]
                have HL9 : Hid ((es ++ [((⟨fr, dt, l⟩ : Pk), Value.slice GA gn gc)]).length ≤ k + 1) := Lib.hid (by simp; omega)
                clear happ hca hba HM4 HkP4 Hn4 HI3 d0 d1 d2
                go_wp2
                go_roundg (gk - 1)
                case measure => omega
                case rel => exact ⟨k + 1, by go_num, by omega, Lib.hid ⟨_, _, _, HL9.out, HI9.out⟩⟩
              · rw [s2] at hS
                replace hS := Lib.hid hS
                clear s2 hsc0 hpt
                go_wp2_with fail
                refine hS.out.mono ?_
                rintro e W4 ⟨rfl, F4, hn4, hm4⟩
                have hk4 := HkP3.out.mv HAp3.out hm4
                clear d0 d1 d2
                have d0 : W4.cell? ⟨P, 0, none⟩ = some (.int .i64 fr) := hk4.cell 0
                have d1 : W4.cell? ⟨P, 1, none⟩ = some (.int .i64 dt) := hk4.cell 1
                have d2 : W4.cell? ⟨P, 2, none⟩ = some (.slice GA gn gc) := hk4.cell 2
                have HI9 := Lib.hid (HI3.out.mv hn4 hm4 HI3.out.row rfl rfl)
                clear hS hk4 hm4 hn4 HkP3 HAp3 HI3
                go_wp2
                go_roundg (gk - 1)
                case measure => omega
                case rel => exact ⟨k + 1, by go_num, by omega, Lib.hid ⟨_, _, _, by omega, HI9.out⟩⟩
              · rw [s2] at hS
                replace hS := Lib.hid hS
                clear s2 hsc0 hpt
                go_wp2_with fail
                refine hS.out.mono ?_
                rintro e W4 ⟨rfl, F4, hn4, hm4⟩
                have hk4 := HkP3.out.mv HAp3.out hm4
                clear d0 d1 d2
                have d0 : W4.cell? ⟨P, 0, none⟩ = some (.int .i64 fr) := hk4.cell 0
                have d1 : W4.cell? ⟨P, 1, none⟩ = some (.int .i64 dt) := hk4.cell 1
                have d2 : W4.cell? ⟨P, 2, none⟩ = some (.slice GA gn gc) := hk4.cell 2
                have HI9 := Lib.hid (HI3.out.mv hn4 hm4 HI3.out.row rfl rfl)
                clear hS hk4 hm4 hn4 HkP3 HAp3 HI3
                go_wp2
                go_roundg (gk - 1)
                case measure => omega
                case rel => exact ⟨k + 1, by go_num, by omega, Lib.hid ⟨_, _, _, by omega, HI9.out⟩⟩
              · omega
        · obtain ⟨F, s, es, hle, hI⟩ := HI.out
          obtain ⟨Av, cv, rfl, hcv⟩ := own_shape hI.pk.own
          have n1 : (0 : Int) ≤ (k : Int) := by omega
          have hx2 : ((k : Int) < (n : Int) ∧ ¬ (k : Int) < 100) ∨ ¬ (k : Int) < (n : Int) := by omega
          have HQ0 : Hid (OrdQ w wr F g (nps a b) s (.slice Av es.length cv) es 0) := Lib.hid hI
          have hv : es.length ≤ 256 := by have := hI.nn.1.ok.len; rw [hI.row] at this; simpa using this
          clear hI hx HI
          rcases hx2 with ⟨hkn, n3⟩ | hkn
          all_goals
            go_wp2_with fail
            go_loopg [16] es.length (fun q iv wq => ∃ j : Nat, iv = .int .i64 j ∧ j + q = es.length ∧ Hid (∃ F s, OrdQ w wq F g (nps a b) s (.slice Av es.length cv) es j))
            case atStart => exact ⟨0, rfl, by omega, Lib.hid ⟨_, _, HQ0.out⟩⟩
            case round =>
              obtain ⟨j, rfl, hj, HJ⟩ := hrel
              obtain ⟨F, s, hJ⟩ := HJ.out
              clear HJ HQ0
              by_cases hjn : j < es.length
              · have m1 : (0 : Int) ≤ (j : Int) := by omega
                have m2 : (j : Int) < (es.length : Int) := by omega
                obtain ⟨e1, e2⟩ := hJ.j.head hjn
                have hT := hJ.nn.take 0
                rw [e1] at hT
                obtain ⟨R, c', A2, n2, c2, e3, r0, r1, r2, r3, hRl⟩ := hJ.pk.cell j hjn
                injection e3 with e3 _ e4
                subst e3 e4
                generalize hpk : es[j].1 = pk at *
                obtain ⟨pf, pd, pb⟩ := pk
                replace hT := Lib.hid hT
                have HJ := Lib.hid hJ
                have HE2 := Lib.hid e2
                have HR := Lib.hid (And.intro r0 (And.intro r1 r2))
                clear hJ e1 e2 r0 r1 r2 hpk
                unfold pkV at hT
                go_wp2_with fail
                refine hT.out.mono ?_
                rintro e W4 ⟨bv, rfl, ho, hn4, hm4⟩
                obtain ⟨A4, c4, rfl, hc4⟩ := own_shape ho
                have hba : Below W4.heap.size W4 (W4.alloc (.cells #[.int .i64 pf, .int .i64 pd, .slice A4 pb.length c4] 34)) := (Below.refl _ _).alloc (Nat.le_refl _) _
                have HJ5 := Lib.hid ((HJ.out.mv hn4 hm4 HE2.out (take_same _ _).1 (take_same _ _).2).below hba)
                have hoR := (HJ.out.off R rfl).off
                have t0 := (hba.cell (p := ⟨R, j * 3, none⟩) (by have := hm4.kp.size; show R < _; omega)).trans (cell_kp HR.out.1 hm4.kp hoR)
                have t1 := (hba.cell (p := ⟨R, j * 3 + 1, none⟩) (by have := hm4.kp.size; show R < _; omega)).trans (cell_kp HR.out.2.1 hm4.kp hoR)
                have t2 := (hba.cell (p := ⟨R, j * 3 + 2, none⟩) (by have := hm4.kp.size; show R < _; omega)).trans (cell_kp HR.out.2.2 hm4.kp hoR)
                have hkP := Bk.new W4 34 #[.int .i64 pf, .int .i64 pd, .slice A4 pb.length c4]
                have hr4 := (Rd.of_own ho).up hba
                have HP5 : Hid (W4.heap.size < (W4.alloc (.cells #[.int .i64 pf, .int .i64 pd, .slice A4 pb.length c4] 34)).heap.size) := Lib.hid hkP.lt
                have HR5 : Hid (R < (W4.alloc (.cells #[.int .i64 pf, .int .i64 pd, .slice A4 pb.length c4] 34)).heap.size) := Lib.hid (by have := hm4.kp.size; have := hba.size; omega)
                go_wp2_with fail
                generalize W4.alloc (.cells #[.int .i64 pf, .int .i64 pd, .slice A4 pb.length c4] 34) = W5 at *
                generalize W4.heap.size = P at *
                have HC : Hid (∀ W, Below W5.heap.size W5 W → (W.cell? ⟨P, 0, none⟩ = some (.int .i64 pf) ∧ W.cell? ⟨P, 1, none⟩ = some (.int .i64 pd) ∧ W.cell? ⟨P, 2, none⟩ = some (.slice A4 pb.length c4) ∧
                    W.cell? ⟨R, j * 3, none⟩ = some (.int .i64 pf) ∧ W.cell? ⟨R, j * 3 + 1, none⟩ = some (.int .i64 pd) ∧ W.cell? ⟨R, j * 3 + 2, none⟩ = some (.slice A2 n2 c2)) ∧ Below W5.heap.size W5 W) := Lib.hid fun W hb =>
                  ⟨⟨(hb.cell (p := ⟨P, 0, none⟩) HP5.out).trans (hkP.cell 0), (hb.cell (p := ⟨P, 1, none⟩) HP5.out).trans (hkP.cell 1), (hb.cell (p := ⟨P, 2, none⟩) HP5.out).trans (hkP.cell 2), (hb.cell (p := ⟨R, j * 3, none⟩) HR5.out).trans t0, (hb.cell (p := ⟨R, j * 3 + 1, none⟩) HR5.out).trans t1, (hb.cell (p := ⟨R, j * 3 + 2, none⟩) HR5.out).trans t2⟩, hb⟩
                have HG : Hid (∀ W, Below W5.heap.size W5 W → Calls Try.prog 22 #[.agg #[.int .i64 pf, .int .i64 pd, .slice A4 pb.length c4], .agg #[.int .i64 pf, .int .i64 pd, .slice A2 n2 c2]] W fun e w' => e = .returned (.bool true) ∧ Below W.heap.size W w') := by
                  refine Lib.hid fun W hb => (nSame_any ⟨pf, pd, pb⟩ ⟨pf, pd, pb⟩ A4 A2 pb.length c4 n2 c2 W (hr4.up hb) (((r3.below HJ5.out.nn.2.2).more HJ5.out.nn.2.2.size).up hb)).mono ?_
                  rintro e w' ⟨rfl, hb2⟩
                  rw [samePk_self]
                  exact ⟨rfl, hb2⟩
                clear hba ho hn4 hm4 hoR t0 t1 t2 hkP hr4 HP5 HR5 HR HJ HE2 hT r3
                go_region_held3 (fun w' => (w'.cell? ⟨P, 0, none⟩ = some (.int .i64 pf) ∧ w'.cell? ⟨P, 1, none⟩ = some (.int .i64 pd) ∧ w'.cell? ⟨P, 2, none⟩ = some (.slice A4 pb.length c4) ∧
                    w'.cell? ⟨R, j * 3, none⟩ = some (.int .i64 pf) ∧ w'.cell? ⟨R, j * 3 + 1, none⟩ = some (.int .i64 pd) ∧ w'.cell? ⟨R, j * 3 + 2, none⟩ = some (.slice A2 n2 c2)) ∧ Below W5.heap.size W5 w') (first | (refine HC.out _ ?_; (repeat' (first | assumption | exact Below.refl _ _ | exact Nat.le_refl _ | apply Below.drew)); done) | go_keep)
                  (first
                    | (go_at_call 22; refine (HG.out _ (by (repeat' (first | assumption | exact Below.refl _ _ | apply Below.drew)))).mono ?_; rintro e w10 ⟨rfl, hb10⟩; have hd10 : Below W5.heap.size W5 w10 := below_then (by (repeat' (first | assumption | exact Below.refl _ _ | apply Below.drew))) hb10; have hk10 := HC.out w10 hd10))
                all_goals
                  have HJ10 := Lib.hid (HJ5.out.below hd10)
                  clear hk10 hd10 hb10
                  go_wp2
                  go_roundg (gk - 1)
                  case measure => omega
                  case rel => exact ⟨j + 1, by go_num, by omega, Lib.hid ⟨_, _, HJ10.out⟩⟩
              · have m2 : ¬ (j : Int) < (es.length : Int) := by omega
                obtain ⟨f1, s3, f2, f3, f4⟩ := join_end hJ.n (by have := (hJ.j.last (by omega)).2.2; exact List.eq_nil_of_length_eq_zero this) hJ.ap (HRba.out.trans HREQ.out.symm)
                have f5 : resP b a = 0 := by unfold resP; rw [HRba.out]; rfl
                rw [f5] at f1
                have hT := hJ.nn.acted (nJoin_any g b a s F wr hJ.nn.1)
                rw [f1] at hT
                replace hT := Lib.hid hT
                have HF2 := Lib.hid f2
                have HF3 := Lib.hid f3
                have HF4 := Lib.hid f4
                have kc := conv_bytes
                clear hJ f1 f2 f3 f4 f5
                go_wp2_with fail
                refine hT.out.mono ?_
                rintro e W4 ⟨rfl, F4, hn4, hm4⟩
                have hS := hn4.sent1 120 0 1 120 rfl
                rw [HF2.out] at hS
                replace hS := Lib.hid hS
                clear hn4 hm4 hT
                go_wp2_with fail
                refine hS.out.mono ?_
                rintro e W5 ⟨rfl, F5, hn5, hm5⟩
                have HL := hn5.len
                rw [HF3.out] at HL
                replace HL := Lib.hid HL
                have HPt := nParted_any hn5.1 a b
                rw [HF4.out] at HPt
                replace HPt := Lib.hid HPt
                have Hb5 := Lib.hid hn5.2.2
                clear hn5 hm5 hS
                go_wp2_with fail
                refine HL.out.mono ?_
                rintro e W6 ⟨rfl, rfl⟩
                go_wp2_with fail
                refine HPt.out.mono ?_
                rintro e W7 ⟨rfl, rfl⟩
                go_wp2_with fail
                refine (HKn.out _).mono ?_
                rintro e W8 ⟨rfl, hb8⟩
                have Hb8 := Lib.hid (Hb5.out.trans (hb8.mono Hb5.out.size))
                clear hb8
                go_wp2
                go_ret
                exact ⟨rfl, Hb8.out⟩

namespace netParts
set_option maxRecDepth 100000 in
theorem lifted (os : Os) (started : os.Started) (H : Type) (enc : TypeId × Value → H) :
    ReturnsInHanded {} Try.checked os 6 .any (Rows.netPartsSpec.pre6 enc Try.prog Try.f6 Rows.netPartsRow.domain false) (Rows.netPartsSpec.post enc Try.prog Try.f6 false true false false) := by
  refine law_lift started (by kernel_rfl) Try.func6
    (ChangeSpec.witness6 (enc := enc) (C := Try.checked) false ⟨#[], #[.int .i64 0, .int .i64 0, .slice none 0 0], []⟩ 8 (by kernel_rfl) (by kernel_rfl) (by kernel_rfl) (by kernel_rfl))
    rfl ?_ (by kernel_rfl) (by kernel_rfl) ?_
  · intro ds h
    match ds, h with
    | [_, _, _], _ => rfl
  intro W base args ds p g
  have hA := g.trod
  have hval := g.val
  rw [Try.params6] at hA hval
  obtain ⟨v0, vs0, d0, ds0, p0, q0, hargs, rfl, rfl, h0, r0⟩ := trodAll_cons hA
  obtain ⟨v1, vs1, d1, ds1, p1, q1, rfl, rfl, rfl, h1, r1⟩ := trodAll_cons r0
  obtain ⟨v2, vs2, d2, ds2, p2, q2, rfl, rfl, rfl, h2, r2⟩ := trodAll_cons r1
  obtain ⟨rfl, rfl, rfl⟩ := trodAll_nil r2
  obtain rfl : args = #[v0, v1, v2] := by cases args; simp_all
  obtain ⟨a0, rfl, _, _, w0⟩ := open_int Try.underlying3 (hval 0 3 v0 rfl rfl) h0
  have b0 := bounds_i64 w0
  obtain ⟨a1, rfl, _, _, w1⟩ := open_int Try.underlying3 (hval 1 3 v1 rfl rfl) h1
  have b1 := bounds_i64 w1
  obtain ⟨A2, n2, c2, f2, rfl, hc2, hm2, hr2⟩ := given_pks (hval 2 39 v2 rfl rfl) h2
  exact netParts_walk back_said a0 a1 A2 n2 c2 f2 W b0.1 b0.2 b1.1 b1.2 hc2 hm2 hr2

theorem over : Rows.netPartsRow.holds Try.pinned (OpenSpec.ofChange Rows.netPartsSpec) :=
  OpenClaim.holds_of_wide 6 Try.f6 rfl rfl rfl rfl rfl rfl rfl ⟨rfl, rfl, rfl, rfl, rfl⟩ rfl rfl rfl rfl rfl (by kernel_rfl) Try.func6 (by kernel_rfl)
    (of_decide_eq_true (by kernel_rfl)) (by unfold Func.isWrapper; first | (rw [if_pos (by decide +kernel)]; kernel_rfl) | (rw [if_neg (by decide +kernel)]; exact ⟨rfl, rfl⟩))
    (fun os started H enc _ => lifted os started H enc)
end netParts

theorem NetParts_proved : Rows.NetPartsSaid := netParts.over
#print axioms NetParts_proved
end Go.Proofs.Ytfghbhjljbdlmaa
