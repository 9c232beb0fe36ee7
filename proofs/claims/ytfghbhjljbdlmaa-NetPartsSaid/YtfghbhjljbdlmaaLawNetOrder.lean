/- NetOrder is true at every packets, if Back does as the chapter says. -/
import Derived.Test.YtfghbhjljbdlmaaNetB
import Derived.Test.YtfghbhjljbdlmaaNetGv
import Derived.Deep.LoopGhost
import Derived.Deep.RegionHeld3
import Derived.BigQuiet
import Derived.Deep.QuietTactic
namespace Go.Proofs.Ytfghbhjljbdlmaa
open Go.ChangeShapes Go.WideShapes Go.ChangeAt Go.RowKit

/-- A row of packets whose bodies lie elsewhere, in what was handed in. -/
structure PkL (W w : World) (v : Value) (es : List (Pk × Value)) : Prop where
  own : w.ownsRow W.heap.size 34 3 v es.length (pkC es)
  each : ∀ e ∈ es, ∃ A n c, e.2 = .slice A n c ∧ Rd W W.heap.size A n e.1.body

theorem PkL.kp {W w w' : World} {G : Nat → Prop} {v : Value} {es : List (Pk × Value)} (h : PkL W w v es) (hk : Kp G w w') (hd : ∀ j, v.ownBlock = some j → ¬ G j) : PkL W w' v es := ⟨own_kp h.own hk hd, h.each⟩
structure OrdI (W w : World) (F : Nat → Prop) (g : Nat) (s : Nt) (v : Value) (es : List (Pk × Value)) : Prop where
  nn : NN W w F g s
  n : s.n = 12
  ap : s.apart = []
  row : s.row = es.map (·.1)
  pk : PkL W w v es
  off : ∀ j, v.ownBlock = some j → Apt w F j
theorem OrdI.mv {W w w' : World} {F F' : Nat → Prop} {g : Nat} {s : Nt} {v : Value} {es : List (Pk × Value)} (h : OrdI W w F g s v es) (hm : Mv F F' w w') :
    PkL W w' v es ∧ ∀ j, v.ownBlock = some j → Apt w' F' j :=
  ⟨h.pk.kp hm.kp fun j e hf => (h.off j e).off hf, fun j e => (h.off j e).mv hm⟩
theorem OrdI.below {W w w' : World} {F : Nat → Prop} {g : Nat} {s : Nt} {v : Value} {es : List (Pk × Value)} (h : OrdI W w F g s v es) (hb : Below w.heap.size w w') : OrdI W w' F g s v es :=
  have := h.mv (Mv.below hb)
  ⟨h.nn.below hb, h.n, h.ap, h.row, this.1, this.2⟩
theorem OrdI.step {W w w' : World} {F F' : Nat → Prop} {g : Nat} {s : Nt} {v : Value} {es : List (Pk × Value)} (h : OrdI W w F g s v es) (hn : NN W w' F' g s) (hm : Mv F F' w w') : OrdI W w' F' g s v es :=
  have := h.mv hm
  ⟨hn, h.n, h.ap, h.row, this.1, this.2⟩
theorem OrdI.push {W w w' : World} {F : Nat → Prop} {g : Nat} {s : Nt} {v v' : Value} {es : List (Pk × Value)} {p : Pk} {A : Option Addr} {n c : Nat} (hn : NN W w F g s) (h1 : s.n = 12) (h2 : s.apart = []) (h3 : s.row = (es ++ [(p, Value.slice A n c)]).map (·.1))
    (hp : PkL W w v es) (ho : ∀ j, v.ownBlock = some j → Apt w F j) (hr : Rd W W.heap.size A n p.body) (happ : App w w' W.heap.size 34 3 v v' es.length 1 (pkC es) (pkE (p, .slice A n c))) : OrdI W w' F g s v' (es ++ [(p, .slice A n c)]) := by
  have hk : Kp (fun k => v.ownBlock = some k) w w' := Kp.of_row happ.grow (fun g e => e)
  have hn' : NN W w' F g s := ⟨hn.1.kp hk (fun k hf e => (ho k e).off hf), hn.2.1, hn.2.2.trans (hk.below (fun k e => (hp.own.lt k e).1) hn.2.2.size)⟩
  refine ⟨hn', h1, h2, h3, ⟨by rw [List.length_append, pkC_app]; exact happ.own, fun e he => ?_⟩, fun j e => ⟨(happ.own.lt j e).2, fun hf => ?_⟩⟩
  · rcases List.mem_append.1 he with he | he
    · exact hp.each e he
    · rw [List.mem_singleton.1 he]; exact ⟨A, n, c, rfl, hr⟩
  · rcases happ.block with h | h
    · rw [h] at e; exact (ho j e).off hf
    · rw [h] at e
      injection e with e
      have := hn.lt j hf
      omega

/-- The second loop: what is under way is what is left. -/
structure OrdJ (W w : World) (F : Nat → Prop) (g : Nat) (s : Nt) (v : Value) (es : List (Pk × Value)) (j : Nat) : Prop where
  nn : NN W w F g s
  row : s.row = (es.drop j).map (·.1)
  pk : PkL W w v es
  off : ∀ k, v.ownBlock = some k → Apt w F k
theorem OrdJ.mv {W w w' : World} {F F' : Nat → Prop} {g j i : Nat} {s s' : Nt} {v : Value} {es : List (Pk × Value)} (h : OrdJ W w F g s v es j) (hn : NN W w' F' g s') (hm : Mv F F' w w') (hr : s'.row = (es.drop i).map (·.1)) : OrdJ W w' F' g s' v es i :=
  ⟨hn, hr, h.pk.kp hm.kp fun k e hf => (h.off k e).off hf, fun k e => (h.off k e).mv hm⟩
theorem OrdJ.below {W w w' : World} {F : Nat → Prop} {g j : Nat} {s : Nt} {v : Value} {es : List (Pk × Value)} (h : OrdJ W w F g s v es j) (hb : Below w.heap.size w w') : OrdJ W w' F g s v es j := h.mv (h.nn.below hb) (Mv.below hb) h.row
theorem OrdJ.head {W w : World} {F : Nat → Prop} {g j : Nat} {s : Nt} {v : Value} {es : List (Pk × Value)} (h : OrdJ W w F g s v es j) (hj : j < es.length) : s.look 0 = (es[j].1, true) ∧ (s.take 0).row = (es.drop (j + 1)).map (·.1) := by
  have hr : s.row = es[j].1 :: (es.drop (j + 1)).map (·.1) := by rw [h.row, List.drop_eq_getElem_cons hj]; rfl
  have ht : s.there 0 = true := by unfold Nt.there; rw [hr]; simp
  refine ⟨?_, ?_⟩
  · unfold Nt.look Nt.at_
    rw [if_pos ht, hr]
    rfl
  · unfold Nt.take Nt.cut
    rw [if_pos ht, hr]
    rfl
theorem OrdJ.last {W w : World} {F : Nat → Prop} {g j : Nat} {s : Nt} {v : Value} {es : List (Pk × Value)} (h : OrdJ W w F g s v es j) (hj : es.length ≤ j) : s.look 0 = (⟨0, 0, []⟩, false) ∧ s.take 0 = s ∧ s.row.length = 0 := by
  have hr : s.row = [] := by rw [h.row, List.drop_eq_nil_of_le hj]; rfl
  have ht : ¬ s.there 0 = true := by unfold Nt.there; rw [hr]; simp
  refine ⟨?_, ?_, by rw [hr]; rfl⟩
  · unfold Nt.look
    rw [if_neg ht]
  · unfold Nt.take
    rw [if_neg ht]
theorem PkL.cell {W w : World} {v : Value} {es : List (Pk × Value)} (h : PkL W w v es) (i : Nat) (hi : i < es.length) : ∃ R c A n m, v = .slice (some ⟨R, 0, none⟩) es.length c ∧ w.cell? ⟨R, i * 3, none⟩ = some (.int .i64 es[i].1.frm) ∧ w.cell? ⟨R, i * 3 + 1, none⟩ = some (.int .i64 es[i].1.dst) ∧
    w.cell? ⟨R, i * 3 + 2, none⟩ = some (.slice A n m) ∧ Rd W W.heap.size A n es[i].1.body ∧ R < w.heap.size := by
  obtain ⟨A, n, m, e2, hr⟩ := h.each _ (List.getElem_mem hi)
  have hl := h.own.lt
  rcases h.own.2 with ⟨_, h0⟩ | ⟨g, cap, cur, rfl, _, hh, h1, h2, _⟩
  · omega
  · have q := fun j (hj : j < 3) u (hu : (pkE es[i])[j]? = some u) => h.own.cells (g := g) rfl (i * 3 + j) u (by rw [pkC_at es i j hi hj]; exact hu)
    have q0 := q 0 (by omega) _ rfl
    have q1 := q 1 (by omega) _ rfl
    have q2 := q 2 (by omega) _ rfl
    rw [Addr.add_lit, Nat.zero_add] at q0 q1 q2
    exact ⟨g, cap, A, n, m, rfl, q0, q1, by rw [← e2]; exact q2, hr, (hl g rfl).2⟩
theorem node_at {s : Nt} {N : Nat} (h1 : s.n = N) (a : Int) : s.node a = (decide (0 ≤ a) && decide (a < (N : Int))) := by unfold Nt.node; rw [h1]
theorem send_ok {s : Nt} {N : Nat} {fr dt : Int} {l : List UInt8} (h1 : s.n = N) (h2 : s.parted fr dt = false) (hl : s.row.length < 256) (h : 0 ≤ fr ∧ fr < (N : Int) ∧ 0 ≤ dt ∧ dt < (N : Int)) (hb : l.length ≤ 1200) : s.send ⟨fr, dt, l⟩ = (0, { s with row := s.row ++ [⟨fr, dt, l⟩] }) := by
  obtain ⟨a1, a2, a3, a4⟩ := h
  unfold Nt.send
  simp only [node_at h1, h2, a1, a2, a3, a4, decide_true, Bool.and_self]
  rw [if_neg (by decide), if_neg (by omega), if_neg (by omega), if_neg (by decide)]
theorem send_long {s : Nt} {N : Nat} {fr dt : Int} {l : List UInt8} (h1 : s.n = N) (h : 0 ≤ fr ∧ fr < (N : Int) ∧ 0 ≤ dt ∧ dt < (N : Int)) (hb : 1200 < l.length) : s.send ⟨fr, dt, l⟩ = (3, s) := by
  obtain ⟨a1, a2, a3, a4⟩ := h
  unfold Nt.send
  simp only [node_at h1, a1, a2, a3, a4, decide_true, Bool.and_self]
  rw [if_neg (by decide), if_pos hb]
theorem send_arg {s : Nt} {N : Nat} {fr dt : Int} {l : List UInt8} (h1 : s.n = N) (h : ¬ (0 ≤ fr ∧ fr < (N : Int) ∧ 0 ≤ dt ∧ dt < (N : Int))) : s.send ⟨fr, dt, l⟩ = (2, s) := by
  unfold Nt.send
  rw [if_pos]
  simp only [node_at h1]
  rw [← Bool.not_eq_true]
  simp only [Bool.and_eq_true, decide_eq_true_eq]
  omega

set_option maxHeartbeats 8000000 in
set_option maxRecDepth 100000 in
theorem netOrder_walk (hB : BackSaid) (A : Option Addr) (n c : Nat) (f : Nat → Gp) (w : World) (_hc : n ≤ c) (_hm : c ≤ 9223372036854775807) (hA : Pks6 w w.heap.size A n f) :
    Calls Try.prog 4 #[.slice A n c] w fun e w' => e = .returned (.bool true) ∧ Below w.heap.size w w' := by
  have HKn := Lib.hid (nknown_any hB)
  have HA := Lib.hid hA
  have HN : Hid (Calls Try.prog 15 #[.int .i64 12] w fun e w' => ∃ g F, e = .returned (.tuple #[.pointer (some ⟨g, 0, none⟩), .int .i64 0]) ∧ NN w w' F g (Nt.new 12)) := by
    exact Lib.hid (nn_new 12 w (by decide) (by decide))
  clear hB hA
  go_enter Try.func4, Try.ntmps4
  go_wp2_with fail
  refine HN.out.mono ?_
  clear HN
  rintro x w1 ⟨g, F0, rfl, h1⟩
  have HI0 : Hid (∃ F s es, es.length ≤ 0 ∧ OrdI w w1 F g s (.slice none 0 0) es) :=
    Lib.hid ⟨F0, Nt.new 12, [], by simp, h1, rfl, rfl, rfl, ⟨World.ownsRow_nil _ _ _ _, fun e he => (List.not_mem_nil he).elim⟩, fun j e => by cases e⟩
  clear h1
  go_wp2_with fail
  go_loopg [5, 6] n (fun q v iv wr => ∃ k : Nat, iv = .int .i64 k ∧ k + q = n ∧ Hid (∃ F s es, es.length ≤ k ∧ OrdI w wr F g s v es))
  case atStart => exact ⟨0, rfl, by omega, HI0⟩
  case round =>
    obtain ⟨k, rfl, hk, HI⟩ := hrel
    have hcase : (k < n ∧ k < 256) ∨ (k < n ∧ ¬ k < 256) ∨ ¬ k < n := by omega
    rcases hcase with ⟨hkn, hk2⟩ | hx
    · obtain ⟨F, s, es, hle, hI⟩ := HI.out
      have hb0 := hI.nn.2.2
      obtain ⟨b, o, rfl, hlt, hcells⟩ := (HA.out.below hb0) (by omega)
      obtain ⟨hok, c0, c1, c2⟩ := hcells k hkn
      generalize hG : f k = G at *
      obtain ⟨⟨fr, dt, l⟩, GA, gn, gc⟩ := G
      have hok0 : Gp.Ok ⟨⟨fr, dt, l⟩, GA, gn, gc⟩ w w.heap.size := by
        obtain ⟨_, _, e, _, h9⟩ := HA.out (by omega)
        have := (h9 k hkn).1
        rw [hG] at this
        exact this
      simp only at c0 c1 c2
      have hgl : l.length = gn := hok0.body.1
      have hW2 : ∃ W2, W2 = wr.alloc (.cells #[.int .i64 fr, .int .i64 dt, .slice GA gn gc] 34) := ⟨_, rfl⟩
      obtain ⟨W2, hW2⟩ := hW2
      have hbl2 : Below wr.heap.size wr W2 := by rw [hW2]; exact (Below.refl _ _).alloc (Nat.le_refl _) _
      have hkP : Bk W2 wr.heap.size 34 #[.int .i64 fr, .int .i64 dt, .slice GA gn gc] := by rw [hW2]; exact Bk.new wr _ _
      have hI2 := hI.below hbl2
      have hAp : Apt W2 F wr.heap.size := ⟨hkP.lt, fun hf => by have := hI.nn.lt _ hf; omega⟩
      have HLo := nlong_any ⟨fr, dt, l⟩ GA gn gc W2
      generalize hP : wr.heap.size = P at *
      have d0 := hkP.cell 0
      have d1 := hkP.cell 1
      have d2 := hkP.cell 2
      have HW2 := Lib.hid hW2
      have HkP := Lib.hid hkP
      have HI2 := Lib.hid hI2
      have HAp := Lib.hid hAp
      have Hok0 := Lib.hid hok0
      have Hgl := Lib.hid hgl
      replace HLo := Lib.hid HLo
      have n1 : (0 : Int) ≤ (k : Int) := by omega
      have n2 : (k : Int) < (n : Int) := by omega
      have n3 : (k : Int) < 256 := by omega
      have HG := Lib.hid hG
      have HP := Lib.hid hP
      have Hb0 := Lib.hid hb0
      clear hW2 hkP hI2 hAp hok hok0 hgl hI hbl2 hcells hlt hG hP hb0 HI
      unfold pkV at HLo
      go_wp2_with fail
      rw [← HW2.out, HP.out]
      refine HLo.out.mono ?_
      rintro e W3 ⟨rfl, hb3⟩
      have hk3 := HkP.out.below hb3 HAp.out.lt
      clear d0 d1 d2
      have d0 : W3.cell? ⟨P, 0, none⟩ = some (.int .i64 fr) := hk3.cell 0
      have d1 : W3.cell? ⟨P, 1, none⟩ = some (.int .i64 dt) := hk3.cell 1
      have d2 : W3.cell? ⟨P, 2, none⟩ = some (.slice GA gn gc) := hk3.cell 2
      have HI3 := Lib.hid (HI2.out.below hb3)
      have HAp3 := Lib.hid (HAp.out.mv (Mv.below hb3))
      have HkP3 := Lib.hid hk3
      clear hk3 hb3 HLo HW2 HkP HI2 HAp HP c0 c1 c2
      by_cases h3000 : 3000 < gn
      · rw [decide_eq_true h3000]
        go_wp2_with fail
        refine (HKn.out _).mono ?_
        rintro e w4 ⟨rfl, hb4⟩
        have Hb4 := Lib.hid (HI3.out.nn.2.2.trans (hb4.mono HI3.out.nn.2.2.size))
        clear hb4
        go_wp2
        go_ret
        exact ⟨rfl, Hb4.out⟩
      · rw [decide_eq_false h3000]
        have hS := HI3.out.nn.acted (nSend_any g ⟨fr, dt, l⟩ GA gn gc s F W3 (((Hok0.out.body).below HI3.out.nn.2.2).more HI3.out.nn.2.2.size) HI3.out.nn.1)
        have hrl : s.row.length = es.length := by rw [HI3.out.row]; simp
        by_cases hr : 0 ≤ fr ∧ fr < 12 ∧ 0 ≤ dt ∧ dt < 12
        · obtain ⟨a1, a2, a3, a4⟩ := hr
          by_cases h12 : gn ≤ 1200
          · have a5 : (gn : Int) ≤ 1200 := by omega
            rw [send_ok HI3.out.n (by unfold Nt.parted; rw [HI3.out.ap]; rfl) (by omega) ⟨a1, a2, a3, a4⟩ (by rw [Hgl.out]; exact h12)] at hS
            replace hS := Lib.hid hS
            unfold pkV at hS
            go_wp2_with fail
            refine hS.out.mono ?_
            rintro e W4 ⟨rfl, F4, hn4, hm4⟩
            have hk4 := HkP3.out.mv HAp3.out hm4
            clear d0 d1 d2
            have d0 : W4.cell? ⟨P, 0, none⟩ = some (.int .i64 fr) := hk4.cell 0
            have d1 : W4.cell? ⟨P, 1, none⟩ = some (.int .i64 dt) := hk4.cell 1
            have d2 : W4.cell? ⟨P, 2, none⟩ = some (.slice GA gn gc) := hk4.cell 2
            have HM4 := Lib.hid (HI3.out.mv hm4)
            have Hn4 := Lib.hid hn4
            have HkP4 := Lib.hid hk4
            clear hS hk4 hm4 hn4 HkP3 HAp3
            obtain ⟨i0, hi0, hz0, hz1, hz2⟩ := info_parts Try.infoPacket
            have hca := own_below HM4.out.1.own ((Below.refl W4.heap.size W4).alloc (Nat.le_refl _) (.cells #[.int .i64 fr, .int .i64 dt, .slice GA gn gc] 34)) (fun g hg => (HM4.out.1.own.lt g hg).2)
            have hba : Below w.heap.size w (W4.alloc (.cells #[.int .i64 fr, .int .i64 dt, .slice GA gn gc] 34)) := Hn4.out.2.2.alloc Hn4.out.2.2.size _
            have HC1 : Hid (∀ u ∈ [Value.int .i64 fr, .int .i64 dt, .slice GA gn gc], u.oneCell' = true) := Lib.hid (by
              intro u hu
              simp only [List.mem_cons, List.not_mem_nil, or_false] at hu
              rcases hu with rfl | rfl | rfl <;> rfl)
            go_wp2_with (at_builtin; refine (?_ : _ ∧ True).1)
            refine ⟨?_, trivial⟩
            refine wpList_append_app _ rfl _ _ 39 rfl w.heap.size 34 i0 (.agg #[.int .i64 0, .int .i64 0, .slice none 0 0]) 3 40 Try.underlying39 hi0 hz0 hz1 hz2 rfl _ _ _ rfl hca (some ⟨W4.heap.size, 0, none⟩) 1 1 [.int .i64 fr, .int .i64 dt, .slice GA gn gc] rfl rfl (by intro e; cases e) (new_cells _ _ _ rfl) HC1.out (by unfold maxLen; omega) (by omega) hba.size ?_
            intro v9 w9 happ
            have HI9 : Hid (OrdI w w9 F4 g { s with row := s.row ++ [⟨fr, dt, l⟩] } v9 (es ++ [(⟨fr, dt, l⟩, .slice GA gn gc)])) := by
              have hbA : Below W4.heap.size W4 (W4.alloc (.cells #[.int .i64 fr, .int .i64 dt, .slice GA gn gc] 34)) := (Below.refl _ _).alloc (Nat.le_refl _) _
              have hm := Mv.below (F := F4) hbA
              refine Lib.hid (OrdI.push (Hn4.out.below hbA) HI3.out.n HI3.out.ap ?_ (HM4.out.1.kp hm.kp fun j e hf => (HM4.out.2 j e).off hf) (fun j e => (HM4.out.2 j e).mv hm) Hok0.out.body happ)
              simp [HI3.out.row]
            have HL9 : Hid ((es ++ [((⟨fr, dt, l⟩ : Pk), Value.slice GA gn gc)]).length ≤ k + 1) := Lib.hid (by simp; omega)
            clear happ hca hba HM4 HkP4 Hn4 HI3 d0 d1 d2
            go_wp2
            go_roundg (gk - 1)
            case measure => omega
            case rel => exact ⟨k + 1, by go_num, by omega, Lib.hid ⟨_, _, _, HL9.out, HI9.out⟩⟩
          · have a5 : ¬ (gn : Int) ≤ 1200 := by omega
            rw [send_long HI3.out.n ⟨a1, a2, a3, a4⟩ (by rw [Hgl.out]; omega)] at hS
            replace hS := Lib.hid hS
            unfold pkV at hS
            go_wp2_with fail
            refine hS.out.mono ?_
            rintro e W4 ⟨rfl, F4, hn4, hm4⟩
            have hk4 := HkP3.out.mv HAp3.out hm4
            clear d0 d1 d2
            have d0 : W4.cell? ⟨P, 0, none⟩ = some (.int .i64 fr) := hk4.cell 0
            have d1 : W4.cell? ⟨P, 1, none⟩ = some (.int .i64 dt) := hk4.cell 1
            have d2 : W4.cell? ⟨P, 2, none⟩ = some (.slice GA gn gc) := hk4.cell 2
            have HI9 := Lib.hid (OrdI.step HI3.out hn4 hm4)
            clear hS hk4 hm4 hn4 HkP3 HAp3 HI3
            go_wp2
            go_roundg (gk - 1)
            case measure => omega
            case rel => exact ⟨k + 1, by go_num, by omega, Lib.hid ⟨_, _, _, by omega, HI9.out⟩⟩
        · rw [send_arg HI3.out.n hr] at hS
          have hr' : (¬ 0 ≤ fr) ∨ (0 ≤ fr ∧ ¬ fr < 12) ∨ (0 ≤ fr ∧ fr < 12 ∧ ¬ 0 ≤ dt) ∨ (0 ≤ fr ∧ fr < 12 ∧ 0 ≤ dt ∧ ¬ dt < 12) := by omega
          replace hS := Lib.hid hS
          unfold pkV at hS
          clear hr
          rcases hr' with b1 | ⟨b1, b2⟩ | ⟨b1, b2, b3⟩ | ⟨b1, b2, b3, b4⟩
          all_goals
            go_wp2_with fail
            refine hS.out.mono ?_
            rintro e W4 ⟨rfl, F4, hn4, hm4⟩
            have hk4 := HkP3.out.mv HAp3.out hm4
            clear d0 d1 d2
            have d0 : W4.cell? ⟨P, 0, none⟩ = some (.int .i64 fr) := hk4.cell 0
            have d1 : W4.cell? ⟨P, 1, none⟩ = some (.int .i64 dt) := hk4.cell 1
            have d2 : W4.cell? ⟨P, 2, none⟩ = some (.slice GA gn gc) := hk4.cell 2
            have HI9 := Lib.hid (OrdI.step HI3.out hn4 hm4)
            clear hS hk4 hm4 hn4 HkP3 HAp3 HI3
            go_wp2
            go_roundg (gk - 1)
            case measure => omega
            case rel => exact ⟨k + 1, by go_num, by omega, Lib.hid ⟨_, _, _, by omega, HI9.out⟩⟩
    · obtain ⟨F, s, es, hle, hI⟩ := HI.out
      have hv : es.length ≤ 256 := by have := hI.nn.1.ok.len; rw [hI.row] at this; simpa using this
      obtain ⟨Av, cv, rfl, hcv⟩ := own_shape hI.pk.own
      have HI2 := Lib.hid hI
      clear hI HI
      have n1 : (0 : Int) ≤ (k : Int) := by omega
      have n5 : ((k : Int) < (n : Int) → (k : Int) < 256 → False) := by intro x y; rcases hx with hx | hx <;> omega
      have hx2 : ((k : Int) < (n : Int) ∧ ¬ (k : Int) < 256) ∨ ¬ (k : Int) < (n : Int) := by omega
      have HJ0 : Hid (OrdJ w wr F g s (.slice Av es.length cv) es 0) := Lib.hid ⟨HI2.out.nn, by rw [HI2.out.row]; rfl, HI2.out.pk, HI2.out.off⟩
      clear HI2 hx n5
      rcases hx2 with ⟨hkn, n3⟩ | hkn
      all_goals
        go_wp2_with fail
        go_loopg [10] es.length (fun q iv wq => ∃ j : Nat, iv = .int .i64 j ∧ j + q = es.length ∧ Hid (∃ F s, OrdJ w wq F g s (.slice Av es.length cv) es j))
        case atStart => exact ⟨0, rfl, by omega, Lib.hid ⟨_, _, HJ0.out⟩⟩
        case round =>
          obtain ⟨j, rfl, hj, HJ⟩ := hrel
          obtain ⟨F, s, hJ⟩ := HJ.out
          clear HJ HJ0
          by_cases hjn : j < es.length
          · have m1 : (0 : Int) ≤ (j : Int) := by omega
            have m2 : (j : Int) < (es.length : Int) := by omega
            obtain ⟨e1, e2⟩ := hJ.head hjn
            have hT := hJ.nn.take 0
            rw [e1] at hT
            obtain ⟨R, c', A2, n2, c2, e3, r0, r1, r2, r3, hRl⟩ := hJ.pk.cell j hjn
            injection e3 with e3 _ e4
            subst e3 e4
            generalize hpk : es[j].1 = pk at *
            obtain ⟨pf, pd, pb⟩ := pk
            replace hT := Lib.hid hT
            have HJ := Lib.hid hJ
            have HE2 := Lib.hid e2
            have HR := Lib.hid (And.intro r0 (And.intro r1 r2))
            clear hJ e1 e2 r0 r1 r2 hpk
            unfold pkV at hT
            go_wp2_with fail
            refine hT.out.mono ?_
            rintro e W4 ⟨bv, rfl, ho, hn4, hm4⟩
            obtain ⟨A4, c4, rfl, hc4⟩ := own_shape ho
            have hba : Below W4.heap.size W4 (W4.alloc (.cells #[.int .i64 pf, .int .i64 pd, .slice A4 pb.length c4] 34)) := (Below.refl _ _).alloc (Nat.le_refl _) _
            have HJ5 := Lib.hid ((HJ.out.mv hn4 hm4 HE2.out).below hba)
            have hoR := (HJ.out.off R rfl).off
            have t0 := (hba.cell (p := ⟨R, j * 3, none⟩) (by have := hm4.kp.size; show R < _; omega)).trans (cell_kp HR.out.1 hm4.kp hoR)
            have t1 := (hba.cell (p := ⟨R, j * 3 + 1, none⟩) (by have := hm4.kp.size; show R < _; omega)).trans (cell_kp HR.out.2.1 hm4.kp hoR)
            have t2 := (hba.cell (p := ⟨R, j * 3 + 2, none⟩) (by have := hm4.kp.size; show R < _; omega)).trans (cell_kp HR.out.2.2 hm4.kp hoR)
            have hkP := Bk.new W4 34 #[.int .i64 pf, .int .i64 pd, .slice A4 pb.length c4]
            have hr4 := (Rd.of_own ho).up hba
            have HP5 : Hid (W4.heap.size < (W4.alloc (.cells #[.int .i64 pf, .int .i64 pd, .slice A4 pb.length c4] 34)).heap.size) := Lib.hid hkP.lt
            have HR5 : Hid (R < (W4.alloc (.cells #[.int .i64 pf, .int .i64 pd, .slice A4 pb.length c4] 34)).heap.size) := Lib.hid (by have := hm4.kp.size; have := hba.size; omega)
            go_wp2_with fail
            generalize W4.alloc (.cells #[.int .i64 pf, .int .i64 pd, .slice A4 pb.length c4] 34) = W5 at *
            generalize W4.heap.size = P at *
            have HC : Hid (∀ W, Below W5.heap.size W5 W → (W.cell? ⟨P, 0, none⟩ = some (.int .i64 pf) ∧ W.cell? ⟨P, 1, none⟩ = some (.int .i64 pd) ∧ W.cell? ⟨P, 2, none⟩ = some (.slice A4 pb.length c4) ∧
                W.cell? ⟨R, j * 3, none⟩ = some (.int .i64 pf) ∧ W.cell? ⟨R, j * 3 + 1, none⟩ = some (.int .i64 pd) ∧ W.cell? ⟨R, j * 3 + 2, none⟩ = some (.slice A2 n2 c2)) ∧ Below W5.heap.size W5 W) := Lib.hid fun W hb =>
              ⟨⟨(hb.cell (p := ⟨P, 0, none⟩) HP5.out).trans (hkP.cell 0), (hb.cell (p := ⟨P, 1, none⟩) HP5.out).trans (hkP.cell 1), (hb.cell (p := ⟨P, 2, none⟩) HP5.out).trans (hkP.cell 2), (hb.cell (p := ⟨R, j * 3, none⟩) HR5.out).trans t0, (hb.cell (p := ⟨R, j * 3 + 1, none⟩) HR5.out).trans t1, (hb.cell (p := ⟨R, j * 3 + 2, none⟩) HR5.out).trans t2⟩, hb⟩
            have HG : Hid (∀ W, Below W5.heap.size W5 W → Calls Try.prog 22 #[.agg #[.int .i64 pf, .int .i64 pd, .slice A4 pb.length c4], .agg #[.int .i64 pf, .int .i64 pd, .slice A2 n2 c2]] W fun e w' => e = .returned (.bool true) ∧ Below W.heap.size W w') := by
              refine Lib.hid fun W hb => (nSame_any ⟨pf, pd, pb⟩ ⟨pf, pd, pb⟩ A4 A2 pb.length c4 n2 c2 W (hr4.up hb) (((r3.below HJ5.out.nn.2.2).more HJ5.out.nn.2.2.size).up hb)).mono ?_
              rintro e w' ⟨rfl, hb2⟩
              rw [samePk_self]
              exact ⟨rfl, hb2⟩
            clear hba ho hn4 hm4 hoR t0 t1 t2 hkP hr4 HP5 HR5 HR HJ HE2 hT r3
            go_region_held3 (fun w' => (w'.cell? ⟨P, 0, none⟩ = some (.int .i64 pf) ∧ w'.cell? ⟨P, 1, none⟩ = some (.int .i64 pd) ∧ w'.cell? ⟨P, 2, none⟩ = some (.slice A4 pb.length c4) ∧
                w'.cell? ⟨R, j * 3, none⟩ = some (.int .i64 pf) ∧ w'.cell? ⟨R, j * 3 + 1, none⟩ = some (.int .i64 pd) ∧ w'.cell? ⟨R, j * 3 + 2, none⟩ = some (.slice A2 n2 c2)) ∧ Below W5.heap.size W5 w') (first | (refine HC.out _ ?_; (repeat' (first | assumption | exact Below.refl _ _ | exact Nat.le_refl _ | apply Below.drew)); done) | go_keep)
              (first
                | (go_at_call 22; refine (HG.out _ (by (repeat' (first | assumption | exact Below.refl _ _ | apply Below.drew)))).mono ?_; rintro e w10 ⟨rfl, hb10⟩; have hd10 : Below W5.heap.size W5 w10 := below_then (by (repeat' (first | assumption | exact Below.refl _ _ | apply Below.drew))) hb10; have hk10 := HC.out w10 hd10))
            all_goals
              have HJ10 := Lib.hid (HJ5.out.below hd10)
              clear hk10 hd10 hb10
              go_wp2
              go_roundg (gk - 1)
              case measure => omega
              case rel => exact ⟨j + 1, by go_num, by omega, Lib.hid ⟨_, _, HJ10.out⟩⟩
          · have m2 : ¬ (j : Int) < (es.length : Int) := by omega
            obtain ⟨e1, e2, e3⟩ := hJ.last (by omega)
            have hT := hJ.nn.take 0
            rw [e1, e2] at hT
            replace hT := Lib.hid hT
            have HJ := Lib.hid hJ
            have HE3 := Lib.hid e3
            clear hJ e1 e2 e3
            unfold pkV at hT
            go_wp2_with fail
            refine hT.out.mono ?_
            rintro e W4 ⟨bv, rfl, ho, hn4, hm4⟩
            obtain ⟨A4, c4, rfl, hc4⟩ := own_shape ho
            have hba : Below W4.heap.size W4 (W4.alloc (.cells #[.int .i64 0, .int .i64 0, .slice A4 0 c4] 34)) := (Below.refl _ _).alloc (Nat.le_refl _) _
            have HL := (hn4.below hba).len
            rw [HE3.out] at HL
            replace HL := Lib.hid HL
            have Hb4 := Lib.hid (hn4.below hba).2.2
            clear ho hn4 hm4 hba
            go_wp2_with fail
            refine HL.out.mono ?_
            rintro e W5 ⟨rfl, rfl⟩
            go_wp2_with fail
            refine (HKn.out _).mono ?_
            rintro e W6 ⟨rfl, hb6⟩
            have Hb6 := Lib.hid (Hb4.out.trans (hb6.mono Hb4.out.size))
            clear hb6
            go_wp2
            go_ret
            exact ⟨rfl, Hb6.out⟩

namespace netOrder
set_option maxRecDepth 100000 in
theorem lifted (os : Os) (started : os.Started) (H : Type) (enc : TypeId × Value → H) :
    ReturnsInHanded {} Try.checked os 4 .any (Rows.netOrderSpec.pre6 enc Try.prog Try.f4 Rows.netOrderRow.domain false) (Rows.netOrderSpec.post enc Try.prog Try.f4 false true false false) := by
  refine law_lift started (by kernel_rfl) Try.func4
    (ChangeSpec.witness6 (enc := enc) (C := Try.checked) false ⟨#[], #[.slice none 0 0], []⟩ 8 (by kernel_rfl) (by kernel_rfl) (by kernel_rfl) (by kernel_rfl))
    rfl ?_ (by kernel_rfl) (by kernel_rfl) ?_
  · intro ds h
    match ds, h with
    | [_], _ => rfl
  intro W base args ds p g
  have hA := g.trod
  have hval := g.val
  rw [Try.params4] at hA hval
  obtain ⟨v0, vs0, d0, ds0, p0, q0, hargs, rfl, rfl, h0, r0⟩ := trodAll_cons hA
  obtain ⟨rfl, rfl, rfl⟩ := trodAll_nil r0
  obtain rfl : args = #[v0] := by cases args; simp_all
  obtain ⟨A0, n0, c0, f0, rfl, hc0, hm0, hr0⟩ := given_pks (hval 0 39 v0 rfl rfl) h0
  exact netOrder_walk back_said A0 n0 c0 f0 W hc0 hm0 hr0

theorem over : Rows.netOrderRow.holds Try.pinned (OpenSpec.ofChange Rows.netOrderSpec) :=
  OpenClaim.holds_of_wide 4 Try.f4 rfl rfl rfl rfl rfl rfl rfl ⟨rfl, rfl, rfl, rfl, rfl⟩ rfl rfl rfl rfl rfl (by kernel_rfl) Try.func4 (by kernel_rfl)
    (of_decide_eq_true (by kernel_rfl)) (by unfold Func.isWrapper; first | (rw [if_pos (by decide +kernel)]; kernel_rfl) | (rw [if_neg (by decide +kernel)]; exact ⟨rfl, rfl⟩))
    (fun os started H enc _ => lifted os started H enc)
end netOrder

theorem NetOrder_proved : Rows.NetOrderSaid := netOrder.over
#print axioms NetOrder_proved
end Go.Proofs.Ytfghbhjljbdlmaa
