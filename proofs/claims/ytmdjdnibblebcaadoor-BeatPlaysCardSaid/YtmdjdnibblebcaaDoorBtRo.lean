/- Layer 14, the document's view: Order. -/
import Derived.Test.YtmdjdnibblebcaaDoorBtRh
import Derived.Test.YtmdjdnibblebcaaDoorBtU
namespace Go.Proofs.YtmdjdnibblebcaaDoor
open Go.RowKit

/-- Those of the first i nodes that a set has, and that are asked for. -/
def pr (P : Nat → Bool) (x i : Nat) : List Nat := (List.range i).filter fun k => P k && x.testBit k
theorem pr_succ (P : Nat → Bool) (x i : Nat) : pr P x (i + 1) = pr P x i ++ if (P i && x.testBit i) = true then [i] else [] := by
  unfold pr
  rw [List.range_succ, List.filter_append]
  congr 1
  by_cases e : (P i && x.testBit i) = true
  · rw [if_pos e, List.filter_cons, if_pos e, List.filter_nil]
  · rw [if_neg e, List.filter_cons, if_neg e, List.filter_nil]
theorem pr_more (P : Nat → Bool) (x n : Nat) (hb : ∀ k, n ≤ k → x.testBit k = false) : ∀ m, pr P x (n + m) = pr P x n
  | 0 => rfl
  | m + 1 => by
    rw [show n + (m + 1) = n + m + 1 by omega, pr_succ, pr_more P x n hb m, hb (n + m) (by omega)]
    simp
theorem pr_all (P : Nat → Bool) (x n : Nat) (hn : n ≤ 12) (hb : ∀ k, n ≤ k → x.testBit k = false) : pr P x n = (lstU x).filter P := by
  have h1 := pr_more P x n hb (12 - n)
  rw [show n + (12 - n) = 12 by omega] at h1
  rw [← h1]
  unfold pr lstU
  rw [List.filter_filter]
/-- Which nodes the t-th round asks for. -/
def rdP (site : Nat → Nat) (home : Int) (t i : Nat) : Bool := if t = 0 then decide ((site i : Int) = home) else decide ((site i : Int) = (t : Int) - 1 ∧ (t : Int) - 1 ≠ home)
def acL (site : Nat → Nat) (home : Int) (l : List Nat) : Nat → List Nat
  | 0 => []
  | t + 1 => l.filter (fun i => decide ((site i : Int) = home)) ++ (List.range t).flatMap fun (k : Nat) => if (k : Int) = home then [] else l.filter fun i => site i == k
theorem acL_succ (site : Nat → Nat) (home : Int) (l : List Nat) (t : Nat) : acL site home l (t + 1) = acL site home l t ++ l.filter (rdP site home t) := by
  cases t with
  | zero =>
    show l.filter _ ++ [] = [] ++ _
    rw [List.append_nil, List.nil_append]
    congr 1
  | succ t =>
    show l.filter _ ++ (List.range (t + 1)).flatMap _ = (l.filter _ ++ (List.range t).flatMap _) ++ _
    rw [List.range_succ, List.flatMap_append, ← List.append_assoc]
    congr 1
    simp only [List.flatMap_cons, List.flatMap_nil, List.append_nil]
    by_cases e : (t : Int) = home
    · rw [if_pos e]
      symm
      rw [List.filter_eq_nil_iff]
      intro i _
      unfold rdP
      rw [if_neg (by omega)]
      simp
      omega
    · rw [if_neg e]
      refine List.filter_congr fun i _ => ?_
      unfold rdP
      rw [if_neg (by omega), Bool.eq_iff_iff]
      simp
      omega
theorem acL_all (v : Vw) (home : Int) : acL v.site home (lstU v.up) 13 = v.order home := rfl
theorem bitrem (x j : Nat) : ((x : Int) / 2 ^ j).tmod 2 = if x.testBit j then 1 else 0 := by
  have h1 : ((x : Int) / 2 ^ j) = ((x / 2 ^ j : Nat) : Int) := by simp
  rw [h1, Int.tmod_eq_emod_of_nonneg (Int.natCast_nonneg _), Nat.testBit_eq_decide_div_mod_eq]
  by_cases h : x / 2 ^ j % 2 = 1
  · simp [h]; omega
  · have : x / 2 ^ j % 2 = 0 := by omega
    simp [this]; omega
structure RoI (W : World) (val : Value) (l : List Nat) (wr : World) : Prop where
  own : wr.ownsRow W.heap.size 3 1 val l.length (natsV l)
  bel : Below W.heap.size W wr
section
variable {w : World} {g s2 cs t2 ct : Nat} {v : Vw} {now ch : Nat} {h : Nat → Int}
set_option maxRecDepth 100000 in
set_option maxHeartbeats 4000000 in
theorem rorder_any (r : RM w g s2 cs t2 ct v now ch h) (home : Int) : Calls Tryd.prog 18 #[.pointer (some ⟨g, 0, none⟩), .int .i64 home] w (OrdE w (v.order home)) := by
  have HU := Lib.hid (rup_any r)
  have HR := Lib.hid r
  have hn12 := r.ok.n12
  have hup := Vw.up_lt r.ok
  obtain ⟨i0, hi0, hz0, hz1, hz2⟩ := info_parts infoIntB
  obtain ⟨X, hX⟩ : ∃ X, X = v.up := ⟨_, rfl⟩
  rw [← hX] at HU hup
  have HX := Lib.hid hX
  have HLB : Hid (∀ t, (acL v.site home (lstU X) t).length ≤ 12 * t) := Lib.hid fun t => by
    induction t with
    | zero => simp [acL]
    | succ t ih =>
      rw [acL_succ, List.length_append]
      have h1 : ((lstU X).filter (rdP v.site home t)).length ≤ (lstU X).length := List.length_filter_le _ _
      have h2 : (lstU X).length ≤ 12 := by
        unfold lstU
        exact Nat.le_trans (List.length_filter_le _ _) (by simp)
      omega
  clear r hX
  go_enter Tryd.func18, Tryd.ntmps18
  go_wp2_with fail
  refine HU.out.mono ?_
  rintro e w1 ⟨rfl, q, hw1⟩
  have HS0 : Hid (RoI w (.slice none 0 0) (acL v.site home (lstU X) 0) w1) := Lib.hid ⟨World.ownsRow_nil _ _ _ _, by rw [hw1]; exact bel_drewN (Below.refl _ _) q⟩
  clear HU hw1
  go_wp2
  go_loopg [6, 7] 13 (fun gk a d wr => ∃ (t N : Nat) (A : Option Addr) (c : Nat), d = .int .i64 ((t : Int) - 1) ∧ t + gk = 13 ∧ a = .slice A N c ∧ Hid (RoI w (.slice A N c) (acL v.site home (lstU X) t) wr ∧ N = (acL v.site home (lstU X) t).length))
  case atStart => exact ⟨0, 0, none, 0, rfl, rfl, rfl, Lib.hid ⟨HS0.out, rfl⟩⟩
  case round =>
    clear HS0
    obtain ⟨t, NN, A, c, rfl, htg, rfl, HII⟩ := hrel
    have HI := Lib.hid HII.out.1
    have HNN := Lib.hid HII.out.2
    have HBB : Hid (∀ k, v.n ≤ k → X.testBit k = false) := Lib.hid fun k hk => by
      rw [HX.out, Vw.up_bit]; simp; omega
    clear HII
    by_cases ht13 : t < 13
    · have t1 : (t : Int) - 1 < 12 := by omega
      have te1 : IntKind.i64.wrap ((t : Int) - 1 + 1) = ((t + 1 : Nat) : Int) - 1 := by rw [IntKind.wrap_i64]; omega
      obtain ⟨gko, hgko⟩ : ∃ z, z = gk := ⟨_, rfl⟩
      subst hgko
      by_cases ht0' : t = 0
      · have t2 : (t : Int) - 1 < 0 := by omega
        have ht0 := Lib.hid ht0'
        clear ht0'
        go_wp2
        go_loopg [6, 9] v.n (fun gk a d wr => ∃ (i N : Nat) (A2 : Option Addr) (c2 : Nat), d = .int .i64 (i : Int) ∧ i + gk = v.n ∧ a = .slice A2 N c2 ∧ Hid (RoI w (.slice A2 N c2) (acL v.site home (lstU X) t ++ pr (rdP v.site home t) X i) wr ∧ N = (acL v.site home (lstU X) t ++ pr (rdP v.site home t) X i).length))
        case atStart => exact ⟨0, NN, A, c, rfl, by omega, rfl, Lib.hid (by rw [show pr (rdP v.site home t) X 0 = [] from rfl, List.append_nil]; exact ⟨HI.out, HNN.out⟩)⟩
        case round =>
          clear HI
          obtain ⟨i, N, A2, c2, rfl, hig, rfl, HJ⟩ := hrel
          have hr := HR.out.below HJ.out.1.bel
          have q0 := hr.c0
          by_cases hin : i < v.n
          · have i1 : (i : Int) < (v.n : Int) := by omega
            have i0' : ¬ (i : Int) < 0 := by omega
            have ie1 : IntKind.i64.wrap ((i : Int) + 1) = ((i + 1 : Nat) : Int) := by rw [IntKind.wrap_i64]; omega
            have q1 := hr.site i hin
            have j5 : IntKind.u64.wrap (i : Int) = (i : Int) := by rw [IntKind.wrap_u64]; omega
            have hmin : min i 32 = i := by omega
            have hbit := bitrem X i
            have hbit2 : ((X : Int) / 2 ^ i) % 2 = if X.testBit i then 1 else 0 := by
              rw [← hbit]
              have h9 : ((X : Int) / 2 ^ i) = ((X / 2 ^ i : Nat) : Int) := by simp
              rw [h9]
              exact (Int.tmod_eq_emod_of_nonneg (Int.natCast_nonneg _)).symm
            clear hr
            by_cases hsi : ((v.site i : Nat) : Int) = home
            · have s1 : (((v.site i : Nat) : Int) == home) = true := by simpa using hsi
              cases hb : X.testBit i with
              | true =>
                rw [hb] at hbit hbit2
                have b1 : ((X : Int) / 2 ^ i).tmod 2 = 1 := hbit
                have b2 : ((X : Int) / 2 ^ i) % 2 = 1 := hbit2
                clear hbit hbit2
                have HP : Hid (pr (rdP v.site home t) X (i + 1) = pr (rdP v.site home t) X i ++ [i]) := Lib.hid (by rw [pr_succ, if_pos (by rw [hb]; simp [rdP, ht0.out, hsi])])
                clear hsi hb hmin
                have HO := Lib.hid HJ.out.1.own
                have hNN : N ≤ 1000 := by
                  have h1 := HJ.out.2
                  rw [List.length_append] at h1
                  have h2 := HLB.out t
                  have h3 : (pr (rdP v.site home t) X i).length ≤ i := by
                    unfold pr
                    exact Nat.le_trans (List.length_filter_le _ _) (by simp)
                  omega
                have HOw : Hid (wr.ownsRow w.heap.size 3 1 (.slice A2 N c2) N (natsV (acL v.site home (lstU X) t ++ pr (rdP v.site home t) X i))) := Lib.hid (by have h1 := HO.out; rwa [← HJ.out.2] at h1)
                go_wp2_with (at_builtin; refine (?_ : _ ∧ True).1)
                refine ⟨?_, trivial⟩
                refine wpList_append_app _ rfl _ _ 22 rfl w.heap.size 3 i0 (.int .i64 0) 1 8 Tryd.underlying22 hi0 hz0 hz1 hz2 rfl _ N _ rfl (own_below HOw.out (belA wr _) fun k hk => (HOw.out.lt k hk).2) (some ⟨wr.heap.size, 0, none⟩) 1 1 (natsV [i]) rfl rfl (by intro e; cases e) (new_cells wr _ 3 rfl) (natsV_one _) (by unfold maxLen; omega) (by omega) (by have := HJ.out.1.bel.size; simp; omega) ?_
                intro v' w5 ha
                obtain ⟨A6, c6, rfl, _⟩ := own_shape ha.own
                have HM : Hid (RoI w (.slice A6 (N + 1) c6) (acL v.site home (lstU X) t ++ pr (rdP v.site home t) X (i + 1)) w5 ∧ N + 1 = (acL v.site home (lstU X) t ++ pr (rdP v.site home t) X (i + 1)).length) := Lib.hid (by
                  have hN := HJ.out.2
                  have hlen : N + 1 = (acL v.site home (lstU X) t ++ pr (rdP v.site home t) X (i + 1)).length := by
                    rw [HP.out, ← List.append_assoc, List.length_append, ← hN]; rfl
                  refine ⟨⟨?_, ha.below (HJ.out.1.bel.trans ((belA wr _).mono HJ.out.1.bel.size)) (by have := HJ.out.1.bel.size; simp; omega) fun k hk => (HOw.out.lt k hk).1⟩, hlen⟩
                  rw [← hlen, HP.out, ← List.append_assoc]
                  have h1 := ha.own
                  rwa [show natsV (acL v.site home (lstU X) t ++ pr (rdP v.site home t) X i) ++ natsV [i] = natsV (acL v.site home (lstU X) t ++ pr (rdP v.site home t) X i ++ [i]) by simp [natsV]] at h1)
                clear ha HO HOw
                go_wp2
                go_roundg (gk - 1)
                case measure => omega
                case rel => exact ⟨i + 1, N + 1, A6, c6, by go_num, by omega, rfl, HM⟩
              | false =>
                rw [hb] at hbit hbit2
                have b1 : ((X : Int) / 2 ^ i).tmod 2 = 0 := hbit
                have b2 : ((X : Int) / 2 ^ i) % 2 = 0 := hbit2
                clear hbit hbit2
                have HP : Hid (pr (rdP v.site home t) X (i + 1) = pr (rdP v.site home t) X i) := Lib.hid (by rw [pr_succ, if_neg (by rw [hb]; simp), List.append_nil])
                have HM : Hid (RoI w (.slice A2 N c2) (acL v.site home (lstU X) t ++ pr (rdP v.site home t) X (i + 1)) wr ∧ N = (acL v.site home (lstU X) t ++ pr (rdP v.site home t) X (i + 1)).length) := Lib.hid (by rw [HP.out]; exact ⟨HJ.out.1, HJ.out.2⟩)
                clear hsi hb hmin
                go_wp2
                go_roundg (gk - 1)
                case measure => omega
                case rel => exact ⟨i + 1, N, A2, c2, by go_num, by omega, rfl, HM⟩
            · have s1 : (((v.site i : Nat) : Int) == home) = false := by simpa using hsi
              have HP : Hid (pr (rdP v.site home t) X (i + 1) = pr (rdP v.site home t) X i) := Lib.hid (by rw [pr_succ, if_neg (by simp [rdP, ht0.out, hsi]), List.append_nil])
              have HM : Hid (RoI w (.slice A2 N c2) (acL v.site home (lstU X) t ++ pr (rdP v.site home t) X (i + 1)) wr ∧ N = (acL v.site home (lstU X) t ++ pr (rdP v.site home t) X (i + 1)).length) := Lib.hid (by rw [HP.out]; exact ⟨HJ.out.1, HJ.out.2⟩)
              clear hsi hmin hbit hbit2
              go_wp2
              go_roundg (gk - 1)
              case measure => omega
              case rel => exact ⟨i + 1, N, A2, c2, by go_num, by omega, rfl, HM⟩
          · obtain rfl : i = v.n := by omega
            have i1 : ¬ (v.n : Int) < (v.n : Int) := by omega
            have HM : Hid (RoI w (.slice A2 N c2) (acL v.site home (lstU X) (t + 1)) wr ∧ N = (acL v.site home (lstU X) (t + 1)).length) := Lib.hid (by
              rw [acL_succ, ← pr_all (rdP v.site home t) X v.n hn12 HBB.out]
              exact HJ.out)
            go_wp2
            go_roundg (gko - 1)
            case measure => omega
            case rel => exact ⟨t + 1, N, A2, c2, by go_num, by omega, rfl, HM⟩
      · have t2 : ¬ (t : Int) - 1 < 0 := by omega
        have ht0 := Lib.hid ht0'
        clear ht0'
        go_wp2
        go_loopg [6, 9] v.n (fun gk a d wr => ∃ (i N : Nat) (A2 : Option Addr) (c2 : Nat), d = .int .i64 (i : Int) ∧ i + gk = v.n ∧ a = .slice A2 N c2 ∧ Hid (RoI w (.slice A2 N c2) (acL v.site home (lstU X) t ++ pr (rdP v.site home t) X i) wr ∧ N = (acL v.site home (lstU X) t ++ pr (rdP v.site home t) X i).length))
        case atStart => exact ⟨0, NN, A, c, rfl, by omega, rfl, Lib.hid (by rw [show pr (rdP v.site home t) X 0 = [] from rfl, List.append_nil]; exact ⟨HI.out, HNN.out⟩)⟩
        case round =>
          clear HI
          obtain ⟨i, N, A2, c2, rfl, hig, rfl, HJ⟩ := hrel
          have hr := HR.out.below HJ.out.1.bel
          have q0 := hr.c0
          by_cases hin : i < v.n
          · have i1 : (i : Int) < (v.n : Int) := by omega
            have i0' : ¬ (i : Int) < 0 := by omega
            have ie1 : IntKind.i64.wrap ((i : Int) + 1) = ((i + 1 : Nat) : Int) := by rw [IntKind.wrap_i64]; omega
            have q1 := hr.site i hin
            have j5 : IntKind.u64.wrap (i : Int) = (i : Int) := by rw [IntKind.wrap_u64]; omega
            have hmin : min i 32 = i := by omega
            have hbit := bitrem X i
            have hbit2 : ((X : Int) / 2 ^ i) % 2 = if X.testBit i then 1 else 0 := by
              rw [← hbit]
              have h9 : ((X : Int) / 2 ^ i) = ((X / 2 ^ i : Nat) : Int) := by simp
              rw [h9]
              exact (Int.tmod_eq_emod_of_nonneg (Int.natCast_nonneg _)).symm
            clear hr
            by_cases hsi : ((v.site i : Nat) : Int) = (t : Int) - 1
            · have s1 : (((v.site i : Nat) : Int) == (t : Int) - 1) = true := by simpa using hsi
              by_cases hho : (t : Int) - 1 = home
              · have s2 : ((t : Int) - 1 == home) = true := by simpa using hho
                have s3 : ((t : Int) - 1 != home) = false := by simpa using hho
                have HP : Hid (pr (rdP v.site home t) X (i + 1) = pr (rdP v.site home t) X i) := Lib.hid (by rw [pr_succ, if_neg (by simp [rdP, ht0.out, hho]), List.append_nil])
                have HM : Hid (RoI w (.slice A2 N c2) (acL v.site home (lstU X) t ++ pr (rdP v.site home t) X (i + 1)) wr ∧ N = (acL v.site home (lstU X) t ++ pr (rdP v.site home t) X (i + 1)).length) := Lib.hid (by rw [HP.out]; exact ⟨HJ.out.1, HJ.out.2⟩)
                clear hsi hho hmin hbit hbit2
                go_wp2
                go_roundg (gk - 1)
                case measure => omega
                case rel => exact ⟨i + 1, N, A2, c2, by go_num, by omega, rfl, HM⟩
              · have s2 : ((t : Int) - 1 == home) = false := by simpa using hho
                have s3 : ((t : Int) - 1 != home) = true := by simpa using hho
                cases hb : X.testBit i with
                | true =>
                  rw [hb] at hbit hbit2
                  have b1 : ((X : Int) / 2 ^ i).tmod 2 = 1 := hbit
                  have b2 : ((X : Int) / 2 ^ i) % 2 = 1 := hbit2
                  clear hbit hbit2
                  have HP : Hid (pr (rdP v.site home t) X (i + 1) = pr (rdP v.site home t) X i ++ [i]) := Lib.hid (by rw [pr_succ, if_pos (by rw [hb]; simp [rdP, ht0.out, hsi, hho])])
                  clear hsi hho hb hmin
                  have HO := Lib.hid HJ.out.1.own
                  have hNN : N ≤ 1000 := by
                    have h1 := HJ.out.2
                    rw [List.length_append] at h1
                    have h2 := HLB.out t
                    have h3 : (pr (rdP v.site home t) X i).length ≤ i := by
                      unfold pr
                      exact Nat.le_trans (List.length_filter_le _ _) (by simp)
                    omega
                  have HOw : Hid (wr.ownsRow w.heap.size 3 1 (.slice A2 N c2) N (natsV (acL v.site home (lstU X) t ++ pr (rdP v.site home t) X i))) := Lib.hid (by have h1 := HO.out; rwa [← HJ.out.2] at h1)
                  go_wp2_with (at_builtin; refine (?_ : _ ∧ True).1)
                  refine ⟨?_, trivial⟩
                  refine wpList_append_app _ rfl _ _ 22 rfl w.heap.size 3 i0 (.int .i64 0) 1 8 Tryd.underlying22 hi0 hz0 hz1 hz2 rfl _ N _ rfl (own_below HOw.out (belA wr _) fun k hk => (HOw.out.lt k hk).2) (some ⟨wr.heap.size, 0, none⟩) 1 1 (natsV [i]) rfl rfl (by intro e; cases e) (new_cells wr _ 3 rfl) (natsV_one _) (by unfold maxLen; omega) (by omega) (by have := HJ.out.1.bel.size; simp; omega) ?_
                  intro v' w5 ha
                  obtain ⟨A6, c6, rfl, _⟩ := own_shape ha.own
                  have HM : Hid (RoI w (.slice A6 (N + 1) c6) (acL v.site home (lstU X) t ++ pr (rdP v.site home t) X (i + 1)) w5 ∧ N + 1 = (acL v.site home (lstU X) t ++ pr (rdP v.site home t) X (i + 1)).length) := Lib.hid (by
                    have hN := HJ.out.2
                    have hlen : N + 1 = (acL v.site home (lstU X) t ++ pr (rdP v.site home t) X (i + 1)).length := by
                      rw [HP.out, ← List.append_assoc, List.length_append, ← hN]; rfl
                    refine ⟨⟨?_, ha.below (HJ.out.1.bel.trans ((belA wr _).mono HJ.out.1.bel.size)) (by have := HJ.out.1.bel.size; simp; omega) fun k hk => (HOw.out.lt k hk).1⟩, hlen⟩
                    rw [← hlen, HP.out, ← List.append_assoc]
                    have h1 := ha.own
                    rwa [show natsV (acL v.site home (lstU X) t ++ pr (rdP v.site home t) X i) ++ natsV [i] = natsV (acL v.site home (lstU X) t ++ pr (rdP v.site home t) X i ++ [i]) by simp [natsV]] at h1)
                  clear ha HO HOw
                  go_wp2
                  go_roundg (gk - 1)
                  case measure => omega
                  case rel => exact ⟨i + 1, N + 1, A6, c6, by go_num, by omega, rfl, HM⟩
                | false =>
                  rw [hb] at hbit hbit2
                  have b1 : ((X : Int) / 2 ^ i).tmod 2 = 0 := hbit
                  have b2 : ((X : Int) / 2 ^ i) % 2 = 0 := hbit2
                  clear hbit hbit2
                  have HP : Hid (pr (rdP v.site home t) X (i + 1) = pr (rdP v.site home t) X i) := Lib.hid (by rw [pr_succ, if_neg (by rw [hb]; simp), List.append_nil])
                  have HM : Hid (RoI w (.slice A2 N c2) (acL v.site home (lstU X) t ++ pr (rdP v.site home t) X (i + 1)) wr ∧ N = (acL v.site home (lstU X) t ++ pr (rdP v.site home t) X (i + 1)).length) := Lib.hid (by rw [HP.out]; exact ⟨HJ.out.1, HJ.out.2⟩)
                  clear hsi hho hb hmin
                  go_wp2
                  go_roundg (gk - 1)
                  case measure => omega
                  case rel => exact ⟨i + 1, N, A2, c2, by go_num, by omega, rfl, HM⟩
            · have s1 : (((v.site i : Nat) : Int) == (t : Int) - 1) = false := by simpa using hsi
              have HP : Hid (pr (rdP v.site home t) X (i + 1) = pr (rdP v.site home t) X i) := Lib.hid (by rw [pr_succ, if_neg (by simp [rdP, ht0.out, hsi]), List.append_nil])
              have HM : Hid (RoI w (.slice A2 N c2) (acL v.site home (lstU X) t ++ pr (rdP v.site home t) X (i + 1)) wr ∧ N = (acL v.site home (lstU X) t ++ pr (rdP v.site home t) X (i + 1)).length) := Lib.hid (by rw [HP.out]; exact ⟨HJ.out.1, HJ.out.2⟩)
              clear hsi hmin hbit hbit2
              go_wp2
              go_roundg (gk - 1)
              case measure => omega
              case rel => exact ⟨i + 1, N, A2, c2, by go_num, by omega, rfl, HM⟩
          · obtain rfl : i = v.n := by omega
            have i1 : ¬ (v.n : Int) < (v.n : Int) := by omega
            have HM : Hid (RoI w (.slice A2 N c2) (acL v.site home (lstU X) (t + 1)) wr ∧ N = (acL v.site home (lstU X) (t + 1)).length) := Lib.hid (by
              rw [acL_succ, ← pr_all (rdP v.site home t) X v.n hn12 HBB.out]
              exact HJ.out)
            go_wp2
            go_roundg (gko - 1)
            case measure => omega
            case rel => exact ⟨t + 1, N, A2, c2, by go_num, by omega, rfl, HM⟩
    · obtain rfl : t = 13 := by omega
      have t1 : ¬ (((13 : Nat) : Int) - 1 < 12) := by omega
      go_wp2
      go_ret
      refine ⟨_, rfl, HI.out.bel, ?_⟩
      have h1 := HI.out.own
      have h2 := HNN.out
      rw [HX.out, acL_all] at h1 h2
      rw [← h2]
      rw [← h2] at h1
      exact h1
end
end Go.Proofs.YtmdjdnibblebcaaDoor
