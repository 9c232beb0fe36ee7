/- FrameLine is true at every two texts. Conditions: none. -/
import Derived.Test.YtbkbmmpcjpkkaaaLaw
import Derived.Test.YtbkbmmpcjpkkaaaPutAny
import Derived.Test.YtbkbmmpcjpkkaaaLent2
import Derived.Test.YtbkbmmpcjpkkaaaOwnP
import Derived.Test.YtbkbmmpcjpkkaaaAppend2
import Derived.Laws.BitsAllLaws
import Derived.Deep.RegionHeld3
import Derived.Test.YtbkbmmpcjpkkaaaRegInv
namespace Go.Proofs.Ytbkbmmpcjpkkaaa
open Go.ChangeShapes Go.WideShapes Go.ChangeAt Go.RowKit

theorem cdrew {w : World} {a : Addr} {v : Value} (h : w.cell? a = some v) : w.drew.cell? a = some v := h
theorem cold {w : World} {a : Addr} {v : Value} (o : Obj) (h : w.cell? a = some v) : (w.alloc o).cell? a = some v := by
  rw [World.cell?_of_block (Below.heap_alloc w o _ (World.block_lt_of_cell? w _ h))]
  exact h
theorem cnew (w : World) (v : Value) (t : TypeId) {g : Nat} (hg : g = w.heap.size) : (w.alloc (.cells #[v] t)).cell? ⟨g, 0, none⟩ = some v := by
  rw [World.cell?_alloc_at _ _ _ _ hg]
  rfl
theorem belAD {w X : World} (o : Obj) (h : Below w.heap.size w X.drew) : Below w.heap.size w (X.alloc o).drew := by
  have h' : Below w.heap.size w X := ⟨h.os, h.tape, h.output, h.size, h.block⟩
  exact (h'.alloc h'.size o).drew
/-- Sum of one part, wherever the part's slice lies. -/
theorem sum1 (W : World) (g : Nat) (A : Option Addr) (n c : Nat) (l : List UInt8) (hc : n ≤ c) (hm : c ≤ 9223372036854775807) (hcell : W.cell? ⟨g, 0, none⟩ = some (.slice A n c)) (hr : Rd W W.heap.size A n l) :
    Calls Try.prog 13 #[.slice (some ⟨g, 0, none⟩) 1 1] W fun e w' => e = .returned (.int .u32 (crcSum l)) ∧ W = w' := by
  have := sum_any (some ⟨g, 0, none⟩) 1 1 W.heap.size [l] W (by decide) ⟨rfl, fun i hi => by
    have hi0 : i = 0 := by simpa using hi
    subst hi0
    exact ⟨g, 0, A, n, c, rfl, World.block_lt_of_cell? W _ hcell, hcell, hc, hm, hr⟩⟩
  simpa using this

theorem ev {a : Act} {t : Nat} {v : Value} (h : a.eval (.tmp t) = v) : a.tmps[t]?.getD undef = v := by simpa [Act.eval] using h
theorem ev2 {a : Act} {t : Nat} {v : Value} (h : a.tmps[t]?.getD undef = v) (hv : v ≠ undef) : a.tmps[t]? = some v := by
  cases hx : a.tmps[t]? with
  | none => rw [hx] at h; exact absurd h.symm hv
  | some u => rw [hx] at h; simpa using h
theorem wpOp_plain {P : Program} {ops : Array Oper} {Q : Exit → Act → World → Prop} {i : Nat} {K : Act → World → Prop} {a : Act} {w : World} {o : Oper} (ho : ops[i]? = some o) (hg : o.guard = none) (h : o.wp P a w K Q) : wpOp P ops Q i K a w := by
  unfold wpOp
  rw [ho]
  simp only
  rw [if_pos (by simp [Region.wanted, hg])]
  exact .inl h
/-- Where each operation of the last line's region lays what it yields. -/
def dstL (i : Nat) : Nat := if i = 22 then 4 else 43 + i
theorem dstL_inj (i j : Nat) (hi : i < 23) (hj : j < 23) (h : dstL i = dstL j) : i = j := by
  unfold dstL at h
  split at h <;> split at h <;> omega
/-- What each yields. -/
def GL (va va' vx vo ka ka' : Value) (k s1 s2 s3 s12 s4 : Nat) (i : Nat) (v : Value) (w : World) : Prop :=
  match i with
  | 0 => v = va
  | 1 => v = .int .i64 (k : Int)
  | 2 => v = ka
  | 3 => ∃ g, v = .slice (some ⟨g, 0, none⟩) 1 1 ∧ w.cell? ⟨g, 0, none⟩ = some ka
  | 4 => v = .int .u32 (s1 : Int)
  | 5 => v = va'
  | 6 => v = .int .i64 (k : Int)
  | 7 => v = ka'
  | 8 => ∃ g, v = .slice (some ⟨g, 0, none⟩) 1 1 ∧ w.cell? ⟨g, 0, none⟩ = some ka'
  | 9 => v = .int .u32 (s2 : Int)
  | 10 => v = .int .u32 (s12 : Int)
  | 11 => v = vo
  | 12 => ∃ g, v = .slice (some ⟨g, 0, none⟩) 1 1 ∧ w.cell? ⟨g, 0, none⟩ = some vo
  | 13 => v = .int .u32 (s3 : Int)
  | 14 => v = .int .u32 (s4 : Int)
  | 15 => v = vx
  | 16 => ∃ g, v = .slice (some ⟨g, 0, none⟩) 1 1 ∧ w.cell? ⟨g, 0, none⟩ = some vx
  | 17 => v = .int .u32 (s4 : Int)
  | _ => v = .bool true
theorem GL.up {va va' vx vo ka ka' : Value} {k s1 s2 s3 s12 s4 i : Nat} {v : Value} {w w' : World} (h : GL va va' vx vo ka ka' k s1 s2 s3 s12 s4 i v w) (hb : Below w.heap.size w w') : GL va va' vx vo ka ka' k s1 s2 s3 s12 s4 i v w' := by
  unfold GL at h ⊢
  split at h <;> first
    | exact h
    | (obtain ⟨g, h1, h2⟩ := h; exact ⟨g, h1, (hb.cell (World.block_lt_of_cell? w _ h2)).trans h2⟩)
/-- The last line's region, half way. -/
structure LI (W0 : World) (va va' vx vo ka ka' : Value) (k s1 s2 s3 s12 s4 : Nat) (listed : Array Bool) (a : Act) (w : World) : Prop where
  size : listed.size = 23
  tmps : a.tmps.size = 65
  defers : a.defers = []
  bel : Below W0.heap.size W0 w
  t0 : a.eval (.tmp 0) = va
  t1 : a.eval (.tmp 1) = va'
  t5 : a.eval (.tmp 5) = .int .i64 (k : Int)
  t6 : a.eval (.tmp 6) = vx
  t7 : a.eval (.tmp 7) = vo
  good : ∀ i, i < 23 → listed.getD i false = true → GL va va' vx vo ka ka' k s1 s2 s3 s12 s4 i (a.eval (.tmp (dstL i))) w
theorem LI.next {W0 : World} {va va' vx vo ka ka' : Value} {k s1 s2 s3 s12 s4 : Nat} {listed : Array Bool} {a : Act} {w w' : World} (h : LI W0 va va' vx vo ka ka' k s1 s2 s3 s12 s4 listed a w) (i : Nat) (hi : i < 23) (v : Value) (hb : Below w.heap.size w w') (hg : GL va va' vx vo ka ka' k s1 s2 s3 s12 s4 i v w') :
    LI W0 va va' vx vo ka ka' k s1 s2 s3 s12 s4 (listed.setIfInBounds i true) (a.put (some (dstL i)) v) w' := by
  have hne : ∀ t : Nat, t = 0 ∨ t = 1 ∨ t = 5 ∨ t = 6 ∨ t = 7 → ∀ d, some (dstL i) = some d → Operand.tmp t ≠ .tmp d := fun t ht d hd e => by
    have h1 : t ≠ dstL i := by unfold dstL; split <;> omega
    injection hd with hd
    injection e with e
    exact h1 (e.trans hd.symm)
  refine ⟨by simpa using h.size, by simpa [Act.put] using h.tmps, by simpa [Act.put] using h.defers, below_then h.bel hb, ?_, ?_, ?_, ?_, ?_, fun j hj hl => ?_⟩
  · rw [Act.eval_put (hne 0 (by simp))]; exact h.t0
  · rw [Act.eval_put (hne 1 (by simp))]; exact h.t1
  · rw [Act.eval_put (hne 5 (by simp))]; exact h.t5
  · rw [Act.eval_put (hne 6 (by simp))]; exact h.t6
  · rw [Act.eval_put (hne 7 (by simp))]; exact h.t7
  · by_cases e : j = i
    · subst e
      have hd : dstL j < a.tmps.size := by rw [h.tmps]; unfold dstL; split <;> omega
      have : (a.put (some (dstL j)) v).eval (.tmp (dstL j)) = v := by simp [Act.put, Act.eval, hd]
      rw [this]
      exact hg
    · rw [Act.eval_put (fun d hd e2 => by injection hd with hd; injection e2 with e2; exact e (dstL_inj j i hj hi (e2.trans hd.symm)))]
      refine (h.good j hj ?_).up hb
      rwa [getD_set_ne false (fun e2 => e e2.symm)] at hl

set_option maxHeartbeats 4000000 in
set_option maxRecDepth 100000 in
theorem frameLine_walk (A : Option Addr) (n c : Nat) (l : List UInt8) (A' : Option Addr) (n' c' : Nat) (l' : List UInt8) (w : World) (hc : n ≤ c) (hm : c ≤ 9223372036854775807) (h : Rd w w.heap.size A n l) (hc' : n' ≤ c') (hm' : c' ≤ 9223372036854775807) (h' : Rd w w.heap.size A' n' l') :
    Calls Try.prog 9 #[.slice A n c, .slice A' n' c'] w fun e w' => e = .returned (.bool true) ∧ Below w.heap.size w w' := by
  by_cases hbig : 5000 < n ∨ 5000 < n'
  · clear h h'
    have KN := Lib.hid (known_any w)
    by_cases hb1 : 5000 < n
    all_goals
      go_enter Try.func9, Try.ntmps9
      go_wp2_with fail
      refine KN.out.mono ?_
      rintro e w' ⟨rfl, hb⟩
      go_wp2
      go_ret
      exact ⟨rfl, hb⟩
  · obtain ⟨i0, hi0, hz0, hz1, hz2⟩ := info_parts Try.infoU8
    have HL := Lib.hid h.1
    have HL' := Lib.hid h'.1
    have H := Lib.hid h
    have H' := Lib.hid h'
    clear h h'
    obtain ⟨M, hM⟩ : ∃ M, min n n' = M := ⟨_, rfl⟩
    have hmin : min (n : Int) (n' : Int) = (M : Int) := by omega
    have hb1 : n ≤ 5000 := by omega
    have hb2 : n' ≤ 5000 := by omega
    clear hbig
    go_enter Try.func9, Try.ntmps9
    go_wp2_with fail
    go_loopg [6, 7, 8] M (fun g xv ov i wr => ∃ (k : Nat) (X O : Value), xv = X ∧ ov = O ∧ i = .int .i64 k ∧ k + g = M ∧ Hid (wr.ownsRow w.heap.size 5 1 X k (u8s (List.zipWith (· ^^^ ·) (l.take k) (l'.take k)))) ∧ Hid (wr.ownsRow w.heap.size 5 1 O k (u8s (List.replicate k 0))) ∧ Hid (Apart X O) ∧ Hid (Below w.heap.size w wr))
    case atStart => exact ⟨0, _, _, rfl, rfl, rfl, by omega, World.ownsRow_nil _ _ _ _, World.ownsRow_nil _ _ _ _, Apart.nil _, Below.refl _ _⟩
    case round =>
      obtain ⟨k, X, O, rfl, rfl, rfl, hk, HX, HO, HA, HB⟩ := hrel
      obtain ⟨Ax, cx, rfl, hcx⟩ := own_shape HX.out
      obtain ⟨Ao, co, rfl, hco⟩ := own_shape HO.out
      by_cases hkM : k < M
      · obtain ⟨b, o, rfl, hlt, hcell⟩ := H.out.2 (by omega)
        obtain ⟨b', o', rfl, hlt', hcell'⟩ := H'.out.2 (by omega)
        have W0 := hcell k (by rw [HL.out]; omega)
        have W1 := hcell' k (by rw [HL'.out]; omega)
        have c0 := (HB.out.cell (p := ⟨b, o + k, none⟩) hlt).trans (hcell k (by rw [HL.out]; omega))
        have c1 := (HB.out.cell (p := ⟨b', o' + k, none⟩) hlt').trans (hcell' k (by rw [HL'.out]; omega))
        have hz : List.zipWith (· ^^^ ·) (l.take (k + 1)) (l'.take (k + 1)) = List.zipWith (· ^^^ ·) (l.take k) (l'.take k) ++ [l[k]'(by rw [HL.out]; omega) ^^^ l'[k]'(by rw [HL'.out]; omega)] := by
          rw [List.take_succ_eq_append_getElem (by rw [HL.out]; omega), List.take_succ_eq_append_getElem (by rw [HL'.out]; omega), List.zipWith_append (by rw [List.length_take, List.length_take, HL.out, HL'.out]; omega)]
          rfl
        clear hcell hcell'
        generalize l[k]'(by rw [HL.out]; omega) = x at *
        generalize l'[k]'(by rw [HL'.out]; omega) = y at *
        have hxy : bits .xor .u8 (x.toNat : Int) (y.toNat : Int) = ((x ^^^ y).toNat : Int) := by rw [u8_xor_nat _ _ x.toNat_lt y.toNat_lt, UInt8.toNat_xor]
        have g1 : (k : Int) < (n : Int) := by omega
        have g2 : (k : Int) < (n' : Int) := by omega
        have g3 : k < n := by omega
        have g4 : k < n' := by omega
        have Hz := Lib.hid hz
        clear hz
        have HXa : Hid (∀ q o, ((wr.drewN q).alloc o).ownsRow w.heap.size 5 1 (.slice Ax k cx) k (u8s (List.zipWith (· ^^^ ·) (l.take k) (l'.take k)))) := Lib.hid fun q o => (show (wr.drewN q).ownsRow w.heap.size 5 1 (.slice Ax k cx) k (u8s (List.zipWith (· ^^^ ·) (l.take k) (l'.take k))) from HX.out).alloc o
        have HOa : Hid (∀ q o, ((wr.drewN q).alloc o).ownsRow w.heap.size 5 1 (.slice Ao k co) k (u8s (List.replicate k 0))) := Lib.hid fun q o => (show (wr.drewN q).ownsRow w.heap.size 5 1 (.slice Ao k co) k (u8s (List.replicate k 0)) from HO.out).alloc o
        have HBa : Hid (∀ q o, Below w.heap.size w ((wr.drewN q).alloc o)) := Lib.hid fun q o => (bel_drewN HB.out q).alloc HB.out.size o
        have h63 : k + 1 ≤ maxLen := by unfold maxLen; omega
        have hby : (k + 1) * 1 ≤ 140737488355328 := by omega
        go_wp2_with fail
        go_region_held3 (fun w' => w'.cell? ⟨b, o + k, none⟩ = some (.int .u8 (x.toNat : Int)) ∧ w'.cell? ⟨b', o' + k, none⟩ = some (.int .u8 (y.toNat : Int))) (first | exact ⟨c0, c1⟩ | exact ⟨k0, k1⟩ | go_keep)
          (first | ((refine step_append_app _ rfl _ _ 22 (by rfl) w.heap.size 5 i0 (.int .u8 0) 1 1 Try.underlying22 hi0 hz0 hz1 hz2 rfl _ k _ (by rfl) (HXa.out 1 _) (some ⟨wr.heap.size, 0, none⟩) 1 1 [.int .u8 ((x ^^^ y).toNat : Int)] (by rfl) rfl (by intro e; cases e) (one_new _ _ _ rfl) (by intro u hu; simp at hu; subst hu; rfl) h63 hby (HBa.out 1 _).size ?_); intro v' w3 ha; (have hb3 := ha.below (HBa.out 1 _) (HBa.out 1 _).size (own_block_ge HX.out)); (have k0 := (hb3.cell (p := ⟨b, o + k, none⟩) hlt).trans W0); (have k1 := (hb3.cell (p := ⟨b', o' + k, none⟩) hlt').trans W1)))
        have HX2 : Hid (w3.ownsRow w.heap.size 5 1 v' (k + 1) (u8s (List.zipWith (· ^^^ ·) (l.take (k + 1)) (l'.take (k + 1))))) := Lib.hid (by
          rw [Hz.out, u8s_append]
          exact ha.own)
        have HO2 : Hid (w3.ownsRow w.heap.size 5 1 (.slice Ao k co) k (u8s (List.replicate k 0))) := Lib.hid (ha.other (HOa.out 1 _) HA.out.symm.or)
        have HA2 : Hid (Apart v' (.slice Ao k co)) := Lib.hid (Apart.app ha HA.out fun g hg => ((HOa.out 1 _).lt g hg).2)
        have HB3 := Lib.hid hb3
        have hs3 := hb3.size
        clear ha hb3 k0 k1 c0 c1 W0 W1 HXa HOa HBa HX HO HA HB
        go_wp2_with (at_builtin; go_loud (refine wpList_append_app _ rfl _ _ 22 rfl w.heap.size 5 i0 (.int .u8 0) 1 1 Try.underlying22 hi0 hz0 hz1 hz2 rfl _ _ _ rfl (HO2.out.alloc _) (some ⟨w3.heap.size, 0, none⟩) 1 1 [.int .u8 0] rfl rfl (by intro e; cases e) (one_new _ _ _ rfl) (by intro u hu; simp at hu; subst hu; rfl) (by unfold maxLen; omega) (by omega) (by simp; omega) ?_))
        intro v2 w4 ha
        have HX3 : Hid (w4.ownsRow w.heap.size 5 1 v' (k + 1) (u8s (List.zipWith (· ^^^ ·) (l.take (k + 1)) (l'.take (k + 1))))) := Lib.hid (ha.other (HX2.out.alloc _) HA2.out.or)
        have HO3 : Hid (w4.ownsRow w.heap.size 5 1 v2 (k + 1) (u8s (List.replicate (k + 1) 0))) := Lib.hid (by
          rw [List.replicate_succ', u8s_append]
          exact ha.own)
        have HA3 : Hid (Apart v' v2) := Lib.hid (Apart.app ha HA2.out.symm fun g hg => by have := (HX2.out.lt g hg).2; simp; omega).symm
        have HB4 : Hid (Below w.heap.size w w4) := Lib.hid (ha.below (HB3.out.alloc HB3.out.size _) (by simp; omega) (own_block_ge HO2.out))
        clear ha HX2 HO2 HA2 HB3
        go_wp2
        go_roundg (gk - 1)
        case measure => omega
        case rel => exact ⟨k + 1, v', v2, rfl, rfl, by go_num, by omega, HX3, HO3, HA3, HB4⟩
      · have hkM2 : k = M := by omega
        subst hkM2
        clear hmin
        have HRa : Hid (∀ W, Below wr.heap.size wr W → Rd W W.heap.size A k (l.take k)) := Lib.hid fun W hW => by
          have h1 := ((H.out.up HB.out).up hW)
          rcases Nat.eq_zero_or_pos n with h0 | h0
          · have : k = 0 := by omega
            subst this
            exact Rd.nil _ _ _
          · obtain ⟨b, o, rfl, _⟩ := h1.2 h0
            have := h1.part (i := 0) (k := k) (by omega)
            simpa using this
        have HRb : Hid (∀ W, Below wr.heap.size wr W → Rd W W.heap.size A' k (l'.take k)) := Lib.hid fun W hW => by
          have h1 := ((H'.out.up HB.out).up hW)
          rcases Nat.eq_zero_or_pos n' with h0 | h0
          · have : k = 0 := by omega
            subst this
            exact Rd.nil _ _ _
          · obtain ⟨b, o, rfl, _⟩ := h1.2 h0
            have := h1.part (i := 0) (k := k) (by omega)
            simpa using this
        have HRx : Hid (∀ W, Below wr.heap.size wr W → Rd W W.heap.size (Ax) k (List.zipWith (· ^^^ ·) (l.take k) (l'.take k))) := Lib.hid fun W hW => (Rd.of_own HX.out).up hW
        have HRo : Hid (∀ W, Below wr.heap.size wr W → Rd W W.heap.size (Ao) k (List.replicate k 0)) := Lib.hid fun W hW => (Rd.of_own HO.out).up hW
        have q1 : k ≤ c := by omega
        have q2 : k ≤ c' := by omega
        have q3 : cx ≤ 9223372036854775807 := by unfold maxLen at hcx; omega
        have q4 : co ≤ 9223372036854775807 := by unfold maxLen at hco; omega
        have i1 : (k : Int) ≤ (c : Int) := by omega
        have i2 : (k : Int) ≤ (c' : Int) := by omega
        have SA : Hid (∀ W g, Below wr.heap.size wr W → W.cell? ⟨g, 0, none⟩ = some (.slice A k c) → Calls Try.prog 13 #[.slice (some ⟨g, 0, none⟩) 1 1] W fun e w' => e = .returned (.int .u32 (crcSum (l.take k))) ∧ W = w') := Lib.hid fun W g hW hg => sum1 W g A k c _ q1 hm hg (HRa.out W hW)
        have SB : Hid (∀ W g, Below wr.heap.size wr W → W.cell? ⟨g, 0, none⟩ = some (.slice A' k c') → Calls Try.prog 13 #[.slice (some ⟨g, 0, none⟩) 1 1] W fun e w' => e = .returned (.int .u32 (crcSum (l'.take k))) ∧ W = w') := Lib.hid fun W g hW hg => sum1 W g A' k c' _ q2 hm' hg (HRb.out W hW)
        have SO : Hid (∀ W g, Below wr.heap.size wr W → W.cell? ⟨g, 0, none⟩ = some (.slice Ao k co) → Calls Try.prog 13 #[.slice (some ⟨g, 0, none⟩) 1 1] W fun e w' => e = .returned (.int .u32 (crcSum (List.replicate k 0))) ∧ W = w') := Lib.hid fun W g hW hg => sum1 W g Ao k co _ hco.1 q4 hg (HRo.out W hW)
        have SX : Hid (∀ W g, Below wr.heap.size wr W → W.cell? ⟨g, 0, none⟩ = some (.slice Ax k cx) → Calls Try.prog 13 #[.slice (some ⟨g, 0, none⟩) 1 1] W fun e w' => e = .returned (.int .u32 (crcSum (List.zipWith (· ^^^ ·) (l.take k) (l'.take k)))) ∧ W = w') := Lib.hid fun W g hW hg => sum1 W g Ax k cx _ hcx.1 q3 hg (HRx.out W hW)
        clear HX HO HA H H' HRa HRb HRo HRx
        obtain ⟨s12, t1, t2⟩ : ∃ s12 : Nat, bits .xor .u32 (crcSum (l.take k) : Int) (crcSum (l'.take k) : Int) = (s12 : Int) ∧ bits .xor .u32 (s12 : Int) (crcSum (List.replicate k 0) : Int) = (crcSum (List.zipWith (· ^^^ ·) (l.take k) (l'.take k)) : Int) := by
          have h1 : (l.take k).length = (l'.take k).length := by rw [List.length_take, List.length_take, HL.out, HL'.out]; omega
          have h2 := crcSum_line (l.take k) (l'.take k) h1
          have h3 : (l.take k).length = k := by rw [List.length_take, HL.out]; omega
          rw [h3] at h2
          refine ⟨_, u32_xor_nat _ _ (crcSum_lt _) (crcSum_lt _), ?_⟩
          rw [u32_xor_nat _ _ (xor_lt (k := 32) (crcSum_lt _) (crcSum_lt _)) (crcSum_lt _), h2]
        generalize crcSum (l.take k) = s1 at *
        generalize crcSum (l'.take k) = s2 at *
        generalize crcSum (List.replicate k 0) = s3 at *
        generalize crcSum (List.zipWith (· ^^^ ·) (l.take k) (l'.take k)) = s4 at *
        clear hi0 hz0 hz1 hz2 HL HL' hM hk hkM hcx hco q1 q2 q3 q4 hc hm hc' hm' hb1 hb2
        go_wp2_with fail
        refine wp_region_inv (by kernel_rfl) (LI wr (.slice A n c) (.slice A' n' c') (.slice Ax k cx) (.slice Ao k co) (.slice A k c) (.slice A' k c') k s1 s2 s3 s12 s4) ?_ ?_ ?_
        · exact ⟨rfl, rfl, rfl, (Below.refl _ _).drew, rfl, rfl, rfl, rfl, rfl, fun i hi hl => by
            have h0 : (Array.replicate 23 false).getD i false = false := by simp [Array.getElem?_replicate]; split <;> rfl
            exact absurd (h0.symm.trans hl) (by decide)⟩
        · intro listed a w1 hI i hi
          obtain ⟨_, o, ho, hall⟩ := mem_ready.1 hi
          have hi23 : i < 23 := (Array.getElem?_eq_some_iff.1 ho).1
          clear hi
          have e0 := ev hI.t0
          have e1 := ev hI.t1
          have e5 := ev hI.t5
          have e6 := ev hI.t6
          have e7 := ev hI.t7
          have HI := Lib.hid hI
          have dep := fun (j : Nat) (g : Ground) (h1 : (⟨j, g⟩ : Edge) ∈ o.after) (h2 : Region.binds .any ⟨j, g⟩ = true) => hall _ h1 h2
          match i, hi23 with
          | 0, _ =>
            simp only [List.getElem?_toArray, List.getElem?_cons_zero, Option.some.injEq] at ho
            subst ho
            clear hall dep hI
            refine wpOp_plain (o := _) rfl rfl ?_
            unfold Oper.wp execOp
            go_simp
            exact HI.out.next 0 (by decide) _ (Below.refl _ _) rfl
          | 1, _ =>
            simp only [List.getElem?_toArray, List.getElem?_cons_zero, List.getElem?_cons_succ, Option.some.injEq] at ho
            subst ho
            clear hall dep hI
            refine wpOp_plain (o := _) rfl rfl ?_
            unfold Oper.wp execOp
            go_simp
            exact HI.out.next 1 (by decide) _ (Below.refl _ _) rfl
          | 2, _ =>
            simp only [List.getElem?_toArray, List.getElem?_cons_zero, List.getElem?_cons_succ, Option.some.injEq] at ho
            subst ho
            have g0 : GL _ _ _ _ _ _ _ _ _ _ _ _ 0 (a.eval (.tmp 43)) w1 := HI.out.good 0 (by decide) (dep 0 .data (by simp) (by decide))
            replace g0 := ev g0
            have g1 : GL _ _ _ _ _ _ _ _ _ _ _ _ 1 (a.eval (.tmp 44)) w1 := HI.out.good 1 (by decide) (dep 1 .data (by simp) (by decide))
            replace g1 := ev g1
            clear hall dep hI
            refine wpOp_plain (o := _) rfl rfl ?_
            unfold Oper.wp execOp
            go_simp
            exact HI.out.next 2 (by decide) _ (Below.refl _ _) rfl
          | 3, _ =>
            simp only [List.getElem?_toArray, List.getElem?_cons_zero, List.getElem?_cons_succ, Option.some.injEq] at ho
            subst ho
            have g2 : GL _ _ _ _ _ _ _ _ _ _ _ _ 2 (a.eval (.tmp 45)) w1 := HI.out.good 2 (by decide) (dep 2 .data (by simp) (by decide))
            replace g2 := ev g2
            clear hall dep hI
            refine wpOp_plain (o := _) rfl rfl ?_
            unfold Oper.wp execOp
            go_simp
            exact HI.out.next 3 (by decide) _ ((Below.refl _ _).alloc (Nat.le_refl _) _) ⟨_, rfl, cnew _ _ _ rfl⟩
          | 4, _ =>
            simp only [List.getElem?_toArray, List.getElem?_cons_zero, List.getElem?_cons_succ, Option.some.injEq] at ho
            subst ho
            have g3 : GL _ _ _ _ _ _ _ _ _ _ _ _ 3 (a.eval (.tmp 46)) w1 := HI.out.good 3 (by decide) (dep 3 .data (by simp) (by decide))
            obtain ⟨gg, g3, hcell⟩ := g3
            replace g3 := ev g3
            clear hall dep hI
            refine wpOp_plain (o := _) rfl rfl ?_
            unfold Oper.wp execOp
            go_simp
            refine Calls.mono (SA.out _ _ HI.out.bel hcell) ?_
            rintro e w' ⟨rfl, rfl⟩
            exact HI.out.next 4 (by decide) _ (Below.refl _ _) rfl
          | 5, _ =>
            simp only [List.getElem?_toArray, List.getElem?_cons_zero, List.getElem?_cons_succ, Option.some.injEq] at ho
            subst ho
            clear hall dep hI
            refine wpOp_plain (o := _) rfl rfl ?_
            unfold Oper.wp execOp
            go_simp
            exact HI.out.next 5 (by decide) _ (Below.refl _ _) rfl
          | 6, _ =>
            simp only [List.getElem?_toArray, List.getElem?_cons_zero, List.getElem?_cons_succ, Option.some.injEq] at ho
            subst ho
            clear hall dep hI
            refine wpOp_plain (o := _) rfl rfl ?_
            unfold Oper.wp execOp
            go_simp
            exact HI.out.next 6 (by decide) _ (Below.refl _ _) rfl
          | 7, _ =>
            simp only [List.getElem?_toArray, List.getElem?_cons_zero, List.getElem?_cons_succ, Option.some.injEq] at ho
            subst ho
            have g5 : GL _ _ _ _ _ _ _ _ _ _ _ _ 5 (a.eval (.tmp 48)) w1 := HI.out.good 5 (by decide) (dep 5 .data (by simp) (by decide))
            replace g5 := ev g5
            have g6 : GL _ _ _ _ _ _ _ _ _ _ _ _ 6 (a.eval (.tmp 49)) w1 := HI.out.good 6 (by decide) (dep 6 .data (by simp) (by decide))
            replace g6 := ev g6
            clear hall dep hI
            refine wpOp_plain (o := _) rfl rfl ?_
            unfold Oper.wp execOp
            go_simp
            exact HI.out.next 7 (by decide) _ (Below.refl _ _) rfl
          | 8, _ =>
            simp only [List.getElem?_toArray, List.getElem?_cons_zero, List.getElem?_cons_succ, Option.some.injEq] at ho
            subst ho
            have g7 : GL _ _ _ _ _ _ _ _ _ _ _ _ 7 (a.eval (.tmp 50)) w1 := HI.out.good 7 (by decide) (dep 7 .data (by simp) (by decide))
            replace g7 := ev g7
            clear hall dep hI
            refine wpOp_plain (o := _) rfl rfl ?_
            unfold Oper.wp execOp
            go_simp
            exact HI.out.next 8 (by decide) _ ((Below.refl _ _).alloc (Nat.le_refl _) _) ⟨_, rfl, cnew _ _ _ rfl⟩
          | 9, _ =>
            simp only [List.getElem?_toArray, List.getElem?_cons_zero, List.getElem?_cons_succ, Option.some.injEq] at ho
            subst ho
            have g8 : GL _ _ _ _ _ _ _ _ _ _ _ _ 8 (a.eval (.tmp 51)) w1 := HI.out.good 8 (by decide) (dep 8 .data (by simp) (by decide))
            obtain ⟨gg, g8, hcell⟩ := g8
            replace g8 := ev g8
            clear hall dep hI
            refine wpOp_plain (o := _) rfl rfl ?_
            unfold Oper.wp execOp
            go_simp
            refine Calls.mono (SB.out _ _ HI.out.bel hcell) ?_
            rintro e w' ⟨rfl, rfl⟩
            exact HI.out.next 9 (by decide) _ (Below.refl _ _) rfl
          | 10, _ =>
            simp only [List.getElem?_toArray, List.getElem?_cons_zero, List.getElem?_cons_succ, Option.some.injEq] at ho
            subst ho
            have g4 : GL _ _ _ _ _ _ _ _ _ _ _ _ 4 (a.eval (.tmp 47)) w1 := HI.out.good 4 (by decide) (dep 4 .data (by simp) (by decide))
            replace g4 := ev g4
            have g9 : GL _ _ _ _ _ _ _ _ _ _ _ _ 9 (a.eval (.tmp 52)) w1 := HI.out.good 9 (by decide) (dep 9 .data (by simp) (by decide))
            replace g9 := ev g9
            clear hall dep hI
            refine wpOp_plain (o := _) rfl rfl ?_
            unfold Oper.wp execOp
            go_simp
            exact HI.out.next 10 (by decide) _ (Below.refl _ _) rfl
          | 11, _ =>
            simp only [List.getElem?_toArray, List.getElem?_cons_zero, List.getElem?_cons_succ, Option.some.injEq] at ho
            subst ho
            clear hall dep hI
            refine wpOp_plain (o := _) rfl rfl ?_
            unfold Oper.wp execOp
            go_simp
            exact HI.out.next 11 (by decide) _ (Below.refl _ _) rfl
          | 12, _ =>
            simp only [List.getElem?_toArray, List.getElem?_cons_zero, List.getElem?_cons_succ, Option.some.injEq] at ho
            subst ho
            have g11 : GL _ _ _ _ _ _ _ _ _ _ _ _ 11 (a.eval (.tmp 54)) w1 := HI.out.good 11 (by decide) (dep 11 .data (by simp) (by decide))
            replace g11 := ev g11
            clear hall dep hI
            refine wpOp_plain (o := _) rfl rfl ?_
            unfold Oper.wp execOp
            go_simp
            exact HI.out.next 12 (by decide) _ ((Below.refl _ _).alloc (Nat.le_refl _) _) ⟨_, rfl, cnew _ _ _ rfl⟩
          | 13, _ =>
            simp only [List.getElem?_toArray, List.getElem?_cons_zero, List.getElem?_cons_succ, Option.some.injEq] at ho
            subst ho
            have g12 : GL _ _ _ _ _ _ _ _ _ _ _ _ 12 (a.eval (.tmp 55)) w1 := HI.out.good 12 (by decide) (dep 12 .data (by simp) (by decide))
            obtain ⟨gg, g12, hcell⟩ := g12
            replace g12 := ev g12
            clear hall dep hI
            refine wpOp_plain (o := _) rfl rfl ?_
            unfold Oper.wp execOp
            go_simp
            refine Calls.mono (SO.out _ _ HI.out.bel hcell) ?_
            rintro e w' ⟨rfl, rfl⟩
            exact HI.out.next 13 (by decide) _ (Below.refl _ _) rfl
          | 14, _ =>
            simp only [List.getElem?_toArray, List.getElem?_cons_zero, List.getElem?_cons_succ, Option.some.injEq] at ho
            subst ho
            have g10 : GL _ _ _ _ _ _ _ _ _ _ _ _ 10 (a.eval (.tmp 53)) w1 := HI.out.good 10 (by decide) (dep 10 .data (by simp) (by decide))
            replace g10 := ev g10
            have g13 : GL _ _ _ _ _ _ _ _ _ _ _ _ 13 (a.eval (.tmp 56)) w1 := HI.out.good 13 (by decide) (dep 13 .data (by simp) (by decide))
            replace g13 := ev g13
            clear hall dep hI
            refine wpOp_plain (o := _) rfl rfl ?_
            unfold Oper.wp execOp
            go_simp
            exact HI.out.next 14 (by decide) _ (Below.refl _ _) rfl
          | 15, _ =>
            simp only [List.getElem?_toArray, List.getElem?_cons_zero, List.getElem?_cons_succ, Option.some.injEq] at ho
            subst ho
            clear hall dep hI
            refine wpOp_plain (o := _) rfl rfl ?_
            unfold Oper.wp execOp
            go_simp
            exact HI.out.next 15 (by decide) _ (Below.refl _ _) rfl
          | 16, _ =>
            simp only [List.getElem?_toArray, List.getElem?_cons_zero, List.getElem?_cons_succ, Option.some.injEq] at ho
            subst ho
            have g15 : GL _ _ _ _ _ _ _ _ _ _ _ _ 15 (a.eval (.tmp 58)) w1 := HI.out.good 15 (by decide) (dep 15 .data (by simp) (by decide))
            replace g15 := ev g15
            clear hall dep hI
            refine wpOp_plain (o := _) rfl rfl ?_
            unfold Oper.wp execOp
            go_simp
            exact HI.out.next 16 (by decide) _ ((Below.refl _ _).alloc (Nat.le_refl _) _) ⟨_, rfl, cnew _ _ _ rfl⟩
          | 17, _ =>
            simp only [List.getElem?_toArray, List.getElem?_cons_zero, List.getElem?_cons_succ, Option.some.injEq] at ho
            subst ho
            have g16 : GL _ _ _ _ _ _ _ _ _ _ _ _ 16 (a.eval (.tmp 59)) w1 := HI.out.good 16 (by decide) (dep 16 .data (by simp) (by decide))
            obtain ⟨gg, g16, hcell⟩ := g16
            replace g16 := ev g16
            clear hall dep hI
            refine wpOp_plain (o := _) rfl rfl ?_
            unfold Oper.wp execOp
            go_simp
            refine Calls.mono (SX.out _ _ HI.out.bel hcell) ?_
            rintro e w' ⟨rfl, rfl⟩
            exact HI.out.next 17 (by decide) _ (Below.refl _ _) rfl
          | 18, _ =>
            simp only [List.getElem?_toArray, List.getElem?_cons_zero, List.getElem?_cons_succ, Option.some.injEq] at ho
            subst ho
            have g14 : GL _ _ _ _ _ _ _ _ _ _ _ _ 14 (a.eval (.tmp 57)) w1 := HI.out.good 14 (by decide) (dep 14 .data (by simp) (by decide))
            replace g14 := ev g14
            have g17 : GL _ _ _ _ _ _ _ _ _ _ _ _ 17 (a.eval (.tmp 60)) w1 := HI.out.good 17 (by decide) (dep 17 .data (by simp) (by decide))
            replace g17 := ev g17
            clear hall dep hI
            refine wpOp_plain (o := _) rfl rfl ?_
            unfold Oper.wp execOp
            go_simp
            exact HI.out.next 18 (by decide) _ (Below.refl _ _) rfl
          | 19, _ =>
            simp only [List.getElem?_toArray, List.getElem?_cons_zero, List.getElem?_cons_succ, Option.some.injEq] at ho
            subst ho
            have g18 : GL _ _ _ _ _ _ _ _ _ _ _ _ 18 (a.eval (.tmp 61)) w1 := HI.out.good 18 (by decide) (dep 18 .data (by simp) (by decide))
            replace g18 := ev g18
            clear hall dep hI
            refine wpOp_plain (o := _) rfl rfl ?_
            unfold Oper.wp execOp
            go_simp
            exact HI.out.next 19 (by decide) _ (Below.refl _ _) rfl
          | 20, _ =>
            simp only [List.getElem?_toArray, List.getElem?_cons_zero, List.getElem?_cons_succ, Option.some.injEq] at ho
            subst ho
            have g19 : GL _ _ _ _ _ _ _ _ _ _ _ _ 19 (a.eval (.tmp 62)) w1 := HI.out.good 19 (by decide) (dep 19 .guard (by simp) (by decide))
            replace g19 := ev g19
            clear hall dep hI
            unfold wpOp
            simp only [List.getElem?_toArray, List.getElem?_cons_zero, List.getElem?_cons_succ]
            have g19' := ev2 g19 (by simp [undef])
            rw [if_pos (by simp [Region.wanted, yielded, g19'])]
            left
            unfold Oper.wp execOp
            go_simp
            refine (known_any w1).mono ?_
            rintro e w' ⟨rfl, hk⟩
            exact HI.out.next 20 (by decide) _ hk rfl
          | 21, _ =>
            simp only [List.getElem?_toArray, List.getElem?_cons_zero, List.getElem?_cons_succ, Option.some.injEq] at ho
            subst ho
            have g19 : GL _ _ _ _ _ _ _ _ _ _ _ _ 19 (a.eval (.tmp 62)) w1 := HI.out.good 19 (by decide) (dep 19 .data (by simp) (by decide))
            replace g19 := ev g19
            have g20 : GL _ _ _ _ _ _ _ _ _ _ _ _ 20 (a.eval (.tmp 63)) w1 := HI.out.good 20 (by decide) (dep 20 .data (by simp) (by decide))
            replace g20 := ev g20
            clear hall dep hI
            refine wpOp_plain (o := _) rfl rfl ?_
            unfold Oper.wp execOp
            go_simp
            exact HI.out.next 21 (by decide) _ (Below.refl _ _) rfl
          | 22, _ =>
            simp only [List.getElem?_toArray, List.getElem?_cons_zero, List.getElem?_cons_succ, Option.some.injEq] at ho
            subst ho
            have g21 : GL _ _ _ _ _ _ _ _ _ _ _ _ 21 (a.eval (.tmp 64)) w1 := HI.out.good 21 (by decide) (dep 21 .data (by simp) (by decide))
            replace g21 := ev g21
            clear hall dep hI
            refine wpOp_plain (o := _) rfl rfl ?_
            unfold Oper.wp execOp
            go_simp
            exact HI.out.next 22 (by decide) _ (Below.refl _ _) rfl
        · intro listed a w1 hI hr
          have hall := all_listed hI.size (by kernel_rfl) hr
          have h4 : GL _ _ _ _ _ _ _ _ _ _ _ _ 22 (a.eval (.tmp 4)) w1 := hI.good 22 (by decide) (hall 22 (by decide))
          replace h4 := ev h4
          have hfin := Lib.hid (HB.out.trans (hI.bel.mono HB.out.size))
          have hd := hI.defers
          clear hall hI hr
          go_wp2
          refine bodyPost_ret (results_tmp rfl _ _ _) hd ?_
          refine ⟨?_, hfin.out⟩
          simp [h4]

namespace frameLine
set_option maxRecDepth 100000 in
theorem lifted (os : Os) (started : os.Started) (H : Type) (enc : TypeId × Value → H) :
    ReturnsInHanded {} Try.checked os 9 .any (Rows.frameLineSpec.pre6 enc Try.prog Try.f9 Rows.frameLineRow.domain false) (Rows.frameLineSpec.post enc Try.prog Try.f9 false true false false) := by
  refine law_lift started (by kernel_rfl) Try.func9
    (ChangeSpec.witness6 (enc := enc) (C := Try.checked) false ⟨#[], #[.slice none 0 0, .slice none 0 0], []⟩ 8 (by kernel_rfl) (by kernel_rfl) (by kernel_rfl) (by kernel_rfl))
    rfl ?_ (by kernel_rfl) (by kernel_rfl) ?_
  · intro ds h
    match ds, h with
    | [_, _], _ => rfl
  intro W base args ds p g
  have hA := g.trod
  have hval := g.val
  rw [Try.params9] at hA hval
  obtain ⟨v0, vs0, d0, ds0, p0, q0, hargs, rfl, rfl, h0, r0⟩ := trodAll_cons hA
  obtain ⟨v1, vs1, d1, ds1, p1, q1, rfl, rfl, rfl, h1, r1⟩ := trodAll_cons r0
  obtain ⟨rfl, rfl, rfl⟩ := trodAll_nil r1
  obtain rfl : args = #[v0, v1] := by cases args; simp_all
  obtain ⟨A0, n0, c0, l0, rfl, hc0, hm0, hr0⟩ := given_bytes (hval 0 22 v0 rfl rfl) h0
  obtain ⟨A1, n1, c1, l1, rfl, hc1, hm1, hr1⟩ := given_bytes (hval 1 22 v1 rfl rfl) h1
  exact frameLine_walk A0 n0 c0 l0 A1 n1 c1 l1 W hc0 hm0 hr0 hc1 hm1 hr1

theorem over : Rows.frameLineRow.holds Try.pinned (OpenSpec.ofChange Rows.frameLineSpec) :=
  OpenClaim.holds_of_wide 9 Try.f9 rfl rfl rfl rfl rfl rfl rfl ⟨rfl, rfl, rfl, rfl, rfl⟩ rfl rfl rfl rfl rfl (by kernel_rfl) Try.func9 (by kernel_rfl)
    (of_decide_eq_true (by kernel_rfl)) (by unfold Func.isWrapper; first | (rw [if_pos (by decide +kernel)]; kernel_rfl) | (rw [if_neg (by decide +kernel)]; exact ⟨rfl, rfl⟩))
    (fun os started H enc _ => lifted os started H enc)
end frameLine

theorem FrameLine_proved : Rows.FrameLineSaid := frameLine.over
#print axioms FrameLine_proved
end Go.Proofs.Ytbkbmmpcjpkkaaa
