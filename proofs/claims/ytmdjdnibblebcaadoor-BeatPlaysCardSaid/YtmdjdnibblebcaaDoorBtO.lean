/- Layer 14: Order and Leader. -/
import Derived.Test.YtmdjdnibblebcaaDoorBtS
import Derived.Test.YtmdjdnibblebcaaDoorAppend
import Derived.Test.YtmdjdnibblebcaaDoorFlat
import Derived.Laws.EntriesVeiled
namespace Go.Proofs.YtmdjdnibblebcaaDoor
open Go.RowKit Go.Shelf Go.Lib Go.Sort

theorem infoIntB : (Tryd.prog.info? 3).map (fun i => (i.zero, i.size, i.bytes)) = some (some (.int .i64 0), 1, 8) := by kernel_rfl
theorem natsV_one (l : List Nat) : ∀ u ∈ natsV l, u.oneCell' = true := by
  intro u hu
  obtain ⟨i, _, rfl⟩ := List.mem_map.1 hu
  rfl
set_option maxRecDepth 100000 in
theorem order_nil (home : Int) (w : World) : Calls Tryd.prog 17 #[.pointer none, .int .i64 home] w fun e w' => (∃ A c, e = .returned (.slice A 0 c)) ∧ Below w.heap.size w w' := by
  have HU : Hid (∀ W, Calls Tryd.prog 19 #[.pointer none] W fun e w' => e = .returned (.int .u32 0) ∧ w' = W) := Lib.hid fun W => up_nil W
  have HS : Hid (∀ A c fv W, Calls Tryd.prog 33 #[.slice A 0 c, fv] W fun e w' => e = .returned (.tuple #[]) ∧ w' = W) := Lib.hid fun A c fv W => sort_none A c fv W
  go_enter Tryd.func17, Tryd.ntmps17
  go_wp2_with (first | (go_at_call 19; refine (HU.out _).mono ?_; rintro e w' ⟨rfl, rfl⟩) | fail)
  refine wp_loop_rounds 1 ?_
  rw [rounds_succ]
  go_wp2_with (first | (go_at_call 33; refine (HS.out _ _ _ _).mono ?_; rintro e w' ⟨rfl, rfl⟩) | fail)
  go_ret
  exact ⟨⟨_, _, rfl⟩, by repeat (first | exact Below.refl _ _ | refine Below.alloc ?_ (by simp <;> omega) _)⟩
theorem up_mem_ne {v : Vw} (h : v.Ok) : lstU v.up ≠ [] := fun e => by
  have : v.me ∈ lstU v.up := (mem_lst _ _).2 ⟨by have := h.me; have := h.n12; omega, Vw.up_me h⟩
  rw [e] at this
  exact absurd this List.not_mem_nil
theorem Below_kp {B : Nat} {w w1 w2 : World} {k : Nat} (h : Below B w w1) (hk : Kp (fun x => x = k) w1 w2) (hB : B ≤ w1.heap.size) (h2 : B ≤ k) : Below B w w2 := h.trans (hk.below (fun x e => by omega) hB)
/-- What Order answers. -/
def OrdE (w : World) (l : List Nat) (e : Ending) (w' : World) : Prop := ∃ v, e = .returned v ∧ Below w.heap.size w w' ∧ w'.ownsRow w.heap.size 3 1 v l.length (natsV l)
section
variable {w : World} {g b c : Nat} {v : Vw}
structure OrI (W : World) (g b c : Nat) (v : Vw) (val : Value) (l : List Nat) (wr : World) : Prop where
  own : wr.ownsRow W.heap.size 3 1 val l.length (natsV l)
  bel : Below W.heap.size W wr
set_option maxRecDepth 100000 in
set_option maxHeartbeats 4000000 in
theorem order_any (h : PV w g b c v) (hT : Tz w) (home : Int) : Calls Tryd.prog 17 #[.pointer (some ⟨g, 0, none⟩), .int .i64 home] w (OrdE w (v.order home)) := by
  obtain ⟨w1, hw1⟩ : ∃ w1, w1 = w.alloc (.cells #[.pointer (some ⟨g, 0, none⟩)] 24) := ⟨_, rfl⟩
  obtain ⟨w2, hw2⟩ : ∃ w2, w2 = w1.alloc (.cells #[.int .i64 home] 3) := ⟨_, rfl⟩
  have hb1 : Below w.heap.size w w1 := by rw [hw1]; exact belA _ _
  have hs1 : w1.heap.size = w.heap.size + 1 := by rw [hw1]; simp
  have hb2 : Below w1.heap.size w1 w2 := by rw [hw2]; exact belA _ _
  have hs2 : w2.heap.size = w.heap.size + 2 := by rw [hw2]; simp [hs1]
  have hbw : Below w.heap.size w w2 := hb1.trans (hb2.mono hb1.size)
  have kv : Bk w2 w.heap.size 24 #[.pointer (some ⟨g, 0, none⟩)] := by
    have : Bk w1 w.heap.size 24 #[.pointer (some ⟨g, 0, none⟩)] := by rw [hw1]; exact Bk.new w _ _
    exact this.below hb2 this.lt
  have kh : Bk w2 (w.heap.size + 1) 3 #[.int .i64 home] := by rw [hw2, ← hs1]; exact Bk.new w1 _ _
  have hp2 := h.below hbw
  have hT2 := hT.below hbw hT.lt
  have HU := Lib.hid (up_any hp2)
  have hlt := Vw.up_lt h.ok
  obtain ⟨bv, hbv⟩ : ∃ bv, bv = w.heap.size := ⟨_, rfl⟩
  obtain ⟨bh, hbh⟩ : ∃ bh, bh = w.heap.size + 1 := ⟨_, rfl⟩
  rw [← hbv] at kv
  rw [← hbh] at kh
  have p0 : w2.cell? ⟨bv, 0, none⟩ = some (.pointer (some ⟨g, 0, none⟩)) := kv.cell 0
  have HKV := Lib.hid kv
  have HKH := Lib.hid kh
  have HB := Lib.hid (And.intro hbv hbh)
  have HW := Lib.hid (show w2 = (w.alloc (.cells #[.pointer (some ⟨g, 0, none⟩)] 24)).alloc (.cells #[.int .i64 home] 3) by rw [hw2, hw1])
  have HS := Lib.hid hs2
  have HBW := Lib.hid hbw
  have HP := Lib.hid hp2
  have HT := Lib.hid hT2
  have HBV := Lib.hid (show w.heap.size = bv from hbv.symm)
  have HBH := Lib.hid (show bv + 1 = bh by omega)
  have HON : Hid (g < w.heap.size ∧ b < w.heap.size) := Lib.hid h.lt
  clear hw1 hw2 hb1 hs1 hb2 hs2 hbw kv kh hp2 hT2 h hT hbv hbh
  go_enter Tryd.func17, Tryd.ntmps17
  go_upto_region 2 with (fail)
  rw [← HW.out]
  try rw [HBV.out]
  try rw [HBH.out]
  go_wp2_with fail
  refine HU.out.mono ?_
  rintro e w3 ⟨rfl, hb3⟩
  obtain ⟨i0, hi0, hz0, hz1, hz2⟩ := info_parts infoIntB
  obtain ⟨X, hX⟩ : ∃ X, X = v.up := ⟨_, rfl⟩
  rw [← hX] at hlt ⊢
  have HX := Lib.hid hX
  have Hi : Hid (OrI w2 g b c v (.slice none 0 0) [] w3) := Lib.hid ⟨World.ownsRow_nil _ _ _ _, hb3⟩
  have hlen : (lstU X).length ≤ 12 := by
    unfold lstU
    exact Nat.le_trans (List.length_filter_le _ _) (by simp)
  clear hX hb3 HU
  go_wp2
  go_loopg [5, 6] (lstU X).length (fun gk a d wr => ∃ (x : Nat) (l : List Nat), (∃ A c, a = .slice A l.length c) ∧ d = .int .u32 (x : Int) ∧ x < 4096 ∧ gk = (lstU x).length ∧ Hid (l ++ lstU x = lstU X) ∧ Hid (OrI w2 g b c v a l wr))
  case atStart => exact ⟨X, [], ⟨none, 0, rfl⟩, rfl, hlt, rfl, Lib.hid rfl, Hi⟩
  case round =>
    obtain ⟨x, l, ⟨A, cA, rfl⟩, rfl, hx, hgk, HL, HI⟩ := hrel
    have hll : l.length ≤ 12 := by
      have := congrArg List.length HL.out
      rw [List.length_append] at this
      omega
    by_cases h0 : x = 0
    · have hx0 : ((x : Int) == 0) = true := by simp; omega
      have hx1 : (x : Int) = 0 := by omega
      have HL2 : Hid (l = lstU X) := Lib.hid (by have := HL.out; rw [h0, lst_zero, List.append_nil] at this; exact this)
      have hl0 : l ≠ [] := by
        intro e
        have h1 := up_mem_ne HP.out.ok
        rw [← HX.out, ← HL2.out, e] at h1
        exact h1 rfl
      obtain ⟨kk, rfl⟩ : ∃ kk, A = some ⟨kk, 0, none⟩ := by
        rcases HI.out.own.2 with ⟨e, e0⟩ | ⟨g', cap, cur, e, _⟩
        · exact absurd (List.length_eq_zero_iff.1 e0) hl0
        · injection e with e
          exact ⟨g', e⟩
      obtain ⟨ba, hba⟩ : ∃ ba, ba = wr.heap.size := ⟨_, rfl⟩
      obtain ⟨w6, hw6⟩ : ∃ w6, w6 = wr.alloc (.cells #[.func (.func 32) #[] #[.pointer (some ⟨bv, 0, none⟩), .pointer (some ⟨bh, 0, none⟩)]] 32) := ⟨_, rfl⟩
      have hb6 : Below wr.heap.size wr w6 := by rw [hw6]; exact belA _ _
      have hk6 : Bk w6 ba 32 #[.func (.func 32) #[] #[.pointer (some ⟨bv, 0, none⟩), .pointer (some ⟨bh, 0, none⟩)]] := by rw [hw6, hba]; exact Bk.new wr _ _
      have hbel6 : Below w2.heap.size w2 w6 := HI.out.bel.trans (hb6.mono HI.out.bel.size)
      have hkk := HI.out.own.lt kk rfl
      have hgl := HP.out.lt
      have hbl := HB.out
      have hsz2 := HS.out
      have hlt6 := HKV.out.lt
      have hlt7 := HKH.out.lt
      have hszr := HI.out.bel.size
      have hon := HON.out
      have ho6 : w6.ownsRow w2.heap.size 3 1 (.slice (some ⟨kk, 0, none⟩) l.length cA) l.length (natsV l) := own_below HI.out.own hb6 fun k hk => (HI.out.own.lt k hk).2
      have HQ := sort_any (HP.out.below hbel6) ((HKV.out.below hbel6 hlt6).cell 0) ((HKH.out.below hbel6 hlt7).cell 0) (hk6.cell 0) (by omega) (by omega) (by omega) (by omega) (by omega)
        (l := l) (fun i hi => by
          rw [HL2.out, HX.out] at hi
          have h1 := ((mem_lst _ _).1 hi).2
          rw [Vw.up_bit] at h1
          simp at h1
          exact h1.1) (by rw [HL2.out]; exact lst_sorted _) ho6
      have HQ2 := Lib.hid HQ
      have HBA := Lib.hid hba
      have HW6 := Lib.hid hw6
      have HF : Hid (Below w.heap.size w w6 ∧ w.heap.size ≤ kk) := Lib.hid ⟨HBW.out.trans (hbel6.mono HBW.out.size), by omega⟩
      clear hl0 hba hw6 hb6 hk6 hbel6 hkk hgl hbl hsz2 hlt6 hlt7 hszr hon ho6 HQ HL hx hgk h0
      go_wp2_with fail
      try rw [← HBA.out]
      try rw [← HW6.out]
      refine HQ2.out.mono ?_
      rintro e w7 ⟨rfl, hk7, ho7⟩
      have HK7 := Lib.hid hk7
      have HO7 := Lib.hid ho7
      clear hk7 ho7
      go_wp2
      go_ret
      have e9 : (Vw.ordL v.site home l).length = l.length := by have := HO7.out.1; simpa using this
      have e8 : v.order home = Vw.ordL v.site home l := by unfold Vw.order; rw [HL2.out, HX.out]
      refine ⟨_, rfl, Below_kp HF.out.1 HK7.out HF.out.1.size HF.out.2, ?_⟩
      rw [e8, e9]
      exact own_mono HO7.out (by have := HS.out; omega)
    · have hx0 : ((x : Int) == 0) = false := by simp; omega
      have hx1 : ¬ (x : Int) = 0 := by omega
      have hst := lst_step x hx h0
      have e1 : IntKind.u32.wrap ((x : Int) - 1) = ((x - 1 : Nat) : Int) := by rw [IntKind.wrap_u32]; omega
      have e2 := and_u32 x (x - 1) (by omega) (by omega)
      have hlt2 := and_pred_lt x h0
      have HC := Lib.hid (tz_any x (by omega) wr (HT.out.below HI.out.bel HT.out.lt))
      obtain ⟨k, hk⟩ : ∃ k, k = ctz 32 x := ⟨_, rfl⟩
      rw [← hk] at HC hst
      obtain ⟨x2, hx2⟩ : ∃ x2, x2 = x &&& (x - 1) := ⟨_, rfl⟩
      rw [← hx2] at e2 hlt2 hst
      have HST := Lib.hid hst
      have HO := Lib.hid HI.out.own
      have hx2b : x2 < 4096 := by omega
      have hgk2 : gk = (lstU x2).length + 1 := by rw [hgk, hst]; rfl
      clear hst hk hx2 hlt2 hgk
      go_wp2_with (first | (go_at_call 31; refine HC.out.mono ?_; rintro e w' ⟨rfl, rfl⟩) | (at_builtin; refine (?_ : _ ∧ True).1))
      refine ⟨?_, trivial⟩
      refine wpList_append_app _ rfl _ _ 22 rfl w2.heap.size 3 i0 (.int .i64 0) 1 8 Tryd.underlying22 hi0 hz0 hz1 hz2 rfl _ l.length (natsV l) rfl (own_below HO.out (belA w' _) fun k hk => (HO.out.lt k hk).2) (some ⟨w'.heap.size, 0, none⟩) 1 1 (natsV [k]) rfl rfl (by intro e; cases e) (new_cells w' _ 3 rfl) (natsV_one _) (by unfold maxLen; omega) (by omega) (by have := HI.out.bel.size; simp; omega) ?_
      intro v' w5 ha
      obtain ⟨A6, c6, rfl, _⟩ := own_shape ha.own
      have HI6 : Hid (OrI w2 g b c v (.slice A6 (l.length + 1) c6) (l ++ [k]) w5) := Lib.hid ⟨by
        have := ha.own
        rw [show natsV l ++ natsV [k] = natsV (l ++ [k]) by simp [natsV]] at this
        simpa using this, ha.below (HI.out.bel.trans ((belA w' _).mono HI.out.bel.size)) (by have := HI.out.bel.size; simp; omega) fun k hk => (HO.out.lt k hk).1⟩
      clear ha HO
      go_wp2
      go_roundg (gk - 1)
      case measure => omega
      case rel =>
        refine ⟨x2, l ++ [k], ⟨A6, c6, by simp⟩, rfl, hx2b, by omega, Lib.hid ?_, ?_⟩
        · have := HL.out
          rw [HST.out] at this
          simpa using this
        · exact HI6
end
end Go.Proofs.YtmdjdnibblebcaaDoor
