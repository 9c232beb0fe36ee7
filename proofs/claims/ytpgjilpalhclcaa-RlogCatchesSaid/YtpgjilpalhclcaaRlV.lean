/- Layer 12's laws: long, rest. -/
import Derived.Test.YtpgjilpalhclcaaRlU
import Derived.Test.YtpgjilpalhclcaaRlGv
namespace Go.Proofs.Ytpgjilpalhclcaa
open Go.RowKit

def Long12 (f : Nat → Gl) (n : Nat) (w : World) (e : Ending) (w' : World) : Prop := ∃ b, e = .returned (.bool b) ∧ w = w' ∧ (b = false → ∀ k, k < n → k < 400 → (f k).n ≤ 1000)
set_option maxRecDepth 100000 in
set_option maxHeartbeats 2000000 in
theorem long12_any {w : World} {B n c : Nat} {A : Option Addr} {f : Nat → Gl} (hA : As12 w B A n f) (hc : n ≤ c ∧ c ≤ 9223372036854775807) : Calls Try.prog 10 #[.slice A n c] w (Long12 f n w) := by
  obtain ⟨h1, h2⟩ := hc
  have HA := Lib.hid hA
  clear hA
  go_enter Try.func10, Try.ntmps10
  go_wp2_with fail
  go_loopg [3] n (fun gk i wr => ∃ k : Nat, i = .int .i64 (k : Int) ∧ k + gk = n ∧ w = wr ∧ Hid (∀ j, j < k → (f j).n ≤ 1000))
  case atStart => exact ⟨0, rfl, by omega, rfl, Lib.hid fun j hj => by omega⟩
  case round =>
    obtain ⟨k, rfl, hkg, rfl, HP⟩ := hrel
    by_cases hk : k < n
    · by_cases h200 : k < 400
      · have hkI : (k : Int) < (n : Int) := by omega
        have hk2 : (k : Int) < 400 := by omega
        obtain ⟨b, o, rfl, _, hi⟩ := HA.out (by omega)
        obtain ⟨_, _, _, q2⟩ := hi k hk
        clear hi
        by_cases hl : 1000 < (f k).n
        · have hlI : (1000 : Int) < ((f k).n : Int) := by omega
          go_wp2
          go_ret
          exact ⟨true, rfl, rfl, fun h => by cases h⟩
        · have hlI : ¬ (1000 : Int) < ((f k).n : Int) := by omega
          have HP2 : Hid (∀ j, j < k + 1 → (f j).n ≤ 1000) := Lib.hid fun j hj => by
            by_cases e : j = k
            · subst e; omega
            · exact HP.out j (by omega)
          go_wp2
          go_roundg (gk - 1)
          case measure => omega
          case rel => exact ⟨k + 1, by go_num, by omega, rfl, HP2⟩
      · have hkI : (k : Int) < (n : Int) := by omega
        have hk2 : ¬ (k : Int) < 400 := by omega
        go_wp2
        go_ret
        exact ⟨false, rfl, rfl, fun _ j _ hj => HP.out j (by omega)⟩
    · have hkI : ¬ (k : Int) < (n : Int) := by omega
      go_wp2
      go_ret
      exact ⟨false, rfl, rfl, fun _ j hj _ => HP.out j (by omega)⟩

theorem Fam.pushK {w w' : World} {base : Nat} {vals : List Value} {ls : List (List UInt8)} {v : Value} {l : List UInt8} {F : Nat → Prop} (h : Fam w base vals ls) (hk : Kp F w w') (hF : ∀ k, F k → k < base) (hv : w'.ownsRow w.heap.size 5 1 v l.length (u8s l)) (hbase : base ≤ w.heap.size) : Fam w' base (vals ++ [v]) (ls ++ [l]) := by
  have h' : Fam w' base vals ls := h.kpE hk fun i u hu k e hf => by
    have := ((h.each i u hu).lt k e).1
    have := hF k hf
    omega
  have hl := h.len
  have hap : ∀ (i : Nat) (u : Value), vals[i]? = some u → Apart u v := by
    intro i u hu g hg hvg
    have h1 := ((h.each i u hu).lt g hg).2
    have h2 := (hv.lt g hvg).1
    omega
  refine ⟨by simp [hl], fun i u hu => ?_, fun i j u x hij hu hx => ?_⟩
  · rcases append_get hu with ⟨hi, hu⟩ | ⟨rfl, rfl⟩
    · have := h'.each i u hu
      have e : (ls ++ [l]).getD i [] = ls.getD i [] := by simp [List.getD, List.getElem?_append_left (show i < ls.length by omega)]
      rw [e]
      exact this
    · have e : (ls ++ [l]).getD vals.length [] = l := by simp [List.getD, hl]
      rw [e]
      exact own_mono hv hbase
  · rcases append_get hu with ⟨_, hu'⟩ | ⟨rfl, rfl⟩
    · rcases append_get hx with ⟨_, hx'⟩ | ⟨rfl, rfl⟩
      · exact h.apart i j u x hij hu' hx'
      · exact hap i u hu'
    · rcases append_get hx with ⟨_, hx'⟩ | ⟨rfl, rfl⟩
      · exact (hap j x hx').symm
      · exact absurd rfl hij
/-- What may be applied, so many. -/
def Rl.outs (p : Rl) (i : Nat) : List En := (List.range i).map fun j => p.at_ (p.ap + 1 + j)
structure RestS (W w : World) (F : Nat → Prop) (g : Nat) (p : Rl) (i : Nat) (v : Value) (wr : World) (es : List Ene) : Prop where
  cat : CatR wr w.heap.size v i es
  vals : es.map (·.1) = p.outs i
  ol : OL W wr F g ⟨p.ap + i, p.row⟩
  kp : Kp F w wr
def RestE (W w : World) (F : Nat → Prop) (g : Nat) (p : Rl) (e : Ending) (w' : World) : Prop :=
  ∃ A c i, e = .returned (.slice A i c) ∧ i ≤ 300 ∧ Hid ((∀ j, j < i → p.has (p.ap + 1 + j) = true) ∧ (i < 300 → p.has (p.ap + 1 + i) = false)) ∧ Hid (∃ es, RestS W w F g p i (.slice A i c) w' es)
set_option maxRecDepth 100000 in
set_option maxHeartbeats 4000000 in
theorem rest_any {W w : World} {F : Nat → Prop} {g : Nat} {p : Rl} (h : OL W w F g p) : Calls Try.prog 28 #[.pointer (some ⟨g, 0, none⟩)] w (RestE W w F g p) := by
  obtain ⟨i0, hi0, hz0, hz1, hz2⟩ := info_parts Try.infoEntry
  have HL := Lib.hid h.lt
  have HS0 : Hid (∃ es, RestS W w F g p 0 (.slice none 0 0) w es) := Lib.hid ⟨[], ⟨World.ownsRow_nil _ _ _ _, Fam.nil _ _, rfl⟩, rfl, h, Kp.refl _ _⟩
  clear h
  go_enter Try.func28, Try.ntmps28
  go_wp2
  go_loopg [3, 4] 300 (fun gk a b wr => ∃ i : Nat, b = .int .i64 (i : Int) ∧ (∃ A c, a = .slice A i c) ∧ i + gk = 300 ∧ Hid (∀ j, j < i → p.has (p.ap + 1 + j) = true) ∧ Hid (∃ es, RestS W w F g p i a wr es))
  case atStart => exact ⟨0, rfl, ⟨none, 0, rfl⟩, by omega, Lib.hid fun j hj => by omega, HS0⟩
  case round =>
    obtain ⟨i, rfl, ⟨A, c, rfl⟩, hig, HH, HS⟩ := hrel
    by_cases hi : i < 300
    · have m1 : (i : Int) < 300 := by omega
      obtain ⟨es, hS⟩ := HS.out
      have HA := Lib.hid hS.ol.apply
      have HSS := Lib.hid hS
      have e5 : IntKind.i64.wrap ((i : Int) + 1) = ((i + 1 : Nat) : Int) := by rw [IntKind.wrap_i64]; omega
      clear hS HS
      cases hh : p.has (p.ap + 1 + i) with
      | false =>
        have hq : (⟨p.ap + i, p.row⟩ : Rl).has (p.ap + i + 1) = false := by unfold Rl.has at hh ⊢; rw [show p.ap + i + 1 = p.ap + 1 + i by omega]; exact hh
        have ht : (⟨p.ap + i, p.row⟩ : Rl).told = (⟨0, []⟩, false) := by unfold Rl.told; rw [if_neg (by rw [hq]; decide)]
        have ha : (⟨p.ap + i, p.row⟩ : Rl).apply = ⟨p.ap + i, p.row⟩ := by unfold Rl.apply; rw [if_neg (by rw [hq]; decide)]
        rw [ht, ha] at HA
        clear ht ha hq
        have Hhh := Lib.hid hh
        clear hh
        unfold enV at HA
        go_wp2_with fail
        refine HA.out.mono ?_
        rintro e w5 ⟨⟨sA, sN, sC⟩, rfl, HX⟩
        unfold s3W
        dsimp only
        have hb6 := bel1L w5 (.cells #[.int .u64 0, .slice sA sN sC] 46)
        have HE : Hid (∃ es, RestS W w F g p i (.slice A i c) (w5.alloc (.cells #[.int .u64 0, .slice sA sN sC] 46)) es) := Lib.hid (by
          obtain ⟨ho, hol, hm⟩ := HX.out
          have hk : Kp F wr (w5.alloc (.cells #[.int .u64 0, .slice sA sN sC] 46)) := hm.kp.trans (Kp.of_below hb6)
          refine ⟨es, ⟨own_kp HSS.out.cat.own hk fun k e hf => by have := (HSS.out.cat.own.lt k e).1; have := HL.out k hf; omega, HSS.out.cat.fam.kpE hk fun j u hu k e hf => by have := ((HSS.out.cat.fam.each j u hu).lt k e).1; have := HL.out k hf; omega, HSS.out.cat.len⟩, HSS.out.vals, hol.below hb6, HSS.out.kp.trans hk⟩)
        clear hb6 HX
        go_wp2
        go_ret
        exact ⟨A, c, i, rfl, by omega, Lib.hid ⟨HH.out, fun _ => Hhh.out⟩, HE⟩
      | true =>
        have hq : (⟨p.ap + i, p.row⟩ : Rl).has (p.ap + i + 1) = true := by unfold Rl.has at hh ⊢; rw [show p.ap + i + 1 = p.ap + 1 + i by omega]; exact hh
        have hat : (⟨p.ap + i, p.row⟩ : Rl).at_ (p.ap + i + 1) = p.at_ (p.ap + 1 + i) := by unfold Rl.at_; rw [show p.ap + i + 1 = p.ap + 1 + i by omega]
        have ht : (⟨p.ap + i, p.row⟩ : Rl).told = (p.at_ (p.ap + 1 + i), true) := by unfold Rl.told; rw [if_pos hq, hat]
        have ha : (⟨p.ap + i, p.row⟩ : Rl).apply = ⟨p.ap + (i + 1), p.row⟩ := by unfold Rl.apply; rw [if_pos hq]; rfl
        rw [ht, ha] at HA
        have Hhh := Lib.hid hh
        obtain ⟨v, hv⟩ : ∃ v, v = p.at_ (p.ap + 1 + i) := ⟨_, rfl⟩
        rw [← hv] at HA
        have Hv := Lib.hid hv
        clear ht ha hq hat hh hv
        unfold enV at HA
        go_wp2_with fail
        refine HA.out.mono ?_
        rintro e w5 ⟨⟨sA, sN, sC⟩, rfl, HX⟩
        unfold s3W
        dsimp only
        obtain ⟨w6, hw6⟩ : ∃ w6, w6 = w5.alloc (.cells #[.int .u64 (v.slot : Int), .slice sA sN sC] 46) := ⟨_, rfl⟩
        obtain ⟨B6, hB6⟩ : ∃ B, B = w5.heap.size := ⟨_, rfl⟩
        have hb6 : Below w5.heap.size w5 w6 := by rw [hw6]; exact bel1L _ _
        have hk6 : Bk w6 B6 46 #[.int .u64 (v.slot : Int), .slice sA sN sC] := by rw [hw6, hB6]; exact Bk.new _ _ _
        have HK : Hid (Kp F wr w6) := Lib.hid (HX.out.2.2.kp.trans (Kp.of_below hb6))
        have HR6 : Hid (w6.ownsRow w.heap.size 46 2 (.slice A i c) i (enC es)) := Lib.hid (own_kp HSS.out.cat.own HK.out fun k e hf => by have := (HSS.out.cat.own.lt k e).1; have := HL.out k hf; omega)
        have HF6 : Hid (Fam w6 w.heap.size ((es ++ [(v, (sA, sN, sC))]).map fun e => s3W e.2) ((es ++ [(v, (sA, sN, sC))]).map fun e => e.1.val)) := Lib.hid (by
          have := HSS.out.cat.fam.pushK (v := .slice sA sN sC) (l := v.val) HK.out HL.out (own_below HX.out.1 hb6 fun k e => (HX.out.1.lt k e).2) HSS.out.kp.size
          rw [List.map_append, List.map_append]
          exact this)
        have HO6 : Hid (OL W w6 F g ⟨p.ap + (i + 1), p.row⟩) := Lib.hid (HX.out.2.1.below hb6)
        have u0 : w6.cell? ⟨B6, 0, none⟩ = some (.int .u64 (v.slot : Int)) := hk6.cell 0
        have u1 : w6.cell? ⟨B6, 1, none⟩ = some (.slice sA sN sC) := hk6.cell 1
        have HW6 := Lib.hid hw6
        have HB6 := Lib.hid hB6
        clear hw6 hB6 hb6 hk6 HX HA
        go_upto_region 6 with (fail)
        rw [← HB6.out, ← HW6.out]
        go_wp2_with (at_builtin; refine wpList_append_app _ rfl _ _ 29 rfl w.heap.size 46 i0 (.agg #[.int .u64 0, .slice none 0 0]) 2 32 Try.underlying29 hi0 hz0 hz1 hz2 rfl _ i (enC es) rfl (own_below HR6.out (bel1L w6 _) fun k hk => (HR6.out.lt k hk).2) (some ⟨w6.heap.size, 0, none⟩) 1 1 (enE (v, (sA, sN, sC))) rfl rfl (by intro e; cases e) (new_cells w6 _ 46 rfl) (fun u hu => enC_one [(v, (sA, sN, sC))] u hu) (by unfold maxLen; omega) (by omega) (by have := HSS.out.kp.size; have := HK.out.size; simp; omega) ?_)
        intro v' w8 ha
        obtain ⟨A8, c8, rfl, _⟩ := own_shape ha.own
        have hkp8 : Kp (fun k => (Value.slice A i c).ownBlock = some k) w6 w8 := (Kp.of_below (bel1L w6 (.cells #[.int .u64 (v.slot : Int), .slice sA sN sC] 46))).trans (Kp.of_row ha.grow fun k e => e)
        have HE : Hid (∃ es, RestS W w F g p (i + 1) (.slice A8 (i + 1) c8) w8 es) := Lib.hid (by
          have hl : es.length = i := HSS.out.cat.len
          have ho8 := ha.own
          rw [show enC es ++ enE (v, (sA, sN, sC)) = enC (es ++ [(v, (sA, sN, sC))]) by rw [enC_app]; rfl] at ho8
          refine ⟨es ++ [(v, (sA, sN, sC))], ⟨ho8, HF6.out.kpE hkp8 fun j u hu k e1 e2 => ?_, by simp [hl]⟩, ?_, HO6.out.kp hkp8 (fun k hf e => ?_) (fun k e => ?_), (HSS.out.kp.trans HK.out).trans' hkp8 fun k e => .inr ?_⟩
          · rcases own_types_ne (HF6.out.each j u hu) HR6.out (by decide) with h' | h'
            · rw [h'] at e1; cases e1
            · exact h' (e1.trans e2.symm)
          · rw [List.map_append, HSS.out.vals]
            unfold Rl.outs
            rw [List.range_succ, List.map_append]
            simp [Hv.out]
          · have := (HR6.out.lt k e).1; have := HL.out k hf; omega
          · have := (HR6.out.lt k e).1; exact Nat.le_trans (by obtain ⟨_, q⟩ := HS0.out; exact q.ol.2.2.size) this
          · exact (HR6.out.lt k e).1)
        clear ha hkp8 HF6 HR6
        go_wp2
        go_roundg (gk - 1)
        case measure => omega
        case rel => exact ⟨i + 1, by go_num, ⟨A8, c8, rfl⟩, by omega, Lib.hid fun j hj => by
          by_cases e : j = i
          · subst e; exact Hhh.out
          · exact HH.out j (by omega), HE⟩
    · obtain rfl : i = 300 := by omega
      go_wp2
      go_ret
      exact ⟨A, c, 300, rfl, Nat.le_refl _, Lib.hid ⟨HH.out, fun h => by omega⟩, HS⟩
end Go.Proofs.Ytpgjilpalhclcaa
