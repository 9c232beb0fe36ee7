/- Layer 14: New that goes well. -/
import Derived.Test.YtmdjdnibblebcaaDoorBtL
namespace Go.Proofs.YtmdjdnibblebcaaDoor
open Go.RowKit Go.Shelf Go.Lib Go.Sort

theorem infoPeer : (Tryd.prog.info? 52).map (fun i => (i.zero, i.size, i.bytes)) = some (some (.agg #[.int .i64 0, .int .i64 0]), 2, 16) := by kernel_rfl
abbrev ndE (pat : Int) (x : Int) : List Value := [.int .i64 x, .int .i64 pat]
abbrev ndL (l : List Int) (pat : Int) : List Value := l.flatMap (ndE pat)
theorem own_nd {w : World} {base : Nat} {val : Value} {l : List Int} {pat : Int} (h : w.ownsRow base 52 2 val l.length (ndL l pat)) (hn : 0 < l.length) :
    ∃ b c cs, val = .slice (some ⟨b, 0, none⟩) l.length c ∧ l.length ≤ c ∧ c ≤ maxLen ∧ base ≤ b ∧ Bk w b 52 cs ∧ l.length * 2 ≤ cs.size ∧ ∀ i (hi : i < l.length), cs[i * 2]? = some (.int .i64 l[i]) ∧ cs[i * 2 + 1]? = some (.int .i64 pat) := by
  rcases h.2 with ⟨_, h0⟩ | ⟨b, c, cs, rfl, hb, hh, h1, h2, h3, h4⟩
  · omega
  refine ⟨b, c, cs, rfl, h1, h2, hb, hh, by rw [h3]; omega, fun i hi => ?_⟩
  have q := fun j (hj : j < 2) => flat_at (f := ndE pat) (s := 2) l (fun x _ => rfl) i j hi hj
  have z := fun j (hj : j < 2) => show cs[i * 2 + j]? = (ndE pat l[i])[j]? by
    rw [← q j hj]
    show _ = (ndL l pat)[i * 2 + j]?
    rw [← h4, List.getElem?_take_of_lt (by omega), Array.getElem?_toList]
  exact ⟨z 0 (by omega), z 1 (by omega)⟩
/-- Behind the rounds so far. -/
structure NwI (w : World) (g : Nat) (l : List Int) (me pat : Int) (i : Nat) (val : Value) (wr : World) : Prop where
  hd : Bk wr g 50 #[val, .int .i64 me, .int .i64 pat, .int .i64 0]
  own : wr.ownsRow w.heap.size 52 2 val i (ndL (l.take i) pat)
  bel : Below w.heap.size w wr
  ge : w.heap.size ≤ g
theorem NwI.ne {w wr : World} {g : Nat} {l : List Int} {me pat : Int} {i : Nat} {val : Value} (h : NwI w g l me pat i val wr) : ∀ k, val.ownBlock = some k → k ≠ g := fun k e e2 => by
  subst e2
  rcases h.own.2 with ⟨rfl, _⟩ | ⟨g', cap, cur, rfl, _, hh, _⟩
  · cases e
  · injection e with e
    have e' : g' = k := e
    subst e'
    have h1 := h.hd
    unfold Bk at h1
    rw [h1] at hh
    injection hh with hh
    injection hh with h2 h3
    cases h3
theorem ndL_one (l : List Int) (pat : Int) : ∀ u ∈ ndL l pat, u.oneCell' = true := by
  intro u hu
  obtain ⟨x, _, hx⟩ := List.mem_flatMap.1 hu
  simp at hx
  rcases hx with rfl | rfl <;> rfl
set_option maxRecDepth 100000 in
set_option maxHeartbeats 4000000 in
theorem new_ok (A : Option Addr) (n c : Nat) (w : World) (l : List Int) (me pat : Nat) (hr : RdI w w.heap.size A n l) (hgood : rightN l me pat = true) :
    Calls Tryd.prog 11 #[.slice A n c, .int .i64 (me : Int), .int .i64 (pat : Int)] w (NewE w l me pat) := by
  have hok := mkV_ok hgood
  have hl := hr.1
  have hn1 : 1 ≤ l.length := hok.n1
  have hn12 : l.length ≤ 12 := hok.n12
  have hme : me < l.length := hok.me
  have hp1 : 1 ≤ pat := hok.p1
  have hp2 : pat ≤ 1000 := hok.p2
  have hany : l.any noSite = false := by
    unfold rightN at hgood
    simp only [Bool.and_eq_true, Bool.not_eq_true'] at hgood
    exact hgood.1.1.1.1.2
  have HC := containsSites A n c w l (by omega) (by omega) hr
  rw [hany] at HC
  have HCH := Lib.hid HC
  have a1 : ¬ (n : Int) < 1 := by omega
  have a2 : ¬ (12 : Int) < (n : Int) := by omega
  have a3 : ¬ (n : Int) ≤ (me : Int) := by omega
  have a4 : ¬ (pat : Int) < 1 := by omega
  have a5 : ¬ (1000 : Int) < (pat : Int) := by omega
  have d1 : decide ((me : Int) < 0) = false := decide_eq_false (by omega)
  have d2 : decide ((n : Int) ≤ (me : Int)) = false := decide_eq_false (by omega)
  have d3 : decide (n ≤ me) = false := decide_eq_false (by omega)
  have d4 : decide ((pat : Int) < 1) = false := decide_eq_false (by omega)
  have d5 : decide ((1000 : Int) < (pat : Int)) = false := decide_eq_false (by omega)
  have HR := Lib.hid hr
  have HOK := Lib.hid hok
  have HL := Lib.hid hl
  have HNA := Lib.hid hany
  have HN := Lib.hid (And.intro hn1 (And.intro hn12 hme))
  clear HC hr hok hgood hany hl hn1 hn12 hme hp1 hp2
  go_enter Tryd.func11, Tryd.ntmps11
  go_upto_region 6 with (go_at_call 29; refine HCH.out.mono ?_; rintro e w1 ⟨rfl, hb1⟩)
  obtain ⟨g, hg⟩ : ∃ g, g = w1.heap.size := ⟨_, rfl⟩
  obtain ⟨w2, hw2⟩ : ∃ w2, w2 = w1.alloc (.cells #[.slice none 0 0, .int .i64 (me : Int), .int .i64 (pat : Int), .int .i64 0] 50) := ⟨_, rfl⟩
  have hk2 : Bk w2 g 50 #[.slice none 0 0, .int .i64 (me : Int), .int .i64 (pat : Int), .int .i64 0] := by rw [hw2, hg]; exact Bk.new w1 _ _
  have hb2 : Below w.heap.size w w2 := hb1.trans (by rw [hw2]; exact (belA w1 _).mono hb1.size)
  have Hi : Hid (NwI w g l me pat 0 (.slice none 0 0) w2) := Lib.hid ⟨hk2, by simpa using World.ownsRow_nil w2 w.heap.size 52 2, hb2, by have := hb1.size; omega⟩
  have HW2 := Lib.hid hw2
  have HG := Lib.hid hg
  obtain ⟨i0, hi0, hz0, hz1, hz2⟩ := info_parts infoPeer
  clear hk2 hb2 hw2 hg hb1 HCH
  go_upto_region 7 with (fail)
  rw [← HW2.out]
  try rw [← HG.out]
  go_wp2
  go_loopg [49] n (fun gk a wr => ∃ i : Nat, a = .int .i64 (i : Int) ∧ i + gk = n ∧ ∃ Ar cr, Hid (NwI w g l me pat i (.slice Ar i cr) wr))
  case atStart => exact ⟨0, rfl, by omega, none, 0, Hi⟩
  case round =>
    obtain ⟨i, rfl, hig, Ar, cr, HI⟩ := hrel
    by_cases hin : i < n
    · have m1 : (i : Int) < (n : Int) := by omega
      have m0 : ¬ (i : Int) < 0 := by omega
      have e1 : IntKind.i64.wrap ((i : Int) + 1) = ((i + 1 : Nat) : Int) := by rw [IntKind.wrap_i64]; have := HN.out; have := HL.out; omega
      have hil : i < l.length := by rw [HL.out]; exact hin
      obtain ⟨b, o, rfl, hbl, hc⟩ := (HR.out.below HI.out.bel).2.2 (by omega)
      have q0 := hc i hil
      have hn12 : n ≤ 12 := by have := HN.out; have := HL.out; omega
      obtain ⟨x, hx⟩ : ∃ x, x = l[i] := ⟨_, rfl⟩
      rw [← hx] at q0
      have c0 : wr.cell? ⟨g, 0, none⟩ = some (.slice Ar i cr) := HI.out.hd.cell 0
      have f0 := HI.out.hd.frozen 0
      have htake : l.take (i + 1) = l.take i ++ [x] := by rw [List.take_succ_eq_append_getElem hil, hx]
      have HTk := Lib.hid htake
      have HO := Lib.hid HI.out.own
      have hbl2 : b < wr.heap.size := by have := HI.out.bel.size; omega
      obtain ⟨wa, hwa⟩ : ∃ wa, wa = wr.alloc (.cells #[.int .i64 x, .int .i64 (pat : Int)] 52) := ⟨_, rfl⟩
      clear hx htake hc
      go_wp2_with (at_builtin; refine (?_ : _ ∧ True).1)
      refine ⟨?_, trivial⟩
      refine wpList_append_app _ rfl _ _ 48 rfl w.heap.size 52 i0 _ 2 16 Tryd.underlying48 hi0 hz0 hz1 hz2 rfl _ i (ndL (l.take i) pat) rfl (own_below HO.out (belA wr _) fun k hk => (HO.out.lt k hk).2) (some ⟨wr.heap.size, 0, none⟩) 1 1 (ndL [x] pat) rfl rfl (by intro e; cases e) (new_cells wr _ 52 rfl) (ndL_one _ _) (by unfold maxLen; omega) (by omega) (by have := HI.out.bel.size; simp; omega) ?_
      intro v' w5 ha
      obtain ⟨A6, c6, rfl, _⟩ := own_shape ha.own
      have hkg : ∀ k, (Value.slice Ar i cr).ownBlock = some k → k ≠ g := HI.out.ne
      have hbkr := HI.out.hd.below (belA wr (.cells #[.int .i64 x, .int .i64 (pat : Int)] 52)) HI.out.hd.lt
      have hbk5 : Bk w5 g 50 #[.slice Ar i cr, .int .i64 (me : Int), .int .i64 (pat : Int), .int .i64 0] := hbkr.grown ha.grow fun e => hkg g e.symm rfl
      have y0 : w5.cell? ⟨g, 0, none⟩ = some (.slice Ar i cr) := hbk5.cell 0
      have z0 := hbk5.frozen 0
      have hnb : A6 = some ⟨g, 0, none⟩ → False := fun e => by
        subst e
        rcases ha.own.2 with ⟨e, _⟩ | ⟨g', cap, cur, e, _, hh, _⟩
        · cases e
        · injection e with e
          injection e with e
          injection e with e
          subst e
          have h1 := hbk5
          unfold Bk at h1
          rw [h1] at hh
          injection hh with hh
          injection hh with h2 h3
          cases h3
      have HI6 : Hid (NwI w g l me pat (i + 1) (.slice A6 (i + 1) c6) (w5.setCell ⟨g, 0, none⟩ (.slice A6 (i + 1) c6))) := Lib.hid ⟨hbk5.set_ 0 _, own_kp (F := fun k => k = g) (by
          have := ha.own
          rw [show ndL (l.take i) pat ++ ndL [x] pat = ndL (l.take (i + 1)) pat by rw [HTk.out]; simp [ndL]] at this
          exact this) (Kp.set_ (F := fun k => k = g) (p := ⟨g, 0, none⟩) rfl _) (fun k e e2 => by
          subst e2
          rcases ha.own.2 with ⟨e3, _⟩ | ⟨g', cap, cur, e3, _⟩
          · rw [e3] at e; cases e
          · injection e3 with e3
            subst e3
            injection e with e
            have e' : g' = k := e
            subst e'
            exact hnb rfl),
        (ha.below (HI.out.bel.trans ((belA wr _).mono HI.out.bel.size)) (by have := HI.out.bel.size; simp; omega) fun k hk => (HO.out.lt k hk).1).trans ((Kp.set_ (F := fun k => k = g) (p := ⟨g, 0, none⟩) rfl _).below (fun k e => by have := HI.out.ge; omega) (by have := (ha.below (HI.out.bel.trans ((belA wr _).mono HI.out.bel.size)) (by have := HI.out.bel.size; simp; omega) fun k hk => (HO.out.lt k hk).1).size; exact this)), HI.out.ge⟩
      clear ha HO hkg hbkr hbk5 hnb
      go_wp2
      go_roundg (gk - 1)
      case measure => omega
      case rel => exact ⟨i + 1, by go_num, by omega, A6, c6, HI6⟩
    · obtain rfl : i = n := by omega
      have m1 : ¬ (i : Int) < (i : Int) := by omega
      have hli := HL.out
      have htk : l.take i = l := List.take_of_length_le (by omega)
      have ho := HI.out.own
      rw [htk, ← hli] at ho
      obtain ⟨b, cc, cs, hval, hc1, hc2, hbb, hbk, hsz, hcs⟩ := own_nd ho (by have := HN.out; omega)
      injection hval with e1 _ e2
      subst e1 e2
      have hhd := HI.out.hd
      have c0 : wr.cell? ⟨g, 0, none⟩ = some (.slice (some ⟨b, 0, none⟩) i cr) := hhd.cell 0
      have hmel : me < l.length := HN.out.2.2
      have s1 : wr.cell? ⟨b, me * 2 + 1, none⟩ = some (.int .i64 (pat : Int)) := by rw [hbk.cell]; exact (hcs me hmel).2
      have f1 := hbk.frozen (me * 2 + 1)
      have m2 : (me : Int) < (i : Int) := by omega
      have m3 : ¬ (me : Int) < 0 := by omega
      have hgb : g ≠ b := fun e => HI.out.ne b rfl e.symm
      have hfin : PV (wr.setCell ⟨b, me * 2 + 1, none⟩ (.int .i64 0)) g b cr (mkV l me pat) := by
        refine ⟨HOK.out, hgb, ⟨hc1, hc2⟩, ?_, _, hbk.set_ (me * 2 + 1) _, ?_⟩
        · have h9 := hhd.kp (F := fun k => k = b) (Kp.set_ (F := fun k => k = b) (p := ⟨b, me * 2 + 1, none⟩) rfl (.int .i64 0)) hgb
          unfold vwA mkV
          dsimp only
          rw [hli]
          exact h9
        · refine ⟨by show l.length * 2 ≤ _; simpa using hsz, fun j hj => ?_, fun j hj => ?_⟩
          · have hj' : j < l.length := hj
            rw [Array.getElem?_setIfInBounds_ne (by omega), (hcs j hj').1]
            have h8 : l.getD j 0 = l[j] := by simp [List.getD, hj']
            have h7 : 0 ≤ l[j] := by
              have hany := HNA.out
              have := (List.any_eq_false.1 hany) l[j] (List.getElem_mem hj')
              unfold noSite at this
              simp at this
              omega
            show _ = some (Value.int .i64 (((l.getD j 0).toNat : Nat) : Int))
            rw [h8, Int.toNat_of_nonneg h7]
          · have hj' : j < l.length := hj
            show _ = some (Value.int .i64 (((if j = me then 0 else pat : Nat)) : Int))
            by_cases e : j = me
            · subst e
              rw [Array.getElem?_setIfInBounds_self_of_lt (by omega), if_pos rfl]
              rfl
            · rw [Array.getElem?_setIfInBounds_ne (by omega), if_neg e]
              exact (hcs j hj').2
      have HFin : Hid (PV (wr.setCell ⟨b, me * 2 + 1, none⟩ (.int .i64 0)) g b cr (mkV l me pat) ∧ w.heap.size ≤ g ∧ w.heap.size ≤ b ∧ Below w.heap.size w (wr.setCell ⟨b, me * 2 + 1, none⟩ (.int .i64 0))) :=
        Lib.hid ⟨hfin, HI.out.ge, hbb, HI.out.bel.trans ((Kp.set_ (F := fun k => k = b) (p := ⟨b, me * 2 + 1, none⟩) rfl _).below (fun k e => by omega) HI.out.bel.size)⟩
      clear hfin hhd hbk hcs ho hli htk hc1 hc2 hsz hgb hmel
      go_wp2
      refine bodyPost_ret (by simp [results, Tryd.results11, go_sem]; try rfl) rfl ?_
      exact ⟨g, b, cr, rfl, HFin⟩
end Go.Proofs.YtmdjdnibblebcaaDoor
