/- Layer 12, the program's log: Holes. -/
import Derived.Test.YtnomddhgcdoifaaRlR
import Derived.Test.YtnomddhgcdoifaaRlJ
namespace Go.Proofs.Ytnomddhgcdoifaa
open Go.RowKit

def u64s (l : List Nat) : List Value := l.map fun x : Nat => .int .u64 (x : Int)
theorem u64s_len (l : List Nat) : (u64s l).length = l.length := by simp [u64s]
theorem u64s_app (a b : List Nat) : u64s (a ++ b) = u64s a ++ u64s b := by simp [u64s]
theorem u64s_one (l : List Nat) : ∀ u ∈ u64s l, u.oneCell' = true := by
  intro u hu; obtain ⟨_, _, rfl⟩ := List.mem_map.1 hu; rfl
theorem infoU64 : (Try.prog.info? 23).map (fun i => (i.zero, i.size, i.bytes)) = some (some (.int .u64 0), 1, 8) := by kernel_rfl
/-- Numbers of the call's own. -/
def HolE (w : World) (l : List Nat) (e : Ending) (w' : World) : Prop := ∃ A n c, e = .returned (.slice A n c) ∧ w'.ownsRow w.heap.size 23 1 (.slice A n c) n (u64s l) ∧ l.length = n ∧ Below w.heap.size w w'
set_option maxRecDepth 100000 in
theorem eholes_nil (m : Int) (w : World) : Calls Try.prog 16 #[.pointer none, .int .i64 m] w fun e w' => e = .returned (.slice none 0 0) ∧ w = w' := by
  go_enter Try.func16, Try.ntmps16
  go_wp2
  go_ret
  exact ⟨rfl, rfl⟩
structure HolS (w : World) (v : Value) (l : List Nat) (wr : World) : Prop where
  own : wr.ownsRow w.heap.size 23 1 v l.length (u64s l)
  bel : Below w.heap.size w wr
theorem HolS.up {w wr w' : World} {v : Value} {l : List Nat} (h : HolS w v l wr) (hb : Below wr.heap.size wr w') : HolS w v l w' := ⟨own_below h.own hb fun k e => (h.own.lt k e).2, h.bel.trans (hb.mono h.bel.size)⟩
set_option maxRecDepth 100000 in
set_option maxHeartbeats 8000000 in
theorem eholes_any {w : World} {F : Nat → Prop} {g : Nat} {p : Rl} (h : PL w F g p) (m : Int) (hm : m ≤ 1000000) : Calls Try.prog 16 #[.pointer (some ⟨g, 0, none⟩), .int .i64 m] w (HolE w (p.hol m.toNat p.top)) := by
  obtain ⟨i0, hi0, hz0, hz1, hz2⟩ := info_parts infoU64
  obtain ⟨A, N, c, es, hbk, hrow, heq, hNp, hok, hFg, hlt⟩ := h
  have hel : N = es.length := by rw [hNp, ← heq, List.length_map]
  have hN4 := hok.len
  have hap := hok.ap
  rw [← hNp] at hN4
  have c0 : w.cell? ⟨g, 0, none⟩ = some (.int .u64 (p.ap : Int)) := hbk.cell 0
  have c1 : w.cell? ⟨g, 1, none⟩ = some (.slice A N c) := hbk.cell 1
  obtain ⟨T, hT⟩ : ∃ T, T = p.ap + 1 := ⟨_, rfl⟩
  have e1 : IntKind.u64.wrap ((p.ap : Int) + 1) = (T : Int) := by rw [IntKind.wrap_u64]; omega
  have HF := Lib.hid (efrom_any hrow (by rw [heq]; exact hok.rise) (by omega) T)
  rw [heq] at HF
  obtain ⟨L, hL⟩ : ∃ L, L = p.row.drop (findE T p.row) := ⟨_, rfl⟩
  rw [← hL] at HF
  have HA : Hid (AbvL p T L) := Lib.hid (by rw [hL]; exact abvL hok T)
  have HEnd : Hid (∀ sl, ((L.length = 0 ∧ sl = T) ∨ (0 < L.length ∧ ∃ hi : L.length - 1 < L.length, sl = L[L.length - 1].slot + 1)) → p.hol m.toNat sl = p.hol m.toNat p.top) := Lib.hid fun sl hs => hol_end hT hL hok hs
  have hT64 : T < 18446744073709551616 := by omega
  have HT := Lib.hid hT
  obtain ⟨M, hM⟩ : ∃ M, M = m.toNat := ⟨_, rfl⟩
  rw [← hM] at HEnd ⊢
  have HM := Lib.hid hM
  clear hbk hrow heq hNp hok hFg hlt hel hL hT hM
  go_enter Try.func16, Try.ntmps16
  go_wp2_with fail
  refine HF.out.mono ?_
  rintro e w2 ⟨A2, n2, c2, es2, rfl, hE, heq2, hb2⟩
  have hl2 : L.length = n2 := by rw [← heq2, List.length_map, hE.len]
  have hle2 := hE.len
  have HB2 := Lib.hid hb2
  have HC : Hid (∀ W, Below w2.heap.size w2 W → ∀ i (hi : i < n2) (hi' : i < L.length), ∃ R o x, A2 = some ⟨R, o, none⟩ ∧ W.cell? ⟨R, o + i * 2, none⟩ = some (.int .u64 (L[i].slot : Int)) ∧ W.cell? ⟨R, o + i * 2 + 1, none⟩ = some (s3W x)) := Lib.hid fun W hb i hi hi' => by
    obtain ⟨R, o, e, _, _, hc⟩ := (hE.below hb).row (by omega)
    obtain ⟨c0, c1⟩ := hc i (by omega)
    have : L[i] = es2[i].1 := by simp only [← heq2, List.getElem_map]
    rw [← this] at c0
    exact ⟨R, o, _, e, c0, c1⟩
  have HL2 := Lib.hid hl2
  have hn2 : n2 ≤ 4096 := by rw [← hl2]; exact HA.out.len
  clear hE hb2 HF hle2 heq2 hl2
  go_wp2
  go_loopg [5, 6, 23] n2 (fun gk a b d wr => ∃ i sl : Nat, d = .int .i64 (i : Int) ∧ b = .int .u64 (sl : Int) ∧ (∃ A c, a = .slice A (p.hol M sl).length c) ∧ i + gk = n2 ∧ sl < 18446744073709551616 ∧ T ≤ sl ∧ Hid ((i = 0 ∧ sl = T) ∨ (0 < i ∧ ∃ hi : i - 1 < L.length, sl = L[i - 1].slot + 1)) ∧ Hid (HolS w2 a (p.hol M sl) wr))
  case atStart =>
    have h0 : p.hol M T = [] := by rw [HT.out]; exact hol_start p M
    refine ⟨0, T, rfl, rfl, ⟨none, 0, by rw [h0]; rfl⟩, by omega, hT64, Nat.le_refl _, Lib.hid (.inl ⟨rfl, rfl⟩), Lib.hid ?_⟩
    rw [h0]
    exact ⟨by simpa [u64s] using World.ownsRow_nil _ _ _ _, Below.refl _ _⟩
  case round =>
    obtain ⟨i, sl, rfl, rfl, ⟨Ah, ch, rfl⟩, hig, hsl, hTs, HI, HS⟩ := hrel
    by_cases hi : i < n2
    · have hiL : i < L.length := by rw [HL2.out]; exact hi
      obtain ⟨R, o, x, rfl, q0, q1⟩ := HC.out wr HS.out.bel i hi hiL
      obtain ⟨E, hE⟩ : ∃ E, E = L[i].slot := ⟨_, rfl⟩
      rw [← hE] at q0
      have hlow := HA.out.low i hiL
      rw [← hE] at hlow
      have hslE : sl ≤ E := by
        rcases HI.out with ⟨_, h⟩ | ⟨h0, h1, h2⟩
        · omega
        · have := HA.out.rise (i - 1) i h1 hiL (by omega)
          omega
      have HNo : Hid (∀ x, sl ≤ x → x < E → p.has x = false) := Lib.hid fun x h1 h2 => by
        cases hh : p.has x with
        | false => rfl
        | true =>
          obtain ⟨j, hj, he⟩ := HA.out.mem x (by omega) hh
          by_cases hji : j < i
          · exfalso
            rcases HI.out with ⟨h, _⟩ | ⟨h0, h3, h4⟩
            · omega
            · by_cases hj1 : j = i - 1
              · subst hj1; omega
              · have := HA.out.rise j (i - 1) hj h3 (by omega); omega
          · exfalso
            by_cases hj1 : j = i
            · subst hj1; omega
            · have := HA.out.rise i j hiL hj (by omega); omega
      have HHE : Hid (p.has E = true) := Lib.hid (by rw [hE]; exact HA.out.has i hiL)
      have HE : Hid (∀ hi : i < L.length, E = L[i].slot) := Lib.hid fun _ => hE
      obtain ⟨w4, hw4⟩ : ∃ w4, w4 = wr.alloc (.cells #[.int .u64 (E : Int), s3W x] 45) := ⟨_, rfl⟩
      obtain ⟨B, hB⟩ : ∃ B, B = wr.heap.size := ⟨_, rfl⟩
      have hk4 : Bk w4 B 45 #[.int .u64 (E : Int), s3W x] := by rw [hw4, hB]; exact Bk.new wr _ _
      have hb4 : Below wr.heap.size wr w4 := by rw [hw4]; exact bel1L wr _
      have HS4 := Lib.hid (HS.out.up hb4)
      have HK4 := Lib.hid hk4
      have HW4 := Lib.hid hw4
      have HBs := Lib.hid hB
      have m1 : (i : Int) < (n2 : Int) := by omega
      have m0 : ¬ (i : Int) < 0 := by omega
      have e5 : IntKind.i64.wrap ((i : Int) + 1) = ((i + 1 : Nat) : Int) := by rw [IntKind.wrap_i64]; omega
      have e6 : IntKind.u64.wrap ((E : Int) + 1) = ((E + 1 : Nat) : Int) := by rw [IntKind.wrap_u64]; omega
      clear hE hk4 hb4 hw4 hB HS hiL
      obtain ⟨xA, xN, xC⟩ := x
      unfold s3W at q1 HK4 HW4
      dsimp only at q1 HK4 HW4
      obtain ⟨gko, hgko⟩ : ∃ z, z = gk := ⟨_, rfl⟩
      obtain ⟨wo, hwo⟩ : ∃ W, W = wr := ⟨_, rfl⟩
      subst hgko hwo
      go_wp2
      rw [← HBs.out, ← HW4.out]
      go_loopg [5, 6] (E - sl) (fun gk a b wr => ∃ x : Nat, b = .int .u64 (x : Int) ∧ (∃ A c, a = .slice A (p.hol M x).length c) ∧ x + gk = E ∧ sl ≤ x ∧ Hid (HolS w2 a (p.hol M x) wr) ∧ Hid (Bk wr B 45 #[.int .u64 (E : Int), .slice xA xN xC]))
      case atStart => exact ⟨sl, rfl, ⟨_, _, rfl⟩, by omega, Nat.le_refl _, HS4, HK4⟩
      case round =>
        obtain ⟨x, rfl, ⟨Ax, cx, rfl⟩, hxg, hxs, HX, HKx⟩ := hrel
        have z0 : wr.cell? ⟨B, 0, none⟩ = some (.int .u64 (E : Int)) := HKx.out.cell 0
        by_cases hlt : x < E ∧ (p.hol M x).length < M
        · have hmM : ((p.hol M x).length : Int) < m := by have := HM.out; omega
          have hxE : (x : Int) < (E : Int) := by omega
          have hadd : p.hol M (x + 1) = p.hol M x ++ [x] := hol_add (by have := HT.out; omega) (HNo.out x hxs hlt.1) hlt.2
          have HAdd := Lib.hid hadd
          have e7 : IntKind.u64.wrap ((x : Int) + 1) = ((x + 1 : Nat) : Int) := by rw [IntKind.wrap_u64]; omega
          have hlen : (p.hol M x).length ≤ 1000000 := by have := HM.out; omega
          generalize p.hol M x = l at *
          have HXo := Lib.hid HX.out.own
          clear hlt hadd
          go_wp2_with (at_builtin; refine wpList_append_app _ rfl _ _ 39 rfl w2.heap.size 23 i0 (.int .u64 0) 1 8 Try.underlying39 hi0 hz0 hz1 hz2 rfl _ l.length (u64s l) rfl (own_below HXo.out (bel1L wr _) fun k hk => (HXo.out.lt k hk).2) (some ⟨wr.heap.size, 0, none⟩) 1 1 (u64s [x]) rfl rfl (by intro e; cases e) (new_cells wr _ 23 rfl) (u64s_one _) (by unfold maxLen; omega) (by omega) (by have := HX.out.bel.size; simp; omega) ?_)
          intro v' w5 ha
          obtain ⟨A6, c6, rfl, _⟩ := own_shape ha.own
          have HS6 : Hid (HolS w2 (.slice A6 (l.length + 1) c6) (l ++ [x]) w5) := Lib.hid ⟨by
            have := ha.own
            rw [← u64s_app] at this
            simpa using this, ha.below (HX.out.bel.trans ((bel1L wr _).mono HX.out.bel.size)) (by have := HX.out.bel.size; simp; omega) fun k hk => (HXo.out.lt k hk).1⟩
          have HK6 : Hid (Bk w5 B 45 #[.int .u64 (E : Int), .slice xA xN xC]) := Lib.hid (by
            have hb0 : Bk wr B 45 #[.int .u64 (E : Int), .slice xA xN xC] := HKx.out
            have hb1 := hb0.below (bel1L wr (.cells #[.int .u64 (x : Int)] 23)) hb0.lt
            exact hb1.grown ha.grow (fun e => own_not_bkE hb0 HXo.out (by decide) B e.symm rfl))
          clear ha HXo
          go_wp2
          go_roundg (gk - 1)
          case measure => omega
          case rel => exact ⟨x + 1, by go_num, ⟨A6, c6, by rw [HAdd.out]; simp⟩, by omega, by omega, by rw [HAdd.out]; exact HS6, HK6⟩
        · have hH : p.hol M (E + 1) = p.hol M x := by
            by_cases hxE : x < E
            · exact hol_full' (by have := HT.out; omega) (by omega) (by omega)
            · obtain rfl : x = E := by omega
              exact hol_kept (by have := HT.out; omega) HHE.out
          have HSN : Hid (HolS w2 (.slice Ax (p.hol M (E + 1)).length cx) (p.hol M (E + 1)) wr) := Lib.hid (by rw [hH]; exact HX.out)
          have hHl := Lib.hid (show (p.hol M x).length = (p.hol M (E + 1)).length by rw [hH])
          clear hH
          by_cases hxE : x < E
          · have m2 : (x : Int) < (E : Int) := by omega
            have m3 : ¬ ((p.hol M x).length : Int) < m := by have := HM.out; omega
            clear HX
            go_wp2
            go_roundg (gko - 1)
            case measure => omega
            case rel => exact ⟨i + 1, E + 1, by go_num, by go_num, ⟨Ax, cx, by rw [hHl.out]⟩, by omega, by omega, by omega, Lib.hid (.inr ⟨by omega, by simpa using (show i < L.length by rw [HL2.out]; exact hi), by have := HE.out (by rw [HL2.out]; exact hi); simpa using this⟩), by rw [hHl.out]; exact HSN⟩
          · have m2 : ¬ (x : Int) < (E : Int) := by omega
            clear HX
            go_wp2
            go_roundg (gko - 1)
            case measure => omega
            case rel => exact ⟨i + 1, E + 1, by go_num, by go_num, ⟨Ax, cx, by rw [hHl.out]⟩, by omega, by omega, by omega, Lib.hid (.inr ⟨by omega, by simpa using (show i < L.length by rw [HL2.out]; exact hi), by have := HE.out (by rw [HL2.out]; exact hi); simpa using this⟩), by rw [hHl.out]; exact HSN⟩
    · obtain rfl : i = n2 := by omega
      have m1 : ¬ (i : Int) < (i : Int) := by omega
      have hend : p.hol M sl = p.hol M p.top := HEnd.out sl (by
        have h1 := HL2.out
        rcases HI.out with ⟨h, h2⟩ | ⟨h, h2, h3⟩
        · exact .inl ⟨by omega, h2⟩
        · subst h1
          exact .inr ⟨h, h2, h3⟩)
      have Hend := Lib.hid hend
      clear hend
      go_wp2
      go_ret
      rw [← Hend.out]
      exact ⟨Ah, _, ch, rfl, own_mono HS.out.own HB2.out.size, rfl, below_then HB2.out HS.out.bel⟩
end Go.Proofs.Ytnomddhgcdoifaa
