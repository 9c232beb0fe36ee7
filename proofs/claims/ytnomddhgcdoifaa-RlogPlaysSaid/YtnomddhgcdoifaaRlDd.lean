/- Layer 12, the document's log: without, Trim, Install. -/
import Derived.Test.YtnomddhgcdoifaaRlDb
import Derived.Test.YtnomddhgcdoifaaRlE
namespace Go.Proofs.Ytnomddhgcdoifaa
open Go.RowKit

/-- Entries in the making: a row of the call's own. -/
def RowN (W w : World) (v : Value) (l : List Ene) : Prop := w.ownsRow W.heap.size 45 2 v l.length (enC l) ∧ Below W.heap.size W w
theorem RowN.alloc1 {W w : World} {v : Value} {l : List Ene} (h : RowN W w v l) (o : Obj) : RowN W (w.alloc o) v l := by
  have hb : Below w.heap.size w (w.alloc o) := (Below.refl _ _).alloc (Nat.le_refl _) o
  exact ⟨own_below h.1 hb fun k e => (h.1.lt k e).2, h.2.trans (hb.mono h.2.size)⟩
theorem RowN.alloc {W w : World} {v : Value} {l : List Ene} (h : RowN W w v l) (o : Obj) : RowN W ((w.drewN 1).alloc o) v l := by
  have hb : Below w.heap.size w ((w.drewN 1).alloc o) := ((Below.refl _ _).drew).alloc (Nat.le_refl _) o
  exact ⟨own_below h.1 hb fun k e => (h.1.lt k e).2, h.2.trans (hb.mono h.2.size)⟩
theorem RowN.push {W w1 w3 : World} {v v' : Value} {l : List Ene} {x : Ene} (h : RowN W w1 v l) (ha : App w1 w3 W.heap.size 45 2 v v' l.length 1 (enC l) (enE x)) : RowN W w3 v' (l ++ [x]) := by
  refine ⟨?_, ha.below h.2 h.2.size fun k e => (h.1.lt k e).1⟩
  have := ha.own
  rw [List.length_append, enC_app]
  simpa [enC] using this
section
variable {w w' w3 : World} {F G : Nat → Prop} {g n c : Nat} {p p2 : Rl} {A : Option Addr} {es es2 : List Ene} {v' : Value}
/-- The row turns: a new row, of entries that were there. -/
theorem RDL.turn (h : RDL w G g p A n c es) (hb : Below w.heap.size w w3) (ho : w3.ownsRow w.heap.size 45 2 v' es2.length (enC es2)) (hin : ∀ e ∈ es2, e ∈ es) (hal : Alike p2 (es2.map (·.1))) (hok : p2.Ok) (hap : p2.ap = p.ap) :
    w3.cell? ⟨g, 1, none⟩ = some (.slice A n c) ∧ w3.frozen? ⟨g, 1, none⟩ = false ∧
    Hid (∃ A' c' G', v' = .slice A' es2.length c' ∧ RDL (w3.setCell ⟨g, 1, none⟩ v') G' g p2 A' es2.length c' es2 ∧ Mv G G' w (w3.setCell ⟨g, 1, none⟩ v')) := by
  have h3 := h.below hb
  have hk4 : Kp (fun k => k = g) w3 (w3.setCell ⟨g, 1, none⟩ v') := Kp.set_ (F := fun k => k = g) (p := ⟨g, 1, none⟩) rfl _
  obtain ⟨A', c', rfl, _, _⟩ := own_shape ho
  have hk : Kp (fun k => k = g) w (w3.setCell ⟨g, 1, none⟩ (.slice A' es2.length c')) := (Kp.of_below hb).trans hk4
  have hgs := h.bk.lt
  refine ⟨h3.bk.cell 1, h3.bk.frozen 1, Lib.hid ⟨A', c', fun k => G k ∨ (Value.slice A' es2.length c').ownBlock = some k, rfl, ⟨by rw [hap]; exact h3.bk.set_ 1 _, ⟨own_mono (own_kp ho hk4 fun k e e2 => by have := (ho.lt k e).1; omega) (Nat.zero_le _), fun e he => ?_, fun k e => .inr e, fun e he k e2 => ?_⟩, hal, rfl, hok, .inl h.fg, ?_⟩, ⟨hk.mono fun k e => e ▸ h.fg, ?_⟩⟩⟩
  · exact own_kp (h.row.each e (hin e he)) hk (own_not_bkE h.bk (h.row.each e (hin e he)) (by decide))
  · exact .inl (h.row.bods e (hin e he) k e2)
  · rintro k (e | e)
    · exact Nat.lt_of_lt_of_le (h.lt k e) hk.size
    · have := (ho.lt k e).2
      simpa [World.setCell] using this
  · rintro k (e | e)
    · exact .inl e
    · exact .inr (ho.lt k e).1
def RDx (w : World) (G : Nat → Prop) (g : Nat) (p : Rl) : Prop := ∃ A n c es, RDL w G g p A n c es
def fAb (u : Nat) (es : List Ene) : List Ene := es.filter fun e => decide (u < e.1.slot)
theorem fAb_map (u : Nat) (es : List Ene) : (fAb u es).map (·.1) = (es.map (·.1)).filter fun e => decide (u < e.slot) := by
  unfold fAb
  rw [List.filter_map]
  rfl
theorem fAb_succ (u : Nat) (es : List Ene) (i : Nat) (hi : i < es.length) : fAb u (es.take (i + 1)) = if u < es[i].1.slot then fAb u (es.take i) ++ [es[i]] else fAb u (es.take i) := by
  unfold fAb
  rw [List.take_succ_eq_append_getElem hi, List.filter_append]
  by_cases h : u < es[i].1.slot
  · rw [if_pos h, List.filter_cons_of_pos (by simpa using h)]; rfl
  · rw [if_neg h, List.filter_cons_of_neg (by simpa using h)]; simp
theorem fAb_le (u : Nat) (es : List Ene) : (fAb u es).length ≤ es.length := List.length_filter_le _ _
set_option maxRecDepth 100000 in
set_option maxHeartbeats 4000000 in
theorem rwithout_any (h : RDL w G g p A n c es) (u : Nat) : Calls Try.prog 40 #[.pointer (some ⟨g, 0, none⟩), .int .u64 (u : Int)] w fun e w' => e = .returned (.int .i64 ((findE (u + 1) p.row : Nat) : Int)) ∧ Hid (∃ G', RDx w' G' g ⟨p.ap, aboveE u p.row⟩ ∧ Mv G G' w w') := by
  obtain ⟨iw, hiw, hzw, hsw, hbw⟩ := info_parts Try.infoEntry
  have hn := h.n_len
  have c1 := h.c1
  have f1 := h.bk.frozen 1
  have hal2 : Alike ⟨p.ap, aboveE u p.row⟩ ((fAb u es).map (·.1)) := by rw [fAb_map]; exact h.al.above h.ok u p.ap
  have HF : Hid (∀ v' w3, RowN w w3 v' (fAb u es) → w3.cell? ⟨g, 1, none⟩ = some (.slice A n c) ∧ w3.frozen? ⟨g, 1, none⟩ = false ∧
      Hid (∃ A' c' G', v' = .slice A' (fAb u es).length c' ∧ RDL (w3.setCell ⟨g, 1, none⟩ v') G' g ⟨p.ap, aboveE u p.row⟩ A' (fAb u es).length c' (fAb u es) ∧ Mv G G' w (w3.setCell ⟨g, 1, none⟩ v'))) := Lib.hid fun v' w3 hr =>
    h.turn hr.2 hr.1 (fun e he => (List.mem_filter.1 he).1) hal2 (h.ok.cutTo p.ap u h.ok.ap) rfl
  have HCnt : Hid ((fAb u es).length ≤ n ∧ n - (fAb u es).length = findE (u + 1) p.row) := Lib.hid (by
    have h1 := hal2.len
    rw [List.length_map] at h1
    have h2 : (aboveE u p.row).length = p.row.length - findE (u + 1) p.row := by unfold aboveE; rw [List.length_drop]
    have h3 := findE_le (u + 1) p.row
    have h4 := hn.1
    have h5 : (fAb u es).length = (aboveE u p.row).length := h1
    omega)
  obtain ⟨X, hX⟩ : ∃ X, X = findE (u + 1) p.row := ⟨_, rfl⟩
  rw [← hX] at HCnt ⊢
  have HH := Lib.hid h
  have Hl : Hid (n = es.length) := Lib.hid h.len
  have HC1 : Hid (∀ (a : Int) (x : Option Addr) (y z : Nat), ∀ u ∈ [Value.int .u64 a, .slice x y z], u.oneCell' = true) := Lib.hid fun a x y z => by
    intro u hu
    simp only [List.mem_cons, List.not_mem_nil, or_false] at hu
    rcases hu with rfl | rfl <;> rfl
  have Hiw := Lib.hid hiw
  have Hzw := Lib.hid hzw
  have Hsw := Lib.hid hsw
  have Hbw := Lib.hid hbw
  have hn4 := hn.2
  clear h hal2 hX hiw hzw hsw hbw hn
  go_enter Try.func40, Try.ntmps40
  go_wp2_with fail
  go_loopg [5, 6] n (fun gk v a wr => ∃ i : Nat, (∃ Ar cr, v = .slice Ar (fAb u (es.take i)).length cr) ∧ a = .int .i64 (i : Int) ∧ i + gk = n ∧ Hid (RowN w wr v (fAb u (es.take i))))
  case atStart => exact ⟨0, ⟨none, 0, rfl⟩, rfl, by omega, Lib.hid ⟨World.ownsRow_nil _ _ _ _, Below.refl _ _⟩⟩
  case round =>
    obtain ⟨i, ⟨Ar, cr, rfl⟩, rfl, hig, HR⟩ := hrel
    have d1 : wr.cell? ⟨g, 1, none⟩ = some (.slice A n c) := (HH.out.below HR.out.2).c1
    have f1r : wr.frozen? ⟨g, 1, none⟩ = false := (HH.out.below HR.out.2).bk.frozen 1
    obtain ⟨Ln, hLn⟩ : ∃ Ln, Ln = (fAb u (es.take i)).length := ⟨_, rfl⟩
    have hLi : Ln ≤ 4096 := by
      rw [hLn]
      have h1 := fAb_le u (es.take i)
      have h2 : (es.take i).length ≤ es.length := by rw [List.length_take]; omega
      have h3 := Hl.out
      omega
    rw [← hLn] at HR ⊢
    have HLn := Lib.hid hLn
    clear hLn
    by_cases hin : i < n
    · have hil : i < es.length := by rw [← Hl.out]; exact hin
      have m1 : (i : Int) < (n : Int) := by omega
      have m0 : ¬ (i : Int) < 0 := by omega
      have e5 : IntKind.i64.wrap ((i : Int) + 1) = ((i + 1 : Nat) : Int) := by rw [IntKind.wrap_i64]; omega
      obtain ⟨R, rfl, q0, q1⟩ := (HH.out.below HR.out.2).at_ i hin
      have hsu := fAb_succ u es i hil
      obtain ⟨x, hx⟩ : ∃ x, x = es[i] := ⟨_, rfl⟩
      rw [← hx] at q0 q1 hsu
      obtain ⟨⟨sl, vl⟩, ⟨xA, xN, xC⟩⟩ := x
      unfold s3W at q1
      dsimp only at q0 q1 hsu
      clear hx
      by_cases hgt : u < sl
      · have n1 : (u : Int) < (sl : Int) := by omega
        rw [if_pos hgt] at hsu
        have HSu := Lib.hid hsu
        have HRo : Hid (wr.ownsRow w.heap.size 45 2 (.slice Ar Ln cr) Ln (enC (fAb u (es.take i)))) := Lib.hid (by have := HR.out.1; rwa [← HLn.out] at this)
        clear hsu
        go_wp2_with (at_builtin; refine (?_ : _ ∧ True).1)
        refine ⟨?_, trivial⟩
        refine wpList_append_app _ rfl _ _ 29 rfl w.heap.size 45 iw _ 2 32 Try.underlying29 Hiw.out Hzw.out Hsw.out Hbw.out rfl (.slice Ar Ln cr) Ln (enC (fAb u (es.take i))) rfl (own_below HRo.out ((Below.refl _ _).alloc (Nat.le_refl _) _) fun k hk => (HRo.out.lt k hk).2) (some ⟨wr.heap.size, 0, none⟩) 1 1 [.int .u64 (sl : Int), .slice xA xN xC] rfl rfl (by intro e; cases e) (new_cells _ _ _ rfl) (HC1.out _ _ _ _) (by unfold maxLen; omega) (by omega) (by have := HR.out.2.size; simp; omega) ?_
        intro v' w5 happ
        obtain ⟨A6, c6, rfl, _⟩ := own_shape happ.own
        have HR3 : Hid (RowN w w5 (.slice A6 (Ln + 1) c6) (fAb u (es.take (i + 1))) ∧ (fAb u (es.take (i + 1))).length = Ln + 1) := Lib.hid (by
          have h6 : (fAb u (es.take (i + 1))).length = Ln + 1 := by rw [HSu.out, List.length_append, ← HLn.out]; rfl
          refine ⟨?_, h6⟩
          rw [HSu.out]
          exact RowN.push (x := (⟨sl, vl⟩, (xA, xN, xC))) (HR.out.alloc1 _) (by rw [← HLn.out]; exact happ))
        clear happ HR HRo
        go_wp2
        go_roundg (gk - 1)
        case measure => omega
        case rel => exact ⟨i + 1, ⟨A6, c6, by rw [HR3.out.2]⟩, by go_num, by omega, Lib.hid HR3.out.1⟩
      · have n1 : ¬ (u : Int) < (sl : Int) := by omega
        rw [if_neg hgt] at hsu
        have HR3 : Hid (RowN w wr (.slice Ar Ln cr) (fAb u (es.take (i + 1))) ∧ (fAb u (es.take (i + 1))).length = Ln) := Lib.hid (by rw [hsu]; exact ⟨HR.out, HLn.out.symm⟩)
        clear hsu HR
        go_wp2
        go_roundg (gk - 1)
        case measure => omega
        case rel => exact ⟨i + 1, ⟨Ar, cr, by rw [HR3.out.2]⟩, by go_num, by omega, Lib.hid HR3.out.1⟩
    · obtain rfl : i = n := by omega
      have m1 : ¬ (i : Int) < (i : Int) := by omega
      have HR3 : Hid (RowN w wr (.slice Ar Ln cr) (fAb u es) ∧ (fAb u es).length = Ln) := Lib.hid (by
        have h1 : es.take i = es := List.take_of_length_le (by have := Hl.out; omega)
        have h2 := HR.out
        have h3 := HLn.out
        rw [h1] at h2 h3
        exact ⟨h2, h3.symm⟩)
      obtain ⟨k1, k2, HE⟩ := HF.out _ _ HR3.out.1
      have e7 : IntKind.i64.wrap ((i : Int) - (Ln : Int)) = (X : Int) := by
        have h1 := HCnt.out
        rw [HR3.out.2] at h1
        rw [IntKind.wrap_i64]; omega
      have HFin : Hid (∃ G', RDx (wr.setCell ⟨g, 1, none⟩ (.slice Ar Ln cr)) G' g ⟨p.ap, aboveE u p.row⟩ ∧ Mv G G' w (wr.setCell ⟨g, 1, none⟩ (.slice Ar Ln cr))) := Lib.hid (by
        obtain ⟨A', c', G', _, hd, hm⟩ := HE.out
        exact ⟨G', ⟨_, _, _, _, hd⟩, hm⟩)
      clear HR HR3 HE
      go_wp2
      go_ret
      exact ⟨rfl, HFin⟩
set_option maxRecDepth 100000 in
theorem rtrim_any (h : RDL w G g p A n c es) (u : Nat) : Calls Try.prog 26 #[.pointer (some ⟨g, 0, none⟩), .int .u64 (u : Int)] w fun e w' => e = .returned (.int .i64 ((p.trim u).1 : Int)) ∧ Hid (∃ G', RDx w' G' g (p.trim u).2 ∧ Mv G G' w w') := by
  have HW := Lib.hid (rwithout_any h (min u p.ap))
  have c0 := h.c0
  unfold Rl.trim
  dsimp only
  by_cases hu : p.ap < u
  · have m1 : (p.ap : Int) < (u : Int) := by omega
    rw [show min u p.ap = p.ap by omega] at HW ⊢
    clear h
    go_enter Try.func26, Try.ntmps26
    go_wp2_with fail
    refine HW.out.mono ?_
    rintro e w' ⟨rfl, H⟩
    go_wp2
    go_ret
    exact ⟨rfl, H⟩
  · have m1 : ¬ (p.ap : Int) < (u : Int) := by omega
    rw [show min u p.ap = u by omega] at HW ⊢
    clear h
    go_enter Try.func26, Try.ntmps26
    go_wp2_with fail
    refine HW.out.mono ?_
    rintro e w' ⟨rfl, H⟩
    go_wp2
    go_ret
    exact ⟨rfl, H⟩
end
end Go.Proofs.Ytnomddhgcdoifaa
