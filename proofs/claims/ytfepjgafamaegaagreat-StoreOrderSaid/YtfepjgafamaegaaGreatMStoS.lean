/- Of the proofs of layer 4, merged: StoS, StoA, StoO, StoG, StoDo, StoK. -/
import Derived.Test.YtfepjgafamaegaaGreatMPWal6
import Derived.Lib.Strings
import Derived.Lib.Walk
import Derived.Lib.BufferWrite
import Derived.Lib.UnsafeStr
import Derived.Laws.MakeOwn
import Derived.Test.YtfepjgafamaegaaGreatMBackP
import Derived.Test.YtfepjgafamaegaaGreatMFoot
import Derived.Maps.OwnOps
import Derived.Test.YtfepjgafamaegaaGreatMRWal5

/- strings.Clone gives the same text. -/
namespace Go.Proofs.YtfepjgafamaegaaGreat
open Go.RowKit

theorem Tryz.cellsU8 : Tryz.prog.cellsOf 5 = 1 := by kernel_rfl
theorem Tryz.sizedU8 : (Tryz.prog.info? 5).map (·.size) = some 1 := by kernel_rfl
set_option maxRecDepth 100000 in
set_option maxHeartbeats 2000000 in
theorem sclone_lite (l : List UInt8) (w : World) (hl : l.length ≤ 1000000) : Calls Tryz.prog 131 #[sV l] w fun e w' => e = .returned (sV l) ∧ Below w.heap.size w w' := by
  cases l with
  | nil =>
    go_enter Tryz.func131, Tryz.ntmps131
    go_wp2
    go_ret
    exact ⟨rfl, Below.refl _ _⟩
  | cons c r =>
    generalize hL : c :: r = l at *
    have hne : l ≠ [] := by rw [← hL]; simp
    have hpos : 0 < l.length := List.length_pos_iff.2 hne
    have hsz : (⟨l.toArray⟩ : ByteArray).size = l.length := by simp [ByteArray.size]
    clear hL
    obtain ⟨i0, hi, hz0, hz1, hz2⟩ := info_parts Tryz.infoU8
    obtain ⟨M, hM⟩ : ∃ M, M = madeCells (Value.int .u8 0).cells (((l.length : Nat) : Int).toNat * i0.size) := ⟨_, rfl⟩
    have hMs : M.size = l.length := by rw [hM, size_madeCells, hz1]; simp
    have hmk : ∀ W : World, (Instr.makeSlice 23 (.int .i64 (l.length : Int)) (.int .i64 (l.length : Int))).run Tryz.prog W = .ok (.slice (some ⟨W.heap.size, 0, none⟩) l.length l.length) (W.alloc (.cells M 5)) := fun W => by
      have h := run_make (P := Tryz.prog) W 23 5 i0 (.int .u8 0) Tryz.underlying23 hi hz0 .i64 .i64 (l.length : Int) (l.length : Int) (by omega) (by omega) (by rw [hz2]; omega) (by omega)
      rw [← hM] at h
      simpa using h
    clear hM
    have hB : Bk (w.alloc (.cells M 5)) w.heap.size 5 M := Bk.new _ _ _
    have hcp := Lib.run_copy_row_string (P := Tryz.prog) (w.alloc (.cells M 5)) 23 9 3 5 w.heap.size 0 l.length l.length ⟨l.toArray⟩ M 5 Tryz.underlying23 Tryz.sizedU8 hB (by rw [hsz]; exact Nat.le_refl _) (by omega)
    obtain ⟨Y, hY⟩ : ∃ Y, Y = (M.toList.take 0 ++ Lib.byteCells (⟨l.toArray⟩ : ByteArray).data.toList ++ M.toList.drop (0 + (⟨l.toArray⟩ : ByteArray).size)).toArray := ⟨_, rfl⟩
    rw [← hY, hsz] at hcp
    have hYl : Y.toList = Lib.byteCells l := by
      rw [hY, List.toList_toArray, List.take_zero, List.nil_append, List.drop_of_length_le (by rw [Array.length_toList, hsz]; omega), List.append_nil]
    have hYs : Y.size = l.length := by rw [← Array.length_toList, hYl, Lib.byteCells_length]
    have hgY : ((w.alloc (.cells M 5)).setRow w.heap.size Y).heap[w.heap.size]? = some (.cells Y 5 (0, 0)) := setRow_heap _ _ M _ 5 (0, 0) hB
    have hUS := Lib.run_unsafeString_row (P := Tryz.prog) ((w.alloc (.cells M 5)).setRow w.heap.size Y) 218 3 9 5 Tryz.underlying218 Tryz.cellsU8 w.heap.size Y.size (by unfold World.shape?; rw [hgY]) l hne (by omega) (by omega)
      (fun j x hx => Lib.cells_of_row hgY Y.size j _ (by rw [List.take_of_length_le (by rw [Array.length_toList]; exact Nat.le_refl _), hYl]; simp [Lib.byteCells, hx]))
    have hb1 : Below w.heap.size w (w.alloc (.cells M 5)) := (Below.refl _ w).alloc (Nat.le_refl _) _
    have hb2 : Below w.heap.size (w.alloc (.cells M 5)) ((w.alloc (.cells M 5)).setRow w.heap.size Y) := ⟨rfl, rfl, rfl, by simp, fun k hk => setRow_other _ _ _ _ (by omega)⟩
    have HB := Lib.hid (fun z => Lib.below_freeze (hb1.trans hb2) (p := ⟨w.heap.size, 0, none⟩) (Nat.le_refl _) z)
    have hp' : ¬ ((l.length : Int) = 0) := by omega
    have hp2 : (0 : Int) < (l.length : Int) := by omega
    clear hY hb1 hb2 hne
    go_enter Tryz.func131, Tryz.ntmps131
    go_wp2
    go_ret
    exact ⟨rfl, HB.out _⟩
set_option maxRecDepth 100000 in
set_option maxHeartbeats 1000000 in
theorem sclone_any (l : List UInt8) (w : World) (hl : l.length ≤ 1000000) : Calls Tryz.prog 99 #[sV l] w fun e w' => e = .returned (sV l) ∧ Below w.heap.size w w' := by
  have HC := Lib.hid (sclone_lite l w hl)
  go_enter Tryz.func99, Tryz.ntmps99
  go_wp2_with fail
  refine HC.out.mono ?_
  rintro x w' ⟨rfl, hb⟩
  have Hb := Lib.hid hb
  clear hb HC
  go_wp2
  go_ret
  exact ⟨rfl, Hb.out⟩
end Go.Proofs.YtfepjgafamaegaaGreat

/- The program's store, its map: apply. -/
namespace Go.Proofs.YtfepjgafamaegaaGreat
open Go.RowKit Go.Maps

/-- Block b is a map of these pairs. -/
def OwnM (w : World) (b N : Nat) (L : List Pr) : Prop := w.ownsMap Tryz.prog 9 pairR b N (mapD L)
theorem OwnM.lt {w : World} {b N : Nat} {L : List Pr} (h : OwnM w b N L) : b < w.heap.size := World.ownsMap.lt h
theorem OwnM.kept {w w' : World} {b N : Nat} {L : List Pr} {row : Option Nat} (h : OwnM w b N L) (hg : w.grownBy w' row) (hne : some b ≠ row) : OwnM w' b N L := World.ownsMap.kept h hg hne
theorem OwnM.below {w w' : World} {b N B : Nat} {L : List Pr} (h : OwnM w b N L) (hb : Below B w w') (hB : b < B) : OwnM w' b N L := by
  obtain ⟨es, clock, h1, h2⟩ := h
  exact ⟨es, clock, (hb.block b hB).trans h1, h2⟩
theorem OwnM.tight {w : World} {b N : Nat} {L : List Pr} (h : OwnM w b N L) : OwnM w b L.length L := by
  obtain ⟨es, clock, h1, h2, h3, h4⟩ := h
  refine ⟨es, clock, h1, h2, ?_, h4⟩
  have h5 : L.length = Maps.size (mapD L) := (mapD_size L).symm
  rw [h5, h4]
  simp [Maps.size, length_sorted]
theorem OwnM.kp {w w' : World} {b N : Nat} {L : List Pr} {F : Nat → Prop} (h : OwnM w b N L) (hk : Kp F w w') (hf : ¬ F b) : OwnM w' b N L := by
  have hlt := h.lt
  obtain ⟨es, clock, h1, h2⟩ := h
  exact ⟨es, clock, (hk.block b hlt hf).trans h1, h2⟩
theorem OwnM.no_cell {w : World} {b N i : Nat} {L : List Pr} (h : OwnM w b N L) {v : Value} : w.cell? ⟨b, i, none⟩ ≠ some v := by
  obtain ⟨es, clock, h1, _⟩ := h
  simp [World.cell?, h1]
theorem strKeyed : Keyed Tryz.prog 9 := string_keyed Tryz.underlying9
theorem strKey (l : List UInt8) (h : l.length ≤ maxLen) : keyOf Tryz.prog 9 (sV l) = some (.string l) := WideMaps.keyOf_string_mk Tryz.underlying9 (s := ⟨l.toArray⟩) (by simpa [ByteArray.size] using h)
theorem step_delete {P : Program} (w : World) {ops : Array Oper} {o : Oper} {a : Act} {K : Act → World → Prop} {Q : Exit → Act → World → Prop} {E : Prop} (hgd : o.guard = none) (m x : Operand) (t k : TypeId)
    (ho : o.op = .call { callee := .builtin .delete, args := #[m, x], argTypes := #[t, k] }) (e : TypeId) (KK : Keyed P k) (ht : P.underlying t = some (.map k e)) (R : Value → Option (DataW Unit × List MemPlace)) (b n : Nat) (D : DataW Unit)
    (hm : a.eval m = .map (some b)) (hown : w.ownsMap P k R b n D) (key : Value) (kl : Lit) (hx : a.eval x = key) (hkey : keyOf P k key = some kl)
    (h : ∀ w', w'.ownsMap P k R b n (D.del kl) → w.mapTurned w' b → K (a.put o.dst (.tuple #[])) w') :
    if Region.wanted o (yielded ops a.tmps) = true then Oper.wp P o a w K Q else E := by
  have hw : Region.wanted o (yielded ops a.tmps) = true := by simp [Region.wanted, hgd]
  rw [if_pos hw]
  obtain ⟨w', hrun, r1, r2⟩ := hown.drop KK ht hkey o.type
  unfold Oper.wp
  simp [execOp, ho, resolve, invoke, builtin, hm, hx, hrun, Result.andThen]
  exact h w' r1 r2

set_option maxRecDepth 100000 in
set_option maxHeartbeats 4000000 in
theorem apply_any (g bm N n c : Nat) (lg : Value) (A : Option Addr) (L : List Pr) (l : List Chg) (w : World) (hn : n ≤ 1000000) (hok : l.all okC = true) (hN : N ≤ 1000000000) (hs : Bk w g 111 #[lg, .map (some bm)]) (hm : OwnM w bm N L) (h : ChRd w w.heap.size A n l) :
    Calls Tryz.prog 67 #[.pointer (some ⟨g, 0, none⟩), .slice A n c] w fun e w' => e = .returned (.tuple #[]) ∧ OwnM w' bm (N + n) (layL L l) ∧ w.grownBy w' (some bm) := by
  have Hl := Lib.hid h.1
  have HP := Lib.hid h
  have hgb : g ≠ bm := fun e => by
    subst e
    have := hs.cell 0
    exact hm.no_cell this
  have HG : Hid (∀ W, w.grownBy W (some bm) → W.cell? ⟨g, 1, none⟩ = some (.map (some bm))) := Lib.hid fun W hg => (hs.grown hg (by intro e; injection e with e; exact hgb e)).cell 1
  have hmt := Tryz.underlying109
  have Hok := Lib.hid hok
  have Hm := Lib.hid hm
  have hblt := hm.lt
  clear h hs hm hok
  go_enter Tryz.func67, Tryz.ntmps67
  go_wp2
  go_loopg [9] n (fun g i wr => ∃ k : Nat, i = .int .i64 k ∧ k + g = n ∧ Hid (OwnM wr bm (N + k) (layL L (l.take k))) ∧ Hid (w.grownBy wr (some bm)))
  case atStart => exact ⟨0, rfl, by omega, by simpa [layL] using Hm, Lib.hid (World.grownBy.refl _ _)⟩
  case round =>
    obtain ⟨k, rfl, hk, HM, HW⟩ := hrel
    by_cases hkn : k < n
    · have hkl : k < l.length := by rw [Hl.out]; exact hkn
      have HCc : Hid (∀ W, w.grownBy W (some bm) → ∃ b o, A = some ⟨b, o, none⟩ ∧ W.cell? ⟨b, o + k * 3, none⟩ = some (sV l[k].key) ∧ W.cell? ⟨b, o + k * 3 + 1, none⟩ = some (sV l[k].val) ∧ W.cell? ⟨b, o + k * 3 + 2, none⟩ = some (.bool l[k].gone)) := by
        refine Lib.hid fun W hg => ?_
        obtain ⟨b, o, he, _, h1, h2, h3⟩ := HP.out.2 k hkl
        have hne : some b ≠ some bm := fun e => by injection e with e; subst e; exact Hm.out.no_cell h1
        exact ⟨b, o, he, hg.cell h1 hne, hg.cell h2 hne, hg.cell h3 hne⟩
      obtain ⟨b, o, rfl, c0, c1, c2⟩ := HCc.out wr HW.out
      have hok : okC l[k] = true := List.all_eq_true.1 Hok.out _ (List.getElem_mem _)
      have hL1 : layL L (l.take (k + 1)) = layC (layL L (l.take k)) l[k] := by rw [List.take_succ_eq_append_getElem hkl, layL_app]; rfl
      rw [okC_cases] at hok
      have hkv : l[k].key.length ≤ 16 ∧ l[k].val.length ≤ 128 := by
        by_cases h1 : l[k].key.length < 1
        · simp [h1] at hok
        · by_cases h2 : 16 < l[k].key.length
          · simp [h1, h2] at hok
          · by_cases h3 : 128 < l[k].val.length
            · simp [h1, h2, h3] at hok
            · omega
      generalize l[k] = ch at *
      obtain ⟨ck, cv, cg⟩ := ch
      obtain ⟨hk16, hv128⟩ := hkv
      have hk16 : ck.length ≤ 16 := hk16
      have hv128 : cv.length ≤ 128 := hv128
      have HL1 := Lib.hid hL1
      have hkey := strKey ck (by unfold maxLen; omega)
      have Hkey := Lib.hid hkey
      clear hL1 hok hkl hkey
      generalize hLk : layL L (l.take k) = Lk at *
      have Hg5 := Lib.hid (grown_trans HW.out (World.grownBy_alloc wr (.cells #[sV ck, sV cv, .bool cg] 88) (some bm)))
      have Hm5 := Lib.hid (HM.out.below ((Below.refl wr.heap.size wr).alloc (Nat.le_refl _) (.cells #[sV ck, sV cv, .bool cg] 88)) HM.out.lt)
      have Hb5 := Lib.hid (Bk.new wr 88 #[sV ck, sV cv, .bool cg])
      have hbw : bm < wr.heap.size := HM.out.lt
      cases cg with
      | true =>
        go_upto_region 4 with (fail)
        generalize wr.alloc (.cells #[sV ck, sV cv, .bool true] 88) = W5 at *
        have k0 : W5.cell? ⟨wr.heap.size, 0, none⟩ = some (sV ck) := Hb5.out.cell 0
        have k1 := HG.out W5 Hg5.out
        go_cut [9] (fun s w' => s = .int .i64 k ∧ OwnM w' bm (N + k) (delP ck Lk) ∧ W5.grownBy w' (some bm))
        case first =>
          go_region_law ((refine step_delete _ rfl _ _ 109 9 (by rfl) 86 strKeyed hmt pairR bm (N + k) (mapD Lk) (by rfl) Hm5.out (sV ck) (.string ck) (by rfl) Hkey.out ?_); intro w6 hm6 ht6)
          all_goals
            rw [mapD_del] at hm6
            have hg6' := ht6.grown
            have hg6 : W5.grownBy w6 (some bm) := ⟨hg6'.os, hg6'.tape, hg6'.output, hg6'.size, hg6'.block⟩
            go_wp2_with fail
            go_meet
            exact ⟨rfl, hm6, hg6⟩
        case rest =>
          obtain ⟨rfl, hm6, hg6⟩ := hcut
          have HM6 := Lib.hid hm6
          have HG6 := Lib.hid (grown_trans Hg5.out hg6)
          clear hm6 hg6
          go_wp2
          go_roundg (gk - 1)
          case measure => omega
          case rel => exact ⟨k + 1, by go_num, by omega, by rw [HL1.out]; exact Lib.hid (World.ownsMap.mono HM6.out (by omega)), HG6⟩
      | false =>
        have HKc : Hid (∀ W, Calls Tryz.prog 99 #[sV ck] W fun e w' => e = .returned (sV ck) ∧ Below W.heap.size W w') := Lib.hid fun W => sclone_any ck W (by omega)
        have HVc : Hid (∀ W, Calls Tryz.prog 99 #[sV cv] W fun e w' => e = .returned (sV cv) ∧ Below W.heap.size W w') := Lib.hid fun W => sclone_any cv W (by omega)
        have hs5 : Hid ((wr.alloc (.cells #[sV ck, sV cv, .bool false] 88)).heap.size = wr.heap.size + 1) := Lib.hid (by simp)
        go_upto_region 5 with (fail)
        generalize wr.alloc (.cells #[sV ck, sV cv, .bool false] 88) = W5 at *
        have HK : Hid (∀ W, Below W5.heap.size W5 W → W.cell? ⟨wr.heap.size, 0, none⟩ = some (sV ck) ∧ W.cell? ⟨wr.heap.size, 1, none⟩ = some (sV cv) ∧ Below W5.heap.size W5 W) := Lib.hid fun W hb => ⟨(Hb5.out.below hb Hb5.out.lt).cell 0, (Hb5.out.below hb Hb5.out.lt).cell 1, hb⟩
        go_cut [6] (fun s w' => ∃ W g6, W = w' ∧ s = .pointer (some ⟨g6, 0, none⟩) ∧ Bk w' g6 86 #[sV ck, sV cv] ∧ W5.heap.size ≤ g6 ∧ Below W5.heap.size W5 w')
        case first =>
          go_region_held3 (fun w' => w'.cell? ⟨wr.heap.size, 0, none⟩ = some (sV ck) ∧ w'.cell? ⟨wr.heap.size, 1, none⟩ = some (sV cv) ∧ Below W5.heap.size W5 w') (first | (refine HK.out _ ?_; (repeat' (first | assumption | exact Below.refl _ _ | exact Nat.le_refl _ | apply Below.drew | (refine Below.alloc ?_ ?_ _) | (refine Below.setCell ?_ ?_ _) | (simp; done) | (exact hd7.size) | (exact hd6.size) | (have := hd7.size; simp; omega) | (have := hd6.size; simp; omega) | (simp; omega))); done) | go_keep)
            (first
              | (go_at_call 99; refine (HKc.out _).mono ?_; rintro x w6 ⟨rfl, hb6⟩; have hd6 : Below W5.heap.size W5 w6 := below_then (by (repeat' (first | assumption | exact Below.refl _ _ | exact Nat.le_refl _ | apply Below.drew | (refine Below.alloc ?_ ?_ _) | (refine Below.setCell ?_ ?_ _) | (simp; done) | (simp; omega)))) hb6; have hk6 := HK.out w6 hd6; have hz6 := hb6.size; (first | (have hq6 : Bk w6 W5.heap.size 86 #[.string ⟨#[]⟩, .string ⟨#[]⟩] := (Bk.new W5.drew _ _).below hb6 (Bk.new W5.drew _ _).lt; have n0 : w6.cell? ⟨W5.heap.size, 0, none⟩ = some (.string ⟨#[]⟩) := hq6.cell 0; have n1 : w6.cell? ⟨W5.heap.size, 1, none⟩ = some (.string ⟨#[]⟩) := hq6.cell 1; have m0 := hq6.frozen 0; have m1 := hq6.frozen 1) | skip))
              | (go_at_call 99; refine (HVc.out _).mono ?_; rintro x w7 ⟨rfl, hb7⟩; have hd7 : Below W5.heap.size W5 w7 := below_then (by (repeat' (first | assumption | exact Below.refl _ _ | exact Nat.le_refl _ | apply Below.drew | (refine Below.alloc ?_ ?_ _) | (refine Below.setCell ?_ ?_ _) | (simp; done) | (exact hd6.size) | (have := hd6.size; simp; omega) | (simp; omega)))) hb7; have hk7 := HK.out w7 hd7; have hz7 := hb7.size; (first | (have hq7 : Bk w7 W5.heap.size 86 #[.string ⟨#[]⟩, .string ⟨#[]⟩] := hq6.below hb7 hq6.lt; have n0 : w7.cell? ⟨W5.heap.size, 0, none⟩ = some (.string ⟨#[]⟩) := hq7.cell 0; have n1 : w7.cell? ⟨W5.heap.size, 1, none⟩ = some (.string ⟨#[]⟩) := hq7.cell 1; have m0 := hq7.frozen 0; have m1 := hq7.frozen 1) | (have hq7 : Bk w7 w6.heap.size 86 #[.string ⟨#[]⟩, .string ⟨#[]⟩] := (Bk.new w6 _ _).below hb7 (Bk.new w6 _ _).lt; have n0 : w7.cell? ⟨w6.heap.size, 0, none⟩ = some (.string ⟨#[]⟩) := hq7.cell 0; have n1 : w7.cell? ⟨w6.heap.size, 1, none⟩ = some (.string ⟨#[]⟩) := hq7.cell 1; have m0 := hq7.frozen 0; have m1 := hq7.frozen 1) | skip)))
          all_goals
            go_wp2_with fail
            go_meet
            first
            | exact ⟨_, _, rfl, rfl, Bk.new _ _ _, hd7.size, hd7.alloc hd7.size _⟩
            | exact ⟨_, w6.heap.size, rfl, rfl, (hq7.set_ 0 (sV ck)).set_ 1 (sV cv), hd6.size, (hd7.setCell (p := ⟨w6.heap.size, 0, none⟩) hd6.size _).setCell (p := ⟨w6.heap.size, 1, none⟩) hd6.size _⟩
            | exact ⟨_, W5.heap.size, rfl, rfl, (hq7.set_ 0 (sV ck)).set_ 1 (sV cv), Nat.le_refl _, (hd7.setCell (p := ⟨W5.heap.size, 0, none⟩) (Nat.le_refl _) _).setCell (p := ⟨W5.heap.size, 1, none⟩) (Nat.le_refl _) _⟩
        case rest =>
          obtain ⟨W8, g6, rfl, rfl, hb6, hg6, hd8⟩ := hcut
          have Hg8 := Lib.hid (grown_trans Hg5.out (grown_of_below hd8 (some bm)))
          have hm8 := Hm5.out.below hd8 Hm5.out.lt
          have k1 := HG.out W8 Hg8.out
          have q0 : W8.cell? ⟨g6, 0, none⟩ = some (sV ck) := hb6.cell 0
          have q1 : W8.cell? ⟨g6, 1, none⟩ = some (sV cv) := hb6.cell 1
          obtain ⟨w9, hrun, hm9, ht9⟩ := World.ownsMap.store (w := W8.drew) (val := .agg #[sV ck, sV cv]) hm8 strKeyed hmt (by unfold maxLen; omega) Hkey.out (pairR_mk ck cv)
          have Hm9 : Hid (OwnM w9 bm (N + (k + 1)) (putP ck cv Lk)) := Lib.hid (by rw [mapD_put] at hm9; exact World.ownsMap.mono hm9 (by omega))
          have hg9 := ht9.grown
          have Hg9 : Hid (w.grownBy w9 (some bm)) := Lib.hid (grown_trans Hg8.out ⟨hg9.os, hg9.tape, hg9.output, hg9.size, hg9.block⟩)
          clear hm9 ht9 hm8 hg9 hd8
          go_upto_region 6 with (fail)
          go_region_law (fail)
          all_goals
            clear hrun k1 q0 q1
            go_wp2
            go_roundg (gk - 1)
            case measure => omega
            case rel => exact ⟨k + 1, by go_num, by omega, by rw [HL1.out]; exact Hm9, Hg9⟩
    · have hkN : k = n := by omega
      subst hkN
      have htk : l.take k = l := List.take_of_length_le (by rw [Hl.out]; omega)
      rw [htk] at HM
      clear htk
      go_wp2
      go_end0
      exact ⟨rfl, HM.out, HW.out⟩
end Go.Proofs.YtfepjgafamaegaaGreat

/- The program's store: Open. -/
namespace Go.Proofs.YtfepjgafamaegaaGreat
open Go.RowKit

theorem told_rows {w : World} {base n c : Nat} {A : Option Addr} {vals : List Value} {L : List (List UInt8)} (hn : n = L.length) (h : w.ownsRow base 23 1 (.slice A n c) n vals) (hf : Fam w base vals L) : Parts w w.heap.size A n L := by
  refine ⟨hn.symm, fun i hi => ?_⟩
  have hl := hf.len
  have hiv : i < vals.length := by omega
  have ho := hf.each i _ (List.getElem?_eq_getElem hiv)
  have eg : L.getD i [] = L[i] := by simp [List.getD, hi]
  rw [eg] at ho
  rcases h.2 with ⟨h0, hz⟩ | ⟨g, cap, cur, hv, _, hh, _⟩
  · have := h.1; omega
  · have hA : A = some ⟨g, 0, none⟩ := by injection hv
    subst hA
    have hc := h.cells (g := g) rfl i _ (List.getElem?_eq_getElem hiv)
    rw [Addr.add_lit] at hc
    generalize vals[i] = x at *
    obtain ⟨A2, c2, rfl, q1, q2⟩ := own_shape ho
    exact ⟨g, 0, A2, _, c2, rfl, (Array.getElem?_eq_some_iff.1 hh).1, hc, q1, by unfold maxLen at q2; omega, Rd.of_own ho⟩
theorem Rd.off_map {w w' : World} {B n b N : Nat} {A : Option Addr} {l : List UInt8} {L : List Pr} (h : Rd w B A n l) (hm : OwnM w b N L) (hg : w.grownBy w' (some b)) : Rd w' B A n l := by
  refine ⟨h.1, fun hn => ?_⟩
  obtain ⟨g, o, e, hb, hc⟩ := h.2 hn
  exact ⟨g, o, e, hb, fun j hj => hg.cell (hc j hj) fun e => by injection e with e; subst e; exact hm.no_cell (hc j hj)⟩
theorem Parts.off_map {w w' : World} {B n b N : Nat} {A : Option Addr} {ls : List (List UInt8)} {L : List Pr} (h : Parts w B A n ls) (hm : OwnM w b N L) (hg : w.grownBy w' (some b)) : Parts w' B A n ls :=
  ⟨h.1, fun i hi => by
    obtain ⟨g, o, A', n', c', e, hlt, h1, h2, h3, h4⟩ := h.2 i hi
    exact ⟨g, o, A', n', c', e, hlt, hg.cell h1 fun e => by injection e with e; subst e; exact hm.no_cell h1, h2, h3, h4.off_map hm hg⟩⟩

/-! ### plain: what a store has of a log -/
def replS (L : List Pr) (recs : List (List UInt8)) : List Pr := recs.foldl (fun L b => layL L (decodeS b).1) L
def allDec (recs : List (List UInt8)) : Bool := recs.all fun b => decide ((decodeS b).2 = 0)
def openS (d : Dk) : Int × Option (Lg × List Pr) × Dk :=
  match d.openL.2.1 with
  | none => (d.openL.1, none, d.openL.2.2)
  | some s => if allDec s.recs = true then (0, some (s, replS [] s.recs), d.openL.2.2) else (50, none, d.openL.2.2)

/-- The program's store at block g over the disk at gd: the log s, the pairs m. -/
def PSt (w : World) (H : Nat → Prop) (g gd : Nat) (d : Dk) (s : Lg) (m : List Pr) : Prop :=
  ∃ H0 lg bm, Bk w g 111 #[.pointer (some ⟨lg, 0, none⟩), .map (some bm)] ∧ PB w H0 lg gd d s ∧ OwnM w bm m.length m ∧ ¬ H0 g ∧ ¬ H0 bm ∧ (∀ k, H0 k → H k) ∧ H g ∧ H bm ∧ ∀ k, H k → k < w.heap.size
theorem PSt.kp {w w' : World} {H K : Nat → Prop} {g gd : Nat} {d : Dk} {s : Lg} {m : List Pr} (h : PSt w H g gd d s m) (hk : Kp K w w') (hd : ∀ k, H k → ¬ K k) : PSt w' H g gd d s m := by
  obtain ⟨H0, lg, bm, h1, h2, h3, h4, h5, h6, h7, h8, h9⟩ := h
  exact ⟨H0, lg, bm, h1.kp hk (hd _ h7), h2.kp hk fun k e => hd k (h6 k e), h3.kp hk (hd _ h8), h4, h5, h6, h7, h8, fun k e => Nat.lt_of_lt_of_le (h9 k e) hk.size⟩
theorem PSt.below {w w' : World} {H : Nat → Prop} {g gd : Nat} {d : Dk} {s : Lg} {m : List Pr} (h : PSt w H g gd d s m) (hb : Below w.heap.size w w') : PSt w' H g gd d s m := h.kp (K := fun _ => False) (Kp.of_below hb) fun _ _ h => h
def OpenedS (w : World) (F : Nat → Prop) (gd : Nat) (d : Dk) (e : Ending) (w' : World) : Prop :=
  (∃ F', PD w' F' gd (openS d).2.2 ∧ Mv F F' w w' ∧ (openS d).2.1 = none ∧ e = .returned (.tuple #[.pointer none, .int .i64 (openS d).1])) ∨
  (∃ s m g H, (openS d).2.1 = some (s, m) ∧ e = .returned (.tuple #[.pointer (some ⟨g, 0, none⟩), .int .i64 (openS d).1]) ∧ PSt w' H g gd (openS d).2.2 s m ∧ Mv F H w w')

theorem allDec_take {recs : List (List UInt8)} {k : Nat} (hk : k < recs.length) : allDec (recs.take (k + 1)) = (allDec (recs.take k) && decide ((decodeS recs[k]).2 = 0)) := by
  rw [List.take_succ_eq_append_getElem hk]
  unfold allDec
  rw [List.all_append]
  simp
theorem replS_take {L : List Pr} {recs : List (List UInt8)} {k : Nat} (hk : k < recs.length) : replS L (recs.take (k + 1)) = layL (replS L (recs.take k)) (decodeS recs[k]).1 := by
  rw [List.take_succ_eq_append_getElem hk]
  unfold replS
  rw [List.foldl_append]
  rfl
theorem layC_len (L : List Pr) (c : Chg) : (layC L c).length ≤ L.length + 1 := by
  have h1 : ∀ k, (delP k L).length ≤ L.length := fun k => List.length_filter_le _ _
  have h2 : ∀ (x : Pr) (l : List Pr), (insP x l).length = l.length + 1 := by
    intro x l
    induction l with
    | nil => rfl
    | cons y r ih => unfold insP; split <;> simp [ih]
  unfold layC
  split
  · have := h1 c.key; omega
  · unfold putP; rw [h2]; have := h1 c.key; omega
theorem layL_len (b : List Chg) : ∀ L : List Pr, (layL L b).length ≤ L.length + b.length := by
  induction b with
  | nil => intro L; exact Nat.le_refl _
  | cons c r ih => intro L; have := ih (layC L c); have h2 := layC_len L c; simp only [List.length_cons]; show (layL (layC L c) r).length ≤ _; omega
theorem decode_len (b : List UInt8) : (decodeS b).1.length ≤ 32 := by
  rcases decode_cases b with ⟨l, h1, h2⟩ | h1
  · rw [h1]
    have := (encodeS_ok h2).1
    unfold rightL at this
    simp only [Bool.and_eq_true, decide_eq_true_eq] at this
    exact this.1
  · rw [h1]; simp
theorem decode_ok (b : List UInt8) : (decodeS b).1.all okC = true := by
  rcases decode_cases b with ⟨l, h1, h2⟩ | h1
  · rw [h1]
    have := (encodeS_ok h2).1
    unfold rightL at this
    simp only [Bool.and_eq_true] at this
    exact this.2
  · rw [h1]; rfl
theorem replS_len (recs : List (List UInt8)) : ∀ L : List Pr, (replS L recs).length ≤ L.length + 32 * recs.length := by
  induction recs with
  | nil => intro L; exact Nat.le_refl _
  | cons b r ih =>
    intro L
    have h1 := ih (layL L (decodeS b).1)
    have h2 := layL_len (decodeS b).1 L
    have h3 := decode_len b
    simp only [List.length_cons]
    show (replS (layL L (decodeS b).1) r).length ≤ _
    omega
theorem Srt.repl {recs : List (List UInt8)} : ∀ {L : List Pr}, Srt L → Srt (replS L recs) := by
  induction recs with
  | nil => intro L h; exact h
  | cons b r ih => intro L h; exact ih h.layL

theorem sopenL_len (d : Dk) : d.openL.2.2.safe.length = d.safe.length := by
  have hwl : ∀ (b c : List UInt8) (base k i : Nat) (z : Bool) (d : Dk), (wipeS b c base i k z d).2.2.safe.length = d.safe.length := by
    intro b c base k
    induction k with
    | zero => intro i z d; rfl
    | succ k ih =>
      intro i z d
      unfold wipeS
      split
      · exact ih _ _ _
      split
      · rw [ih, Dk.write_len]
      · exact Dk.write_len _ _ _
  have h2 : d.wiped.2.2.safe.length = d.safe.length := hwl _ _ _ _ _ _ _
  unfold Dk.openL
  split
  · rfl
  split
  · rfl
  split
  · exact h2
  split
  · exact h2
  split
  · exact (Dk.sync_len _).trans h2
  · exact (Dk.sync_len _).trans h2

set_option maxRecDepth 100000 in
set_option maxHeartbeats 4000000 in
theorem sopen_any (gd : Nat) (d : Dk) (F : Nat → Prop) (w : World) (hwl : d.waits.length ≤ 800000000) (h : PD w F gd d) :
    Calls Tryz.prog 42 #[.pointer (some ⟨gd, 0, none⟩)] w (OpenedS w F gd d) := by
  have HO := Lib.hid (open_any gd d F w (by omega) h)
  unfold Opened at HO
  have HFlt := Lib.hid h.lt
  cases ho : d.openL.2.1 with
  | none =>
    have HE : Hid (openS d = (d.openL.1, none, d.openL.2.2)) := by show _ = _; unfold openS; rw [ho]
    have hne : d.openL.1 ≠ 0 := by
      intro h0
      rw [openL_after] at ho h0
      split at ho
      · rename_i h1; rw [if_pos h1] at h0; cases h0
      · rename_i h1
        rw [if_neg h1] at h0
        split at ho
        · rename_i h2; rw [if_pos h2] at h0; cases h0
        · rename_i h2
          rw [if_neg h2] at h0
          split at ho
          · simp at ho
          · rename_i h3; rw [if_neg h3] at h0; exact h3 h0
    rw [ho] at HO
    generalize d.openL = o at *
    obtain ⟨o1, o2, o3⟩ := o
    have hne' : (o1 != 0) = true := by simpa using hne
    clear h ho hne
    go_enter Tryz.func42, Tryz.ntmps42
    go_wp2_with fail
    refine HO.out.mono ?_
    rintro x w' ⟨F', hp, hmv, ⟨-, rfl⟩ | ⟨s, g, G, hs, _⟩⟩
    · have Hp := Lib.hid hp
      have Hmv := Lib.hid hmv
      clear hp hmv HO
      go_wp2
      go_ret2
      unfold OpenedS
      rw [HE.out]
      exact .inl ⟨F', Hp.out, Hmv.out, rfl, rfl⟩
    · cases hs
  | some s =>
    have hz : d.openL.1 = 0 := by
      rw [openL_after] at ho ⊢
      split at ho
      · simp at ho
      · rename_i h1
        rw [if_neg h1]
        split at ho
        · simp at ho
        · rename_i h2
          rw [if_neg h2]
          split at ho
          · rename_i h3; rw [if_pos h3]
          · simp at ho
    have hsl : s.gone = false := by
      rw [openL_after] at ho
      split at ho
      · simp at ho
      · split at ho
        · simp at ho
        · split at ho
          · simp only [Option.some.injEq] at ho; subst ho; rfl
          · simp at ho
    have HE : Hid (openS d = if allDec s.recs = true then (0, some (s, replS [] s.recs), d.openL.2.2) else (50, none, d.openL.2.2)) := by show _ = _; unfold openS; rw [ho]
    rw [ho] at HO
    have hby : d.openL.2.2.bytes = d.bytes := bytes_of (sopenL_len d)
    have hmm := @run_makeMap Tryz.prog
    generalize d.openL = o at *
    obtain ⟨o1, o2, o3⟩ := o
    have hz : o1 = 0 := hz
    subst hz
    have HE : Hid (openS d = if allDec s.recs = true then (0, some (s, replS [] s.recs), o3) else (50, none, o3)) := HE
    have hby : o3.bytes = d.bytes := hby
    clear h ho
    go_enter Tryz.func42, Tryz.ntmps42
    go_wp2_with fail
    refine HO.out.mono ?_
    rintro x w1 ⟨F', hp, hmv, ⟨h0, _⟩ | ⟨s', lg, G, hs, rfl, hl, hG1, hG2⟩⟩
    · cases h0
    obtain rfl : s = s' := Option.some.inj hs
    clear hs HO
    have hok := hl.ok
    have HSm := Lib.hid hok.small
    have hcnt := usedF_count s.recs
    have hbs : d.bytes ≤ 40000 := by rw [← hby]; have := hp.len; unfold Dk.bytes Dk.half halfN; omega
    have hn : s.recs.length ≤ 4000 := by have := hok.fits; omega
    clear hcnt hbs
    have hpb : PB w1 (fun k => F' k ∨ G k) lg gd o3 s := ⟨F', G, hp, by rw [hby]; exact hl, fun k h1 h2 => hG2 k h2 h1, fun k e => .inl e, fun k e => .inr e, fun k e => e.elim (hp.lt k) (hl.lt k)⟩
    have hW3 : Below w1.heap.size w1 ((w1.alloc (.map #[] 0)).alloc (.cells #[.pointer (some ⟨lg, 0, none⟩), .map (some w1.heap.size)] 111)) := ((Below.refl _ _).alloc (Nat.le_refl _) _).alloc (by simp) _
    have hom : OwnM ((w1.alloc (.map #[] 0)).alloc (.cells #[.pointer (some ⟨lg, 0, none⟩), .map (some w1.heap.size)] 111)) w1.heap.size 0 [] := World.ownsMap.alloc (World.ownsMap_made w1 _ _ _) _
    have hbk : Bk ((w1.alloc (.map #[] 0)).alloc (.cells #[.pointer (some ⟨lg, 0, none⟩), .map (some w1.heap.size)] 111)) (w1.heap.size + 1) 111 #[.pointer (some ⟨lg, 0, none⟩), .map (some w1.heap.size)] := Bk.new_at (by simp)
    have HP := Lib.hid hp
    have Hmv := Lib.hid hmv
    have HPB := Lib.hid hpb
    have HW3 := Lib.hid hW3
    have HOM := Lib.hid hom
    have HBK := Lib.hid hbk
    have HG1 := Lib.hid hG1
    have HGlt := Lib.hid hl.lt
    clear hp hmv hpb hW3 hom hbk hG1 hG2 hl hok
    go_upto_region 5 with (fail)
    generalize (w1.alloc (.map #[] 0)).alloc (.cells #[.pointer (some ⟨lg, 0, none⟩), .map (some w1.heap.size)] 111) = W3 at *
    have HRec := Lib.hid (records_any lg gd o3 s _ W3 (HPB.out.below HW3.out))
    have htl : s.tellL = s.recs := by unfold Lg.tellL; rw [hsl]; rfl
    unfold ToldL at HRec
    rw [htl] at HRec
    clear htl
    go_wp2_with fail
    refine HRec.out.mono ?_
    clear HRec
    rintro x W4 ⟨A, c, vals, rfl, hrow, hfam, hb4⟩
    have HPt := Lib.hid (told_rows rfl hrow hfam)
    have HB4 := Lib.hid hb4
    have HM4 := Lib.hid (HOM.out.below hb4 HOM.out.lt)
    have HK4 := Lib.hid (HBK.out.below hb4 HBK.out.lt)
    clear hrow hfam hb4 HOM HBK
    obtain ⟨n, hnn⟩ : ∃ n, s.recs.length = n := ⟨_, rfl⟩
    rw [hnn] at hn HPt ⊢
    have Hnn := Lib.hid hnn
    clear hnn
    have hgm : w1.heap.size + 1 ≠ w1.heap.size := by omega
    go_wp2
    go_loopg [26] n (fun g i wr => ∃ k : Nat, i = .int .i64 k ∧ k + g = n ∧ Hid (allDec (s.recs.take k) = true) ∧ Hid (OwnM wr w1.heap.size (32 * k) (replS [] (s.recs.take k))) ∧ Hid (W4.grownBy wr (some w1.heap.size)))
    case atStart => exact ⟨0, rfl, by omega, Lib.hid rfl, by simpa [replS] using HM4, Lib.hid (World.grownBy.refl _ _)⟩
    case round =>
      obtain ⟨k, rfl, hk, HA, HM, HW⟩ := hrel
      by_cases hkn : k < n
      · have hkl : k < s.recs.length := by rw [Hnn.out]; exact hkn
        obtain ⟨b, o, A', n', c', rfl, hlt, c0, hn', hc', hrd⟩ := (HPt.out.off_map HM4.out HW.out).2 k hkl
        have hsm : s.recs[k].length ≤ 1024 := HSm.out _ (List.getElem_mem _)
        have hrl := hrd.1
        have HD := Lib.hid (decode_any A' n' c' s.recs[k] wr (by omega) (hrd.more HW.out.size))
        have hA1 := allDec_take hkl
        have hR1 := replS_take (L := []) hkl
        have hdl := decode_len s.recs[k]
        have hdo := decode_ok s.recs[k]
        have HNo : Hid ((decodeS s.recs[k]).2 ≠ 0 → openS d = ((decodeS s.recs[k]).2, none, o3)) := by
          refine Lib.hid fun hne => ?_
          have h50 : (decodeS s.recs[k]).2 = 50 := by
            rcases decode_cases s.recs[k] with ⟨l, h1, _⟩ | h1
            · rw [h1] at hne; exact absurd rfl hne
            · rw [h1]
          rw [HE.out, h50, if_neg]
          intro hall
          have : decide ((decodeS s.recs[k]).2 = 0) = true := List.all_eq_true.1 hall _ (List.getElem_mem _)
          exact hne (of_decide_eq_true this)
        rw [HA.out, Bool.true_and] at hA1
        generalize s.recs[k] = r at *
        generalize decodeS r = dr at *
        obtain ⟨dl, de⟩ := dr
        have hA1 : allDec (s.recs.take (k + 1)) = decide (de = 0) := hA1
        have HR1 : Hid (replS [] (s.recs.take (k + 1)) = layL (replS [] (s.recs.take k)) dl) := Lib.hid hR1
        have HA1 := Lib.hid hA1
        have hdl : dl.length ≤ 32 := hdl
        have HDo : Hid (dl.all okC = true) := Lib.hid hdo
        have HNo : Hid (de ≠ 0 → openS d = (de, none, o3)) := HNo
        clear hA1 hR1 hdo hrd hsm hkl
        by_cases hde : de = 0
        · subst hde
          go_wp2_with fail
          refine HD.out.mono ?_
          clear HD
          rintro x w5 ⟨v, rfl, hch, hb5⟩
          obtain ⟨A2, c2, rfl, hc2⟩ := own_shape hch
          have hrd2 := hch.rd
          have HK5 := (HK4.out.grown HW.out (by intro e; injection e with e; exact hgm e)).below hb5 (by have := HW.out.size; have := HK4.out.lt; omega)
          have HAp := Lib.hid (apply_any (w1.heap.size + 1) w1.heap.size (32 * k) dl.length c2 (.pointer (some ⟨lg, 0, none⟩)) A2 _ dl w5 (by omega) HDo.out (by omega) HK5 (HM.out.below hb5 HM.out.lt) hrd2)
          have HW5 := Lib.hid (grown_trans HW.out (grown_of_below hb5 (some w1.heap.size)))
          clear hch hb5 hrd2 HK5
          go_wp2_with fail
          refine HAp.out.mono ?_
          clear HAp
          rintro x w6 ⟨rfl, hm6, hg6⟩
          have HM6 := Lib.hid hm6
          have HW6 := Lib.hid (grown_trans HW5.out hg6)
          clear hm6 hg6
          go_wp2
          go_roundg (gk - 1)
          case measure => omega
          case rel => exact ⟨k + 1, by go_num, by omega, by rw [HA1.out]; exact Lib.hid rfl, by rw [HR1.out]; exact Lib.hid (World.ownsMap.mono HM6.out (by omega)), HW6⟩
        · have hde' : (de != 0) = true := by simpa using hde
          have HEE := Lib.hid (HNo.out hde)
          go_wp2_with fail
          refine HD.out.mono ?_
          clear HD
          rintro x w5 ⟨v, rfl, hch, hb5⟩
          have HW5 := Lib.hid (grown_trans HW.out (grown_of_below hb5 (some w1.heap.size)))
          clear hch hb5
          go_wp2
          go_ret2
          unfold OpenedS
          rw [HEE.out]
          have hkp : Kp (fun k => k = w1.heap.size) w1 _ := (Kp.of_below (below_then HW3.out HB4.out)).trans (Kp.of_grown HW5.out rfl)
          exact .inl ⟨F', HP.out.kp hkp (fun k hk e => by have := HP.out.lt k hk; omega), ⟨Hmv.out.kp.trans' hkp (fun i hi => .inr (by have := Hmv.out.kp.size; omega)), Hmv.out.new⟩, rfl, rfl⟩
      · have hkn' : k = n := by omega
        subst hkn'
        have htk : s.recs.take k = s.recs := List.take_of_length_le (by rw [Hnn.out]; omega)
        rw [htk] at HA HM
        have HEE : Hid (openS d = (0, some (s, replS [] s.recs), o3)) := by show _ = _; rw [HE.out, if_pos HA.out]
        clear htk
        go_wp2
        go_ret2
        unfold OpenedS
        rw [HEE.out]
        have hkp : Kp (fun k => k = w1.heap.size) w1 wr := (Kp.of_below (below_then HW3.out HB4.out)).trans (Kp.of_grown HW.out rfl)
        have hltm := HM.out.lt
        have hkw := (HK4.out.grown HW.out (by intro e; injection e with e; exact hgm e))
        have hHlt : ∀ k, (F' k ∨ G k) → k < w1.heap.size := fun k e => e.elim (HP.out.lt k) (HGlt.out k)
        refine .inr ⟨s, _, w1.heap.size + 1, fun k => (F' k ∨ G k) ∨ k = w1.heap.size ∨ k = w1.heap.size + 1, rfl, rfl, ⟨_, lg, w1.heap.size, hkw, HPB.out.kp hkp (fun k hk e => by have := hHlt k hk; omega), HM.out.tight,
          fun e => by have := hHlt _ e; omega, fun e => by have := hHlt _ e; omega, fun k e => .inl e, .inr (.inr rfl), .inr (.inl rfl), fun k e => ?_⟩, ⟨Hmv.out.kp.trans' hkp (fun i hi => .inr (by have := Hmv.out.kp.size; omega)), fun k e => ?_⟩⟩
        · rcases e with e | e | e
          · have := hHlt k e; have := hkp.size; omega
          · omega
          · have := hkw.lt; omega
        · have hz := Hmv.out.kp.size
          rcases e with (e | e) | e | e
          · exact Hmv.out.new k e
          · exact .inr (HG1.out k e)
          · exact .inr (by omega)
          · exact .inr (by omega)
end Go.Proofs.YtfepjgafamaegaaGreat

/- The program's store: ready, note, Get, Len, Waiting; Do where the log has room. -/
namespace Go.Proofs.YtfepjgafamaegaaGreat
open Go.RowKit Go.Maps

set_option maxRecDepth 100000 in
set_option maxHeartbeats 400000 in
theorem sready_nil (w : World) : Calls Tryz.prog 64 #[.pointer none] w fun e w' => e = .returned (.int .i64 1) ∧ w = w' := by
  go_enter Tryz.func64, Tryz.ntmps64
  go_wp2
  go_ret
  exact ⟨rfl, rfl⟩
set_option maxRecDepth 100000 in
set_option maxHeartbeats 400000 in
theorem sready_dead (g : Nat) (w : World) (c0 : w.cell? ⟨g, 0, none⟩ = some (.pointer none)) : Calls Tryz.prog 64 #[.pointer (some ⟨g, 0, none⟩)] w fun e w' => e = .returned (.int .i64 6) ∧ w = w' := by
  go_enter Tryz.func64, Tryz.ntmps64
  go_wp2
  go_ret
  exact ⟨rfl, rfl⟩
set_option maxRecDepth 100000 in
set_option maxHeartbeats 400000 in
theorem sready_live (g : Nat) (a : Addr) (w : World) (c0 : w.cell? ⟨g, 0, none⟩ = some (.pointer (some a))) : Calls Tryz.prog 64 #[.pointer (some ⟨g, 0, none⟩)] w fun e w' => e = .returned (.int .i64 0) ∧ w = w' := by
  go_enter Tryz.func64, Tryz.ntmps64
  go_wp2
  go_ret
  exact ⟨rfl, rfl⟩
set_option maxRecDepth 100000 in
set_option maxHeartbeats 400000 in
theorem snote_ok (v : Value) (r : Int) (w : World) (h : r ≠ 6) : Calls Tryz.prog 66 #[v, .int .i64 r] w fun e w' => e = .returned (.int .i64 r) ∧ w = w' := by
  have h' : (r == 6) = false := by simpa using h
  go_enter Tryz.func66, Tryz.ntmps66
  go_wp2
  go_ret
  exact ⟨rfl, rfl⟩
set_option maxRecDepth 100000 in
set_option maxHeartbeats 400000 in
theorem snote_dead (g : Nat) (x y : Value) (w : World) (h : Bk w g 111 #[x, y]) : Calls Tryz.prog 66 #[.pointer (some ⟨g, 0, none⟩), .int .i64 6] w fun e w' => e = .returned (.int .i64 6) ∧ Bk w' g 111 #[.pointer none, .map none] ∧ w.grownBy w' (some g) := by
  have c0 : w.cell? ⟨g, 0, none⟩ = some x := h.cell 0
  have c1 : w.cell? ⟨g, 1, none⟩ = some y := h.cell 1
  have f0 := h.frozen 0
  have f1 := h.frozen 1
  have HF : Hid (Bk ((w.setCell ⟨g, 0, none⟩ (.pointer none)).setCell ⟨g, 1, none⟩ (.map none)) g 111 #[.pointer none, .map none]) := Lib.hid ((h.set_ 0 _).set_ 1 _)
  have HG := Lib.hid (grown_trans (grown_set w g 0 (.pointer none)) (grown_set _ g 1 (.map none)))
  clear h
  go_enter Tryz.func66, Tryz.ntmps66
  go_wp2
  go_ret
  exact ⟨rfl, HF.out, HG.out⟩

theorem Tryz.zeroPair (w : World) : (zeroValue 86).run Tryz.prog w = .ok (.agg #[.string ⟨#[]⟩, .string ⟨#[]⟩]) w := by kernel_rfl
/-- What Get tells of a key. -/
def getV (L : List Pr) (k : List UInt8) : List UInt8 := (getP L k).getD []
theorem find_key {L : List Pr} {k : List UInt8} : ((L.find? fun p => p.1 == k).getD ([], [])).2 = getV L k := by
  unfold getV getP
  cases L.find? (fun p => p.1 == k) <;> rfl

set_option maxRecDepth 100000 in
set_option maxHeartbeats 1000000 in
theorem sget_any (g bm N : Nat) (lg : Value) (L : List Pr) (k : List UInt8) (w : World) (hk : k.length ≤ maxLen) (hs : Bk w g 111 #[lg, .map (some bm)]) (hm : OwnM w bm N L) :
    Calls Tryz.prog 28 #[.pointer (some ⟨g, 0, none⟩), sV k] w fun e w' => e = .returned (.tuple #[sV (getV L k), .bool (getP L k).isSome]) ∧ Below w.heap.size w w' := by
  have c1 : w.cell? ⟨g, 1, none⟩ = some (.map (some bm)) := hs.cell 1
  obtain ⟨v, ps, hrun, hv⟩ := World.ownsMap.look_ok (t := 109) hm strKeyed Tryz.underlying109 (Tryz.zeroPair w) (zd := pairD ([], [])) (zp := []) rfl (strKey k hk)
  rw [mapD_at] at hv
  have hve := pairR_inv hv
  rw [mapD_has] at hrun
  subst hve
  have hf := find_key (L := L) (k := k)
  generalize (L.find? fun p => p.1 == k).getD ([], []) = p at *
  obtain ⟨p1, p2⟩ := p
  have hf : p2 = getV L k := hf
  subst hf
  generalize (getP L k).isSome = b at *
  generalize getV L k = gv at *
  have hrun : (Instr.lookup 109 (.map (some bm)) (sV k) true).run Tryz.prog w = .ok (.tuple #[.agg #[sV p1, sV gv], .bool b]) w := hrun
  clear hs hm hv
  go_enter Tryz.func28, Tryz.ntmps28
  go_wp2
  go_ret2
  exact ⟨rfl, (Below.refl _ _).alloc (Nat.le_refl _) _⟩
set_option maxRecDepth 100000 in
set_option maxHeartbeats 400000 in
theorem sget_nil (k : List UInt8) (w : World) : Calls Tryz.prog 28 #[.pointer none, sV k] w fun e w' => e = .returned (.tuple #[sV [], .bool false]) ∧ w = w' := by
  go_enter Tryz.func28, Tryz.ntmps28
  go_wp2
  go_ret2
  exact ⟨rfl, rfl⟩
set_option maxRecDepth 100000 in
set_option maxHeartbeats 400000 in
theorem slen_nil (w : World) : Calls Tryz.prog 25 #[.pointer none] w fun e w' => e = .returned (.int .i64 0) ∧ w = w' := by
  go_enter Tryz.func25, Tryz.ntmps25
  go_wp2
  go_ret
  exact ⟨rfl, rfl⟩
set_option maxRecDepth 100000 in
set_option maxHeartbeats 400000 in
theorem swaiting_nil (w : World) : Calls Tryz.prog 27 #[.pointer none] w fun e w' => e = .returned (.int .i64 0) ∧ w = w' := by
  go_enter Tryz.func27, Tryz.ntmps27
  go_wp2
  go_ret
  exact ⟨rfl, rfl⟩
set_option maxRecDepth 100000 in
set_option maxHeartbeats 1000000 in
theorem slen_any (g bm N : Nat) (lg : Value) (L : List Pr) (w : World) (hs : Bk w g 111 #[lg, .map (some bm)]) (hm : OwnM w bm N L) :
    Calls Tryz.prog 25 #[.pointer (some ⟨g, 0, none⟩)] w fun e w' => e = .returned (.int .i64 (L.length : Nat)) ∧ w = w' := by
  have c1 : w.cell? ⟨g, 1, none⟩ = some (.map (some bm)) := hs.cell 1
  have hsz := mapD_size L
  go_enter Tryz.func25, Tryz.ntmps25
  go_wp2_with (refine wpList_len_own _ rfl _ 109 rfl 9 86 Tryz.underlying109 pairR bm N (mapD L) rfl hm ?_)
  go_ret
  exact ⟨rfl, rfl⟩
set_option maxRecDepth 100000 in
set_option maxHeartbeats 1000000 in
theorem swaiting_any (g lg gd : Nat) (d : Dk) (s : Lg) (H : Nat → Prop) (y : Value) (w : World) (hg : s.gone = false) (hs : Bk w g 111 #[.pointer (some ⟨lg, 0, none⟩), y]) (h : PB w H lg gd d s) :
    Calls Tryz.prog 27 #[.pointer (some ⟨g, 0, none⟩)] w fun e w' => e = .returned (.int .i64 ((s.recs.length : Int) - (s.safe : Int))) ∧ Below w.heap.size w w' := by
  have c0 : w.cell? ⟨g, 0, none⟩ = some (.pointer (some ⟨lg, 0, none⟩)) := hs.cell 0
  have htl : s.tellL = s.recs := by unfold Lg.tellL; rw [hg]; rfl
  have htn : s.tellN = s.safe := by unfold Lg.tellN; rw [hg]; rfl
  have HR : Hid (∀ W, Below w.heap.size w W → Calls Tryz.prog 62 #[.pointer (some ⟨lg, 0, none⟩)] W fun e w' => ∃ A c, e = .returned (.slice A s.recs.length c) ∧ Below W.heap.size W w') := by
    refine Lib.hid fun W hb => (records_any lg gd d s H W (h.below hb)).mono ?_
    unfold ToldL
    rw [htl]
    rintro e w' ⟨A, c, vals, rfl, _, _, hb2⟩
    exact ⟨A, c, rfl, hb2⟩
  have HS : Hid (∀ W, Below w.heap.size w W → Calls Tryz.prog 63 #[.pointer (some ⟨lg, 0, none⟩)] W fun e w' => e = .returned (.int .i64 (s.safe : Nat)) ∧ W = w') := by
    refine Lib.hid fun W hb => ?_
    have := safe_any lg gd d s H W (h.below hb)
    rwa [htn] at this
  have hok := h
  obtain ⟨F, G, hp, hw, _⟩ := hok
  have h1 := hw.ok.safe
  have h2 := usedF_count s.recs
  have h3 := hw.ok.fits
  have hbs : d.bytes ≤ 40000 := by have := hp.len; unfold Dk.bytes Dk.half halfN; omega
  have hn : s.recs.length ≤ 4000 := by omega
  have hwr : IntKind.i64.wrap ((s.recs.length : Int) - (s.safe : Int)) = (s.recs.length : Int) - (s.safe : Int) := by rw [IntKind.wrap_i64]; omega
  have HC0 : Hid (∀ W, Below w.heap.size w W → W.cell? ⟨g, 0, none⟩ = some (.pointer (some ⟨lg, 0, none⟩)) ∧ Below w.heap.size w W) := Lib.hid fun W hb => ⟨(hs.below hb hs.lt).cell 0, hb⟩
  clear hp hw h hs h1 h2 h3 hbs htl htn
  generalize s.recs.length = n at *
  generalize s.safe = z at *
  go_enter Tryz.func27, Tryz.ntmps27
  go_upto_region 3 with (fail)
  go_region_held3 (fun w' => w'.cell? ⟨g, 0, none⟩ = some (.pointer (some ⟨lg, 0, none⟩)) ∧ Below w.heap.size w w') (first | (refine HC0.out _ ?_; (repeat' (first | assumption | exact Below.refl _ _ | exact Nat.le_refl _ | apply Below.drew)); done) | go_keep)
    (first
      | (go_at_call 62; refine (HR.out _ (by (repeat' (first | assumption | exact Below.refl _ _ | apply Below.drew)))).mono ?_; rintro x w3 ⟨A, c, rfl, hb3⟩; have hd3 : Below w.heap.size w w3 := below_then (by (repeat' (first | assumption | exact Below.refl _ _ | apply Below.drew))) hb3; have hk3 := HC0.out w3 hd3)
      | (go_at_call 63; refine (HS.out _ (by (repeat' (first | assumption | exact Below.refl _ _ | apply Below.drew)))).mono ?_; rintro x w4 ⟨rfl, rfl⟩))
  all_goals
    go_wp2
    go_ret
    exact ⟨rfl, hd3⟩
end Go.Proofs.YtfepjgafamaegaaGreat

/- The program's Do where the log takes the batch at once. -/
namespace Go.Proofs.YtfepjgafamaegaaGreat
open Go.RowKit Go.Maps

/-- A store that a call has brought on. -/
def ActedS (w : World) (H : Nat → Prop) (g gd : Nat) (r : Int) (d : Dk) (s : Lg) (m : List Pr) (e : Ending) (w' : World) : Prop := e = .returned (.int .i64 r) ∧ ∃ H', PSt w' H' g gd d s m ∧ Mv H H' w w'

set_option maxRecDepth 100000 in
set_option maxHeartbeats 4000000 in
theorem sdo_ok (g gd : Nat) (d d' : Dk) (s s' : Lg) (m : List Pr) (H : Nat → Prop) (A : Option Addr) (n c : Nat) (l : List Chg) (b : List UInt8) (w : World) (hwl : d.waits.length ≤ 800000000) (h6 : 6 ≤ d.safe.length) (hm : m.length ≤ 1000000)
    (hc : n ≤ c) (hcm : c ≤ 9223372036854775807) (hls : ∀ W, Kp H w W → ChRd W W.heap.size A n l) (he : encodeS l = (b, 0)) (ha : s.append d b = (0, s', d')) (h : PSt w H g gd d s m) :
    Calls Tryz.prog 32 #[.pointer (some ⟨g, 0, none⟩), .slice A n c] w (ActedS w H g gd 0 d' s' (layL m l)) := by
  have hl := hls w (Kp.refl _ _)
  have HLS := Lib.hid hls
  obtain ⟨H0, lg, bm, hbk, hpb, hom, hg0, hb0, hH0, hHg, hHb, hHlt⟩ := h
  have c0 : w.cell? ⟨g, 0, none⟩ = some (.pointer (some ⟨lg, 0, none⟩)) := hbk.cell 0
  have HRd := Lib.hid (sready_live g ⟨lg, 0, none⟩ w c0)
  have HEn := encode_any A n c l w hc hcm hl
  rw [he] at HEn
  have HEn := Lib.hid HEn
  have hok := (encodeS_ok he).1
  unfold rightL at hok
  simp only [Bool.and_eq_true, decide_eq_true_eq] at hok
  have hln := hl.1
  have hgb : g ≠ bm := fun e => by subst e; exact hom.no_cell c0
  have HL := Lib.hid hl
  have HBK := Lib.hid hbk
  have HPB := Lib.hid hpb
  have HOM := Lib.hid hom
  have Hok := Lib.hid hok
  have Hln := Lib.hid hln
  have hbl : b.length ≤ 1024 := by have := encodeS_len l; rw [he] at this; exact this
  clear hbk hpb hom hl hls hok hln he
  go_enter Tryz.func32, Tryz.ntmps32
  go_wp2_with fail
  refine HRd.out.mono ?_
  clear HRd
  rintro x w1 ⟨rfl, rfl⟩
  go_wp2_with fail
  refine HEn.out.mono ?_
  clear HEn
  rintro x w2 ⟨v, rfl, ho, hb2⟩
  obtain ⟨A2, c2, rfl, hc2⟩ := own_shape ho
  have k0 : w2.cell? ⟨g, 0, none⟩ = some (.pointer (some ⟨lg, 0, none⟩)) := (HBK.out.below hb2 HBK.out.lt).cell 0
  have HAp := append_any lg gd d s H0 A2 b.length c2 b w2 hwl h6 hc2.1 (by have := hc2.2; unfold maxLen at this; omega) (Rd.of_own ho) (HPB.out.below hb2)
  rw [ha] at HAp
  unfold Acted at HAp
  have HAp := Lib.hid HAp
  have HB2 := Lib.hid hb2
  clear ho hb2
  go_wp2_with fail
  refine HAp.out.mono ?_
  clear HAp
  rintro x w3 ⟨rfl, H1, hpb3, hmv3⟩
  have hk3 : Kp H0 w w3 := (Kp.of_below HB2.out).trans hmv3.kp
  have hH1 : ∀ k, H1 k → H0 k ∨ w.heap.size ≤ k := fun k e => (hmv3.new k e).imp id (fun h => by have := HB2.out.size; omega)
  have hbk3 := HBK.out.kp hk3 hg0
  have hom3 := HOM.out.kp hk3 hb0
  have hl3 : ChRd w3 w3.heap.size A n l := HLS.out w3 (hk3.mono hH0)
  have HAy := Lib.hid (apply_any g bm m.length n c (.pointer (some ⟨lg, 0, none⟩)) A m l w3 (by have := Hok.out.1; have := Hln.out; omega) Hok.out.2 (by omega) hbk3 hom3 hl3)
  have Hk3 := Lib.hid hk3
  have HH1 := Lib.hid hH1
  have HPB3 := Lib.hid hpb3
  have HBK3 := Lib.hid hbk3
  clear hk3 hH1 hbk3 hom3 hl3 hpb3 hmv3
  go_wp2_with fail
  refine HAy.out.mono ?_
  clear HAy
  rintro x w4 ⟨rfl, hom4, hg4⟩
  have HOM4 := Lib.hid hom4
  have HG4 := Lib.hid hg4
  clear hom4 hg4
  go_wp2
  go_ret
  have hkb : Kp (fun k => k = bm) w3 w4 := Kp.of_grown HG4.out rfl
  have h1lt : ∀ k, H1 k → k < w3.heap.size := by obtain ⟨_, _, _, _, _, _, _, h⟩ := HPB3.out; exact h
  have hz3 := Hk3.out.size
  have hblt := HOM.out.lt
  have hglt := HBK.out.lt
  refine ⟨rfl, fun k => H k ∨ H1 k, ⟨H1, lg, bm, HBK3.out.kp hkb (fun e => hgb e), HPB3.out.kp hkb (fun k hk e => ?_), HOM4.out.tight, fun e => ?_, fun e => ?_, fun k e => .inr e, .inl hHg, .inl hHb, fun k e => ?_⟩, ⟨?_, fun k e => ?_⟩⟩
  · subst e; exact (HH1.out _ hk).elim hb0 (fun e => by omega)
  · exact (HH1.out _ e).elim hg0 (fun e => by omega)
  · exact (HH1.out _ e).elim hb0 (fun e => by omega)
  · have hz4 := hkb.size
    rcases e with e | e
    · have := hHlt k e; omega
    · have := h1lt k e; omega
  · exact (Hk3.out.mono hH0).trans (hkb.mono fun k e => by rw [e]; exact hHb)
  · rcases e with e | e
    · exact .inl e
    · exact (HH1.out k e).imp (hH0 k) id
end Go.Proofs.YtfepjgafamaegaaGreat

/- Layer 5's laws: known, what the chapter's examples fix. -/
namespace Go.Proofs.YtfepjgafamaegaaGreat
open Go.RowKit

/-- A disk, or a store on it, of the call's own, made since W. -/
def ND (W w : World) (F : Nat → Prop) (g : Nat) (d : Dk) : Prop := PD w F g d ∧ (∀ k, F k → W.heap.size ≤ k) ∧ Below W.heap.size W w
def NS (W w : World) (H : Nat → Prop) (g gd : Nat) (d : Dk) (s : Lg) (m : List Pr) : Prop := PSt w H g gd d s m ∧ (∀ k, H k → W.heap.size ≤ k) ∧ Below W.heap.size W w
section
variable {W w w' : World} {F F' H H' : Nat → Prop} {g gd : Nat} {d d' : Dk} {s s' : Lg} {m : List Pr}
theorem ND.below (h : ND W w F g d) (hb : Below w.heap.size w w') : ND W w' F g d := ⟨h.1.below hb, h.2.1, h.2.2.trans (hb.mono h.2.2.size)⟩
theorem ND.step (h : ND W w F g d) (hp : PD w' F' g d') (hm : Mv F F' w w') : ND W w' F' g d' := ⟨hp, hm.ge h.2.2.size h.2.1, h.2.2.trans (hm.kp.below h.2.1 h.2.2.size)⟩
theorem NS.below (h : NS W w H g gd d s m) (hb : Below w.heap.size w w') : NS W w' H g gd d s m := ⟨h.1.below hb, h.2.1, h.2.2.trans (hb.mono h.2.2.size)⟩
theorem NS.disk (h : NS W w H g gd d s m) : ∃ F, ND W w F gd d := by
  obtain ⟨⟨H0, lg, bm, _, ⟨F, G, h1, _, _, h2, _⟩, _, _, _, hH, _⟩, h3, h4⟩ := h
  exact ⟨F, h1, fun k e => h3 k (hH k (h2 k e)), h4⟩
theorem ND.opened (h : ND W w F gd d) (hwl : d.waits.length ≤ 800000000) (ho : openS d = (0, some (s, m), d')) :
    Calls Tryz.prog 42 #[.pointer (some ⟨gd, 0, none⟩)] w fun e w' => ∃ g H, e = .returned (.tuple #[.pointer (some ⟨g, 0, none⟩), .int .i64 0]) ∧ NS W w' H g gd d' s m := by
  refine (sopen_any gd d F w hwl h.1).mono ?_
  unfold OpenedS
  rw [ho]
  rintro e w' (⟨F', _, _, hx, _⟩ | ⟨s2, m2, g, H, hx, rfl, hp, hm⟩)
  · cases hx
  · injection hx with hx
    injection hx with h1 h2
    subst h1 h2
    exact ⟨g, H, rfl, hp, hm.ge h.2.2.size h.2.1, h.2.2.trans (hm.kp.below h.2.1 h.2.2.size)⟩
theorem ND.crash0 (h : ND W w F gd d) (hwl : d.waits.length ≤ 1000000000) :
    Calls Tryz.prog 37 #[.pointer (some ⟨gd, 0, none⟩), .slice none 0 0] w fun e w' => e = .returned (.tuple #[]) ∧ ∃ F', ND W w' F' gd (d.crash []) := by
  refine (crash_any gd d F none 0 0 [] w (by omega) hwl (RdI.nil _ _ _) (fun h => by omega) h.1).mono ?_
  rintro e w' ⟨rfl, F', hp, hm⟩
  exact ⟨rfl, F', h.step hp hm⟩
theorem NS.done {A : Option Addr} {n c : Nat} {l : List Chg} {b : List UInt8} (h : NS W w H g gd d s m) (hwl : d.waits.length ≤ 800000000) (h6 : 6 ≤ d.safe.length) (hm : m.length ≤ 1000000) (hc : n ≤ c) (hcm : c ≤ 9223372036854775807)
    (hl : ∀ w', Below W.heap.size W w' → ChRd w' w'.heap.size A n l) (he : encodeS l = (b, 0)) (ha : s.append d b = (0, s', d')) :
    Calls Tryz.prog 32 #[.pointer (some ⟨g, 0, none⟩), .slice A n c] w fun e w' => e = .returned (.int .i64 0) ∧ ∃ H', NS W w' H' g gd d' s' (layL m l) := by
  refine (sdo_ok g gd d d' s s' m H A n c l b w hwl h6 hm hc hcm (fun w2 hk => hl w2 (h.2.2.trans (hk.below h.2.1 h.2.2.size))) he ha h.1).mono ?_
  rintro e w' ⟨rfl, H', hp, hmv⟩
  exact ⟨rfl, H', hp, hmv.ge h.2.2.size h.2.1, h.2.2.trans (hmv.kp.below h.2.1 h.2.2.size)⟩
theorem NS.got (h : NS W w H g gd d s m) (k : List UInt8) (hk : k.length ≤ maxLen) :
    Calls Tryz.prog 28 #[.pointer (some ⟨g, 0, none⟩), sV k] w fun e w' => e = .returned (.tuple #[sV (getV m k), .bool (getP m k).isSome]) ∧ NS W w' H g gd d s m := by
  obtain ⟨H0, lg, bm, h1, _, h2, _⟩ := h.1
  refine (sget_any g bm m.length _ m k w hk h1 h2).mono ?_
  rintro e w' ⟨rfl, hb⟩
  exact ⟨rfl, h.below hb⟩
theorem NS.waits (h : NS W w H g gd d s m) (hg : s.gone = false) :
    Calls Tryz.prog 27 #[.pointer (some ⟨g, 0, none⟩)] w fun e w' => e = .returned (.int .i64 ((s.recs.length : Int) - (s.safe : Int))) ∧ NS W w' H g gd d s m := by
  obtain ⟨H0, lg, bm, h1, h2, _⟩ := h.1
  refine (swaiting_any g lg gd d s H0 _ w hg h1 h2).mono ?_
  rintro e w' ⟨rfl, hb⟩
  exact ⟨rfl, h.below hb⟩
theorem NS.len (h : NS W w H g gd d s m) : Calls Tryz.prog 25 #[.pointer (some ⟨g, 0, none⟩)] w fun e w' => e = .returned (.int .i64 (m.length : Nat)) ∧ w = w' := by
  obtain ⟨H0, lg, bm, h1, _, h2, _⟩ := h.1
  exact slen_any g bm m.length _ m w h1 h2
end

theorem sappend_waits (s : Lg) (d : Dk) (b : List UInt8) (hl : d.safe.length ≤ 2048) : (s.append d b).2.2.waits.length ≤ d.waits.length + 1100 := by
  have hbs : d.bytes ≤ 32768 := by unfold Dk.bytes Dk.half halfN; omega
  unfold Lg.append
  split
  · simp
  split
  · simp
  split
  · simp
  rename_i h1
  unfold Lg.room at h1
  have h2 := layS_waits (fullF d.bytes (s.recs ++ [b])) (d.base s.epoch) ((usedF (s.recs ++ [b]) - 1) / 32 + 1 - usedF s.recs / 32) (usedF s.recs / 32) d
  have h3 : usedF (s.recs ++ [b]) ≤ 32768 := by rw [usedF_app, usedF_one]; omega
  split
  · show (s.laid d b).2.waits.length ≤ _
    unfold Lg.laid
    omega
  · show (s.laid d b).2.waits.length ≤ _
    unfold Lg.laid
    omega
def sk0 : Lg := { epoch := 0, recs := [], safe := 0, gone := false }
def sl0 : List Chg := [⟨[97], [120], false⟩, ⟨[98], [], true⟩]
def sb0 : List UInt8 := [2, 1, 97, 0, 1, 120, 1, 98, 1]
def sk1 : Lg := { epoch := 0, recs := [sb0], safe := 0, gone := false }
theorem sk_enc : encodeS sl0 = (sb0, 0) := by
  have h2 : Lib.uvarint 2 = [2] := by rw [Lib.uvarint_small (by decide)]; rfl
  have he : encL sl0 = sb0 := by
    unfold encL bodyL sl0 encC
    simp [putB, uvarint_one, h2, sb0]
  have := encodeS_of (l := sl0) (by decide) (by rw [he]; decide)
  rw [he] at this
  exact this
theorem sk_disks : openS (Dk.new 20) = (0, some (sk0, []), Dk.new 20) ∧ ∃ d1, sk0.append (Dk.new 20) sb0 = (0, sk1, d1) ∧ d1.crash [] = Dk.new 20 ∧ d1.waits.length ≤ 2000 ∧ (Dk.new 20).safe.length = 20 := by
  have h0 := fresh_on 20 (by omega)
  have f0 := Dk.new_free 20
  have hby : (Dk.new 20).bytes = 288 := by simp [Dk.bytes, Dk.half, halfN, Dk.new]
  have o0 := open_again h0 rfl
  rw [h0.found] at o0
  obtain ⟨d1, a1, h1, f1, s1⟩ := append_on h0 f0 rfl (b := sb0) (by simp [sb0]) (by rw [hby]; simp [usedF, framesF, sb0])
  have hcr : d1.crash [] = Dk.new 20 := by
    unfold Dk.crash
    have : crashS d1.safe d1.waits [] = d1.safe := by cases d1.waits <;> rfl
    rw [this, s1]
    rfl
  have hw1 : d1.waits.length ≤ 2000 := by
    have := sappend_waits sk0 (Dk.new 20) sb0 (by simp [Dk.new])
    have e : sk0.append (Dk.new 20) sb0 = _ := a1
    rw [e] at this
    have q : (Dk.new 20).waits.length = 0 := rfl
    simp only at this
    omega
  refine ⟨?_, d1, a1, hcr, hw1, by simp [Dk.new]⟩
  unfold openS
  rw [o0]
  rfl
theorem sk_right : rightE [⟨[], [], false⟩] = 2 := rfl

theorem nd_new (n : Nat) (w : World) (h1 : 1 ≤ n) (h2 : n ≤ 2048) : Calls Tryz.prog 44 #[.int .i64 n] w fun e w' => ∃ g F, e = .returned (.tuple #[.pointer (some ⟨g, 0, none⟩), .int .i64 0]) ∧ ND w w' F g (Dk.new n) := by
  refine (new_any n w h1 h2).mono ?_
  rintro e w' ⟨g, F, rfl, h1, h2, h3⟩
  exact ⟨g, F, rfl, h1, h2, h3⟩
theorem sk_waits : (Dk.new 20).waits.length ≤ 800000000 := Nat.zero_le _
set_option maxHeartbeats 4000000 in
set_option maxRecDepth 100000 in
theorem sknown_any (W : World) : Calls Tryz.prog 11 #[] W fun e w' => e = .returned (.bool true) ∧ Below W.heap.size W w' := by
  obtain ⟨o0, d1, a1, c1, hw1, hs20⟩ := sk_disks
  have HL : Hid (∀ w', Below (W.alloc (.cells #[.string ⟨#[97]⟩, .string ⟨#[120]⟩, .bool false, .string ⟨#[98]⟩, .string ⟨#[]⟩, .bool true] 88)).heap.size (W.alloc (.cells #[.string ⟨#[97]⟩, .string ⟨#[120]⟩, .bool false, .string ⟨#[98]⟩, .string ⟨#[]⟩, .bool true] 88)) w' → ChRd w' w'.heap.size (some ⟨W.heap.size, 0, none⟩) 2 sl0) := by
    refine Lib.hid fun w' hb => ?_
    have hk := (Bk.new W 88 #[.string ⟨#[97]⟩, .string ⟨#[120]⟩, .bool false, .string ⟨#[98]⟩, .string ⟨#[]⟩, .bool true]).below hb (Bk.new W _ _).lt
    refine ⟨rfl, fun i hi => ?_⟩
    match i, hi with
    | 0, _ => exact ⟨_, 0, rfl, hk.lt, hk.cell 0, hk.cell 1, hk.cell 2⟩
    | 1, _ => exact ⟨_, 0, rfl, hk.lt, hk.cell 3, hk.cell 4, hk.cell 5⟩
  have Hb0 : Hid (Below W.heap.size W (W.alloc (.cells #[.string ⟨#[97]⟩, .string ⟨#[120]⟩, .bool false, .string ⟨#[98]⟩, .string ⟨#[]⟩, .bool true] 88))) := Lib.hid ((Below.refl _ _).alloc (Nat.le_refl _) _)
  have HD : Hid (∀ w, Calls Tryz.prog 44 #[.int .i64 20] w fun e w' => ∃ g F, e = .returned (.tuple #[.pointer (some ⟨g, 0, none⟩), .int .i64 0]) ∧ ND w w' F g (Dk.new 20)) := by
    exact Lib.hid fun w => nd_new 20 w (by decide) (by decide)
  have HRt : Hid (∀ w, Calls Tryz.prog 13 #[.slice (some ⟨w.heap.size, 0, none⟩) 1 1] (w.alloc (.cells #[.string ⟨#[]⟩, .string ⟨#[]⟩, .bool false] 88)) fun e w' => e = .returned (.int .i64 2) ∧ Below w.heap.size w w') := by
    refine Lib.hid fun w => ?_
    have hk := Bk.new w 88 #[.string ⟨#[]⟩, .string ⟨#[]⟩, .bool false]
    refine (right_any (some ⟨w.heap.size, 0, none⟩) 1 1 [⟨[], [], false⟩] _ (by decide) ⟨rfl, fun i hi => ?_⟩).mono ?_
    · match i, hi with
      | 0, _ => exact ⟨_, 0, rfl, hk.lt, hk.cell 0, hk.cell 1, hk.cell 2⟩
    · rintro e w' ⟨rfl, hb⟩
      rw [sk_right]
      exact ⟨rfl, below_then ((Below.refl _ _).alloc (Nat.le_refl _) _) hb⟩
  have hen := sk_enc
  have HEN := Lib.hid hen
  have hO0 := Lib.hid o0
  have hA1 := Lib.hid a1
  have hC1 := Lib.hid c1
  have hg97 : getV (layL [] sl0) [97] = [120] := by decide
  have hi97 : (getP (layL [] sl0) [97]).isSome = true := by decide
  have hi98 : (getP (layL [] sl0) [98]).isSome = false := by decide
  have HG97 := Lib.hid hg97
  have HI97 := Lib.hid hi97
  have HI98 := Lib.hid hi98
  clear hen o0 a1 c1 hg97 hi97 hi98
  go_enter Tryz.func11, Tryz.ntmps11
  go_wp2_with fail
  generalize W.alloc (.cells #[.string ⟨#[97]⟩, .string ⟨#[120]⟩, .bool false, .string ⟨#[98]⟩, .string ⟨#[]⟩, .bool true] 88) = W1 at *
  have HE := encode_any (some ⟨W.heap.size, 0, none⟩) 2 2 sl0 W1 (by decide) (by decide) (HL.out _ (Below.refl _ _))
  rw [HEN.out] at HE
  have HE := Lib.hid HE
  refine HE.out.mono ?_
  clear HE
  rintro x w2 ⟨v, rfl, ho, hb2⟩
  obtain ⟨A2, c2, rfl, hc2⟩ := own_shape ho
  have HS : Hid (∀ w', Below w2.heap.size w2 w' → (convert 23 9 (.slice A2 sb0.length c2)).run Tryz.prog w' = .ok (sV sb0) w') := Lib.hid fun w' hb => ((Rd.of_own ho).up hb).str Tryz.underlying23 Tryz.underlying5 Tryz.underlying9 c2
  have HL2 : Hid (∀ w', Below w2.heap.size w2 w' → ChRd w' w'.heap.size (some ⟨W.heap.size, 0, none⟩) 2 sl0) := Lib.hid fun w' hb => HL.out w' (below_then hb2 hb)
  have Hb2 := Lib.hid (below_then Hb0.out hb2)
  clear ho hb2 HL Hb0
  go_wp2_with fail
  refine (HD.out w2).mono ?_
  clear HD
  rintro x w3 ⟨gd, F, rfl, hd3⟩
  have HO := Lib.hid (hd3.opened sk_waits hO0.out)
  clear hd3
  go_wp2_with fail
  refine HO.out.mono ?_
  clear HO
  rintro x w4 ⟨g, H, rfl, hs4⟩
  have HDo := Lib.hid (hs4.done (A := some ⟨W.heap.size, 0, none⟩) (n := 2) (c := 2) (l := sl0) (b := sb0) (s' := sk1) (d' := d1) sk_waits (by rw [hs20]; decide) (Nat.zero_le _) (Nat.le_refl _) (by decide) HL2.out HEN.out hA1.out)
  clear hs4
  go_wp2_with fail
  refine HDo.out.mono ?_
  clear HDo
  rintro x w5 ⟨rfl, H5, hs5⟩
  have HG1 := hs5.got [97] (by unfold maxLen; simp)
  rw [HG97.out, HI97.out] at HG1
  have HG1 := Lib.hid HG1
  clear hs5
  go_wp2_with fail
  refine HG1.out.mono ?_
  clear HG1
  rintro x w6 ⟨rfl, hs6⟩
  have HG2 := hs6.got [98] (by unfold maxLen; simp)
  rw [HI98.out] at HG2
  have HG2 := Lib.hid HG2
  clear hs6
  go_wp2_with fail
  refine HG2.out.mono ?_
  clear HG2
  rintro x w7 ⟨rfl, hs7⟩
  have HW := Lib.hid (hs7.waits rfl)
  clear hs7
  go_wp2_with fail
  refine HW.out.mono ?_
  clear HW
  rintro x w8 ⟨rfl, hs8⟩
  obtain ⟨F8, hd8⟩ := hs8.disk
  have HCr := hd8.crash0 (by omega)
  rw [hC1.out] at HCr
  have HCr := Lib.hid HCr
  clear hs8 hd8
  go_wp2_with fail
  refine HCr.out.mono ?_
  clear HCr
  rintro x w9 ⟨rfl, F9, hd9⟩
  have HO2 := Lib.hid (hd9.opened sk_waits hO0.out)
  clear hd9
  go_wp2_with fail
  refine HO2.out.mono ?_
  clear HO2
  rintro x wa ⟨g2, Ha, rfl, hsa⟩
  have HLn := Lib.hid hsa.len
  have kb := HS.out wa hsa.2.2
  have Hba := Lib.hid (below_then Hb2.out hsa.2.2)
  clear hsa
  go_wp2_with fail
  refine HLn.out.mono ?_
  clear HLn
  rintro x wb ⟨rfl, rfl⟩
  go_wp2_with fail
  refine (HRt.out _).mono ?_
  clear HRt
  rintro x wc ⟨rfl, hbc⟩
  have Hbc := Lib.hid (below_then Hba.out hbc)
  clear hbc
  go_wp2
  go_ret
  exact ⟨rfl, Hbc.out⟩
end Go.Proofs.YtfepjgafamaegaaGreat
