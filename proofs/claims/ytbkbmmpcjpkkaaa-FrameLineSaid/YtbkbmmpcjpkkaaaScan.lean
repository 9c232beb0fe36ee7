/- The frames of any bytes, one behind the other: the program's and the document's. -/
import Derived.Test.YtbkbmmpcjpkkaaaSeek
import Derived.Test.YtbkbmmpcjpkkaaaFam
namespace Go.Proofs.Ytbkbmmpcjpkkaaa
open Go.RowKit

def frCells (fs : List Fr) (vals : List Value) : List Value := (List.zipWith (fun (f : Fr) v => [Value.int .u8 (f.1.toNat : Int), v]) fs vals).flatten
theorem frCells_push (fs : List Fr) (vals : List Value) (f : Fr) (v : Value) (h : fs.length = vals.length) : frCells (fs ++ [f]) (vals ++ [v]) = frCells fs vals ++ [.int .u8 (f.1.toNat : Int), v] := by
  unfold frCells
  rw [List.zipWith_append h, List.flatten_append]
  rfl
/-- A row of frames, each body its own. -/
structure Frames (w : World) (base : Nat) (v : Value) (vals : List Value) (fs : List Fr) : Prop where
  row : w.ownsRow base 37 2 v fs.length (frCells fs vals)
  fam : Fam w base vals (fs.map (·.2))

theorem Frames.nil (w : World) (base : Nat) : Frames w base (.slice none 0 0) [] [] := ⟨World.ownsRow_nil _ _ _ _, Fam.nil _ _⟩
theorem Frames.len {w : World} {base : Nat} {v : Value} {vals : List Value} {fs : List Fr} (h : Frames w base v vals fs) : vals.length = fs.length := by simpa using h.fam.len
theorem Frames.up {w w' : World} {base : Nat} {v : Value} {vals : List Value} {fs : List Fr} (h : Frames w base v vals fs) (hb : Below w.heap.size w w') : Frames w' base v vals fs :=
  ⟨own_below h.row hb fun k hk => (h.row.lt k hk).2, h.fam.up hb⟩
theorem Frames.push {w w1 w2 w3 : World} {base : Nat} {v v' x : Value} {vals : List Value} {fs : List Fr} {f : Fr} (h : Frames w base v vals fs) (hb : Below w.heap.size w w1) (hx : w1.ownsRow w.heap.size 5 1 x f.2.length (u8s f.2)) (hbase : base ≤ w.heap.size) (hb2 : Below w1.heap.size w1 w2)
    (ha : App w2 w3 base 37 2 v v' fs.length 1 (frCells fs vals) [.int .u8 (f.1.toNat : Int), x]) : Frames w3 base v' (vals ++ [x]) (fs ++ [f]) := by
  have hf : Fam w2 base (vals ++ [x]) ((fs ++ [f]).map (·.2)) := by rw [List.map_append]; exact (h.fam.push hb hx hbase).up hb2
  refine ⟨?_, hf.grown ha.grow fun i u hu => ?_⟩
  · rw [frCells_push _ _ _ _ h.len.symm, List.length_append]
    exact ha.own
  · exact own_types_ne (hf.each i u hu) ((h.up hb).up hb2).row (by decide)

/-- A block's cells, as append asks for them. -/
theorem Bk.cells {w : World} {g : Nat} {t : TypeId} {cs : Array Value} (h : Bk w g t cs) {l : List Value} (hl : cs = l.toArray) : ∀ a, (some ⟨g, 0, none⟩ : Option Addr) = some a → ∀ j u, l[j]? = some u → w.cell? (a.add j) = some u := by
  intro a e j u hu
  obtain rfl := Option.some.inj e
  rw [Addr.add_lit, Nat.zero_add, h.cell, hl]
  simpa using hu
theorem Try.infoFrame : (Try.prog.info? 37).map (fun i => (i.zero, i.size, i.bytes)) = some (some (.agg #[.int .u8 0, .slice none 0 0]), 2, 32) := by kernel_rfl

set_option maxHeartbeats 1000000 in
theorem frameScan_any (A : Option Addr) (n c : Nat) (l : List UInt8) (w : World) (hc : n ≤ c) (hn : n ≤ 1099511627776) (hm : c ≤ 9223372036854775807) (h : Rd w w.heap.size A n l) :
    Calls Try.prog 24 #[.slice A n c] w fun e w' => ∃ v vals, e = .returned (.tuple #[v, .int .i64 ((scanF l).2 : Nat)]) ∧ Frames w' w.heap.size v vals (scanF l).1 ∧ Below w.heap.size w w' := by
  obtain ⟨i0, hi0, hz0, hz1, hz2⟩ := info_parts Try.infoFrame
  have HL := Lib.hid h.1
  have H := Lib.hid h
  have HG : Hid (∀ W k, Below w.heap.size w W → Calls Try.prog 20 #[.slice A n c, .int .i64 (k : Nat)] W fun e w' =>
      ∃ v, e = .returned (.tuple #[.agg #[.int .u8 ((getA l k).1.toNat : Int), v], .int .i64 (getA l k).2.2.1, .int .i64 (getA l k).2.2.2]) ∧ w'.ownsRow W.heap.size 5 1 v (getA l k).2.1.length (u8s (getA l k).2.1) ∧ Below W.heap.size W w') :=
    Lib.hid fun W k hW => frameGet_any A n c k l W hc (by omega) hm ((h.below hW).more hW.size)
  clear h
  go_enter Try.func24, Try.ntmps24
  go_wp2
  go_loopg [4, 5] n (fun g v r wr => ∃ (vv : Value) (k : Nat) (vals : List Value) (fs : List Fr), v = vv ∧ r = .int .i64 k ∧ k + g = n ∧ Hid (scanF l = (fs ++ (scanF (l.drop k)).1, k + (scanF (l.drop k)).2)) ∧ 10 * fs.length ≤ k ∧ Hid (Frames wr w.heap.size vv vals fs) ∧ Hid (Below w.heap.size w wr))
  case atStart => exact ⟨_, 0, [], [], rfl, rfl, by omega, Lib.hid (by simp), by simp, Frames.nil _ _, Below.refl _ _⟩
  case round =>
    obtain ⟨vv, k, vals, fs, rfl, rfl, hk, Hs, hfs, Hf, Hb⟩ := hrel
    have hkn : k ≤ n := by omega
    obtain ⟨Af, cf, rfl, hcf⟩ := own_shape Hf.out.row
    cases hg : getF (l.drop k) with
    | error e =>
      have HC := Lib.hid (HG.out _ k Hb.out)
      rw [getA_err (by rw [HL.out]; omega) hg] at HC
      have he := getF_err hg
      have hne : ((e : Int) != 0) = true := by simp; omega
      have hnx := Hs.out
      rw [scanF_err hg] at hnx
      have Hn := Lib.hid hnx
      clear hg hnx
      go_wp2_with fail
      refine HC.out.mono ?_
      rintro x w2 ⟨v, rfl, ho, hb⟩
      obtain ⟨Av, cv, rfl, _⟩ := own_shape ho
      have Hf2 := Lib.hid (Hf.out.up hb)
      have Hb2 := Lib.hid (Hb.out.trans (hb.mono Hb.out.size))
      clear ho hb HC
      go_wp2
      go_ret2
      refine ⟨.slice Af fs.length cf, vals, ?_, ?_, Hb2.out.alloc Hb2.out.size _⟩
      · rw [Hn.out]; rfl
      · rw [Hn.out]
        simp only [List.append_nil]
        exact Hf2.out.up ((Below.refl _ _).alloc (Nat.le_refl _) _)
    | ok fk =>
      obtain ⟨f, m⟩ := fk
      have HC := Lib.hid (HG.out _ k Hb.out)
      rw [getA_ok (by rw [HL.out]; omega) hg] at HC
      have hnx := Hs.out
      rw [scanF_ok hg] at hnx
      have hfm := getF_le hg
      rw [List.length_drop, HL.out] at hfm
      have Hn := Lib.hid hnx
      clear hg hnx
      go_wp2_with fail
      refine HC.out.mono ?_
      rintro x w2 ⟨v, rfl, ho, hb⟩
      obtain ⟨Av, cv, rfl, _⟩ := own_shape ho
      have Ho := Lib.hid ho
      have HB := Lib.hid hb
      have Hf2 : Hid (Frames ((w2.alloc (.cells #[.int .u8 (f.1.toNat : Int), .slice Av f.2.length cv] 37)).alloc (.cells #[.int .u8 (f.1.toNat : Int), .slice Av f.2.length cv] 37)) w.heap.size _ vals fs) := Lib.hid ((Hf.out.up hb).up (((Below.refl _ _).alloc (Nat.le_refl _) _).alloc (by simp) _))
      have hsz : w.heap.size ≤ w2.heap.size := Nat.le_trans Hb.out.size hb.size
      have hbk : Bk ((w2.alloc (.cells #[.int .u8 (f.1.toNat : Int), .slice Av f.2.length cv] 37)).alloc (.cells #[.int .u8 (f.1.toNat : Int), .slice Av f.2.length cv] 37)) (w2.heap.size + 1) 37 #[.int .u8 (f.1.toNat : Int), .slice Av f.2.length cv] := by
        have := Bk.new (w2.alloc (.cells #[.int .u8 (f.1.toNat : Int), .slice Av f.2.length cv] 37)) 37 #[.int .u8 (f.1.toNat : Int), .slice Av f.2.length cv]
        simpa using this
      have HK := Lib.hid hbk
      clear ho hb HC hbk
      go_wp2_with (at_builtin; go_loud (refine wpList_append_app _ rfl _ _ 44 rfl w.heap.size 37 i0 (.agg #[.int .u8 0, .slice none 0 0]) 2 32 Try.underlying44 hi0 hz0 hz1 hz2 rfl _ _ _ rfl Hf2.out.row (some ⟨w2.heap.size + 1, 0, none⟩) 1 1 [.int .u8 (f.1.toNat : Int), .slice Av f.2.length cv] rfl rfl (by intro e; cases e) (Bk.cells HK.out rfl) (by intro u hu; simp at hu; rcases hu with rfl | rfl <;> rfl) (by unfold maxLen; omega) (by omega) (by simp; omega) ?_))
      intro v' w3 ha
      have Hf3 := Lib.hid (Frames.push (f := f) Hf.out HB.out Ho.out Hb.out.size (((Below.refl _ _).alloc (Nat.le_refl _) _).alloc (by simp) _) ha)
      have hb2 : Below w.heap.size w ((w2.alloc (.cells #[.int .u8 (f.1.toNat : Int), .slice Av f.2.length cv] 37)).alloc (.cells #[.int .u8 (f.1.toNat : Int), .slice Av f.2.length cv] 37)) := (((Hb.out.trans (HB.out.mono Hb.out.size)).alloc hsz _).alloc (by simp; omega) _)
      have Hb3 := Lib.hid (ha.below hb2 (by simp; omega) (own_block_ge Hf2.out.row))
      clear ha hb2 HK Hf2 Ho HB
      go_wp2
      go_roundg (gk - m)
      case measure => omega
      case rel => exact ⟨_, k + m, vals ++ [.slice Av f.2.length cv], fs ++ [f], rfl, by go_num, by omega, Lib.hid (by rw [Hn.out, List.drop_drop, List.append_assoc]; simp [Nat.add_assoc]), by rw [List.length_append]; simp; omega, Hf3, Hb3⟩
set_option maxHeartbeats 1000000 in
theorem refScan_any (A : Option Addr) (n c : Nat) (l : List UInt8) (w : World) (hc : n ≤ c) (hn : n ≤ 1099511627776) (hm : c ≤ 9223372036854775807) (h : Rd w w.heap.size A n l) :
    Calls Try.prog 25 #[.slice A n c] w fun e w' => ∃ v vals, e = .returned (.tuple #[v, .int .i64 ((scanF l).2 : Nat)]) ∧ Frames w' w.heap.size v vals (scanF l).1 ∧ Below w.heap.size w w' := by
  obtain ⟨i0, hi0, hz0, hz1, hz2⟩ := info_parts Try.infoFrame
  have HL := Lib.hid h.1
  have H := Lib.hid h
  have HG : Hid (∀ W k, Below w.heap.size w W → Calls Try.prog 21 #[.slice A n c, .int .i64 (k : Nat)] W fun e w' =>
      ∃ v, e = .returned (.tuple #[.agg #[.int .u8 ((getA l k).1.toNat : Int), v], .int .i64 (getA l k).2.2.1, .int .i64 (getA l k).2.2.2]) ∧ w'.ownsRow W.heap.size 5 1 v (getA l k).2.1.length (u8s (getA l k).2.1) ∧ Below W.heap.size W w') :=
    Lib.hid fun W k hW => refGetF_any A n c k l W hc (by omega) hm ((h.below hW).more hW.size)
  clear h
  go_enter Try.func25, Try.ntmps25
  go_wp2
  go_loopg [4, 5] n (fun g v r wr => ∃ (vv : Value) (k : Nat) (vals : List Value) (fs : List Fr), v = vv ∧ r = .int .i64 k ∧ k + g = n ∧ Hid (scanF l = (fs ++ (scanF (l.drop k)).1, k + (scanF (l.drop k)).2)) ∧ 10 * fs.length ≤ k ∧ Hid (Frames wr w.heap.size vv vals fs) ∧ Hid (Below w.heap.size w wr))
  case atStart => exact ⟨_, 0, [], [], rfl, rfl, by omega, Lib.hid (by simp), by simp, Frames.nil _ _, Below.refl _ _⟩
  case round =>
    obtain ⟨vv, k, vals, fs, rfl, rfl, hk, Hs, hfs, Hf, Hb⟩ := hrel
    have hkn : k ≤ n := by omega
    obtain ⟨Af, cf, rfl, hcf⟩ := own_shape Hf.out.row
    cases hg : getF (l.drop k) with
    | error e =>
      have HC := Lib.hid (HG.out _ k Hb.out)
      rw [getA_err (by rw [HL.out]; omega) hg] at HC
      have he := getF_err hg
      have hne : ((e : Int) != 0) = true := by simp; omega
      have hnx := Hs.out
      rw [scanF_err hg] at hnx
      have Hn := Lib.hid hnx
      clear hg hnx
      go_wp2_with fail
      refine HC.out.mono ?_
      rintro x w2 ⟨v, rfl, ho, hb⟩
      obtain ⟨Av, cv, rfl, _⟩ := own_shape ho
      have Hf2 := Lib.hid (Hf.out.up hb)
      have Hb2 := Lib.hid (Hb.out.trans (hb.mono Hb.out.size))
      clear ho hb HC
      go_wp2
      go_ret2
      refine ⟨.slice Af fs.length cf, vals, ?_, ?_, Hb2.out.alloc Hb2.out.size _⟩
      · rw [Hn.out]; rfl
      · rw [Hn.out]
        simp only [List.append_nil]
        exact Hf2.out.up ((Below.refl _ _).alloc (Nat.le_refl _) _)
    | ok fk =>
      obtain ⟨f, m⟩ := fk
      have HC := Lib.hid (HG.out _ k Hb.out)
      rw [getA_ok (by rw [HL.out]; omega) hg] at HC
      have hnx := Hs.out
      rw [scanF_ok hg] at hnx
      have hfm := getF_le hg
      rw [List.length_drop, HL.out] at hfm
      have Hn := Lib.hid hnx
      clear hg hnx
      go_wp2_with fail
      refine HC.out.mono ?_
      rintro x w2 ⟨v, rfl, ho, hb⟩
      obtain ⟨Av, cv, rfl, _⟩ := own_shape ho
      have Ho := Lib.hid ho
      have HB := Lib.hid hb
      have Hf2 : Hid (Frames ((w2.alloc (.cells #[.int .u8 (f.1.toNat : Int), .slice Av f.2.length cv] 37)).alloc (.cells #[.int .u8 (f.1.toNat : Int), .slice Av f.2.length cv] 37)) w.heap.size _ vals fs) := Lib.hid ((Hf.out.up hb).up (((Below.refl _ _).alloc (Nat.le_refl _) _).alloc (by simp) _))
      have hsz : w.heap.size ≤ w2.heap.size := Nat.le_trans Hb.out.size hb.size
      have hbk : Bk ((w2.alloc (.cells #[.int .u8 (f.1.toNat : Int), .slice Av f.2.length cv] 37)).alloc (.cells #[.int .u8 (f.1.toNat : Int), .slice Av f.2.length cv] 37)) (w2.heap.size + 1) 37 #[.int .u8 (f.1.toNat : Int), .slice Av f.2.length cv] := by
        have := Bk.new (w2.alloc (.cells #[.int .u8 (f.1.toNat : Int), .slice Av f.2.length cv] 37)) 37 #[.int .u8 (f.1.toNat : Int), .slice Av f.2.length cv]
        simpa using this
      have HK := Lib.hid hbk
      clear ho hb HC hbk
      go_wp2_with (at_builtin; go_loud (refine wpList_append_app _ rfl _ _ 44 rfl w.heap.size 37 i0 (.agg #[.int .u8 0, .slice none 0 0]) 2 32 Try.underlying44 hi0 hz0 hz1 hz2 rfl _ _ _ rfl Hf2.out.row (some ⟨w2.heap.size + 1, 0, none⟩) 1 1 [.int .u8 (f.1.toNat : Int), .slice Av f.2.length cv] rfl rfl (by intro e; cases e) (Bk.cells HK.out rfl) (by intro u hu; simp at hu; rcases hu with rfl | rfl <;> rfl) (by unfold maxLen; omega) (by omega) (by simp; omega) ?_))
      intro v' w3 ha
      have Hf3 := Lib.hid (Frames.push (f := f) Hf.out HB.out Ho.out Hb.out.size (((Below.refl _ _).alloc (Nat.le_refl _) _).alloc (by simp) _) ha)
      have hb2 : Below w.heap.size w ((w2.alloc (.cells #[.int .u8 (f.1.toNat : Int), .slice Av f.2.length cv] 37)).alloc (.cells #[.int .u8 (f.1.toNat : Int), .slice Av f.2.length cv] 37)) := (((Hb.out.trans (HB.out.mono Hb.out.size)).alloc hsz _).alloc (by simp; omega) _)
      have Hb3 := Lib.hid (ha.below hb2 (by simp; omega) (own_block_ge Hf2.out.row))
      clear ha hb2 HK Hf2 Ho HB
      go_wp2
      go_roundg (gk - m)
      case measure => omega
      case rel => exact ⟨_, k + m, vals ++ [.slice Av f.2.length cv], fs ++ [f], rfl, by go_num, by omega, Lib.hid (by rw [Hn.out, List.drop_drop, List.append_assoc]; simp [Nat.add_assoc]), by rw [List.length_append]; simp; omega, Hf3, Hb3⟩
end Go.Proofs.Ytbkbmmpcjpkkaaa
