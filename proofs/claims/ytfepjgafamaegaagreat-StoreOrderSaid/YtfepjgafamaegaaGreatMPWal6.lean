/- Of the proofs of layer 4, merged: PWal6, PWal7, PWal8, PWal9, PWal10, PWal12, PWal13, PWal15, StoM, StoC, StoE, StoR, StoD, StoD2, PWal14, PWal16, PWal17, PWal18, StoX2, RWal3, RWal4. -/
import Derived.Test.YtfepjgafamaegaaGreatMPWal4
import Derived.Deep.DeepCutAuto
import Derived.StillTailTactics
import Derived.Test.YtfepjgafamaegaaGreatMFrameP
import Derived.Test.YtfepjgafamaegaaGreatMFrameGet
import Derived.Test.YtfepjgafamaegaaGreatMBackP
import Derived.Laws.IdiomStrings
import Derived.Deep.AppendLies
import Derived.Test.YtfepjgafamaegaaGreatMWords
import Derived.Test.YtfepjgafamaegaaGreatM1Append2
import Derived.Handy
import Derived.Deep.RegionHeld3
import Derived.Test.YtfepjgafamaegaaGreatM1RWal2

/- The program's log: a log is loaded. -/
namespace Go.Proofs.YtfepjgafamaegaaGreat
open Go.RowKit

/-- A new log's variable, with an area of noughts. -/
def NewLog (w0 : World) (e n : Nat) (v : Value) (w : World) : Prop :=
  ∃ g ga, v = .pointer (some ⟨g, 0, none⟩) ∧ LgAt w g 163 [] [] e ga n n 0 0 (zeros n) ∧ Below w0.heap.size w0 w ∧ w0.heap.size ≤ g ∧ w0.heap.size ≤ ga
theorem blk_own {w : World} {g n : Nat} {cs : Array Value} (h : Bk w g 5 cs) (hc : cs = (u8s (zeros n)).toArray) (hn : n ≤ maxLen) : w.ownsRow 0 5 1 (.slice (some ⟨g, 0, none⟩) n n) n (u8s (zeros n)) := by
  subst hc
  have hl : (u8s (zeros n)).length = n := by rw [u8s_len, zeros_len]
  exact ⟨by rw [hl, Nat.mul_one], .inr ⟨g, n, _, rfl, Nat.zero_le _, h, Nat.le_refl _, hn, by rw [List.size_toArray, hl, Nat.mul_one], by rw [List.toList_toArray, Nat.mul_one, List.take_of_length_le (by omega)]⟩⟩
theorem own_base {w : World} {b B e s n : Nat} {v : Value} {xs : List Value} (h : w.ownsRow b e s v n xs) (hB : ∀ k, v.ownBlock = some k → B ≤ k) : w.ownsRow B e s v n xs := by
  refine ⟨h.1, ?_⟩
  rcases h.2 with h' | ⟨g, cap, cur, hv, hg, r⟩
  · exact .inl h'
  · exact .inr ⟨g, cap, cur, hv, hB g (by rw [hv]; rfl), r⟩
theorem newlog_mk {W0 W : World} {e n g ga : Nat} (hn : n ≤ maxLen) (hb : Below W0.heap.size W0 W) (h1 : Bk W g 163 #[.int .u64 e, .slice (some ⟨ga, 0, none⟩) n n, .int .i64 0, .int .i64 0]) (h2 : Bk W ga 5 (u8s (zeros n)).toArray) (h3 : W0.heap.size ≤ g) (h4 : W0.heap.size ≤ ga) (hne : g ≠ ga) : NewLog W0 e n (.pointer (some ⟨g, 0, none⟩)) W :=
  ⟨g, ga, rfl, ⟨h1, blk_own h2 rfl hn, hne⟩, hb, h3, h4⟩
theorem bk_set4 {w : World} {g : Nat} {t : TypeId} {a b c d : Value} (h : Bk w g t #[a, b, c, d]) (x y z u : Value) : Bk ((((w.setCell ⟨g, 0, none⟩ x).setCell ⟨g, 1, none⟩ y).setCell ⟨g, 2, none⟩ z).setCell ⟨g, 3, none⟩ u) g t #[x, y, z, u] ∧ Kp (· = g) w ((((w.setCell ⟨g, 0, none⟩ x).setCell ⟨g, 1, none⟩ y).setCell ⟨g, 2, none⟩ z).setCell ⟨g, 3, none⟩ u) := by
  have hk : ∀ (W : World) (i : Nat) (v : Value), Kp (· = g) W (W.setCell ⟨g, i, none⟩ v) := fun W i v => Kp.set_ (F := (· = g)) (p := ⟨g, i, none⟩) rfl v
  exact ⟨(((h.set_ 0 x).set_ 1 y).set_ 2 z).set_ 3 u, (((hk w 0 _).trans (hk _ 1 _)).trans (hk _ 2 _)).trans (hk _ 3 _)⟩
theorem two_newS (w : World) (a b : Array Value) (t t' : TypeId) : Bk ((w.alloc (.cells a t)).alloc (.cells b t')) w.heap.size t a ∧ Bk ((w.alloc (.cells a t)).alloc (.cells b t')) (w.heap.size + 1) t' b := by
  have h1 := Bk.new w t a
  have h2 := Bk.new (w.alloc (.cells a t)) t' b
  have e2 : (w.alloc (.cells a t)).heap.size = w.heap.size + 1 := by simp
  rw [e2] at h2
  exact ⟨h1.below ((Below.refl (w.alloc (.cells a t)).heap.size (w.alloc (.cells a t))).alloc (Nat.le_refl _) (.cells b t')) h1.lt, h2⟩
theorem two_new (w : World) (a b : Array Value) (t t' : TypeId) : Bk ((w.alloc (.cells a t)).alloc (.cells b t')).drew w.heap.size t a ∧ Bk ((w.alloc (.cells a t)).alloc (.cells b t')).drew (w.heap.size + 1) t' b := by
  have h1 := Bk.new w t a
  have h2 := Bk.new (w.alloc (.cells a t)) t' b
  have e2 : (w.alloc (.cells a t)).heap.size = w.heap.size + 1 := by simp
  rw [e2] at h2
  have k1 := h1.below ((Below.refl (w.alloc (.cells a t)).heap.size (w.alloc (.cells a t))).alloc (Nat.le_refl _) (.cells b t')) h1.lt
  exact ⟨k1, h2⟩
theorem one_newD (w : World) (a : Array Value) (t : TypeId) : Bk (w.alloc (.cells a t)).drew w.heap.size t a := Bk.new w t a


set_option maxRecDepth 100000 in
set_option maxHeartbeats 4000000 in
theorem load_meth (gd : Nat) (d : Dk) (F : Nat → Prop) (w : World) (h6 : 6 ≤ d.safe.length) (hd : d.down = false) (h : PD w F gd d) :
    Calls Tryz.prog 111 #[.pointer (some ⟨gd, 0, none⟩)] w fun x w' => ∃ ga c, x = .returned (.agg (lgC d.newest (some ⟨ga, 0, none⟩) d.bytes c (findR (d.area d.newest)).2 (findR (d.area d.newest)).1.length).toArray) ∧
      w'.ownsRow w.heap.size 5 1 (.slice (some ⟨ga, 0, none⟩) d.bytes c) d.bytes (u8s (d.area d.newest)) ∧ Below w.heap.size w w' := by
  obtain ⟨i0, hi0, hz0, hz1, hz2⟩ := info_parts Tryz.infoU8
  have hlen := h.len
  have hmk : ∀ (W : World) (n : Nat), n ≤ 40000 → (Instr.makeSlice 23 (.int .i64 (n : Int)) (.int .i64 (n : Int))).run Tryz.prog W = .ok (.slice (some ⟨W.heap.size, 0, none⟩) n n) (W.alloc (.cells (madeCells (Value.int .u8 0).cells (n * 1)) 5)) := fun W n hn => by
    have h := run_make (P := Tryz.prog) W 23 5 i0 _ Tryz.underlying23 hi0 hz0 .i64 .i64 n n (by omega) (Int.le_refl _) (by rw [hz2]; omega) (by omega)
    rw [hz1] at h
    simpa only [Int.toNat_natCast] using h
  have hH : d.half ≤ 1023 ∧ (d.half : Int) = ((d.safe.length : Int) - 2) / 2 := by unfold Dk.half halfN; omega
  obtain ⟨H, hHe⟩ : ∃ H, d.half = H := ⟨_, rfl⟩
  have hmkH := fun W => hmk W (H * 32) (by omega)
  have hZ : madeCells (Value.int .u8 0).cells (H * 32 * 1) = (u8s (zeros (H * 32))).toArray := by
    apply Array.ext'
    have := madeBytes (H * 32)
    rw [Nat.mul_one, show (Value.int .u8 0).cells = #[Value.int .u8 0] from rfl, this]
    rfl
  rw [hZ] at hmkH
  clear hmk hi0 hz0 hz1 hz2 hZ
  have hcast : ((H * 32 : Nat) : Int) = (H : Int) * 32 := by omega
  rw [hcast] at hmkH
  have hbytes : d.bytes = H * 32 := by unfold Dk.bytes; rw [hHe]
  have Hbytes := Lib.hid hbytes
  clear hbytes
  have w0b : Below w.heap.size w (((w.alloc (.cells #[.pointer (some ⟨gd, 0, none⟩)] 50)).alloc (.cells #[.int .u64 0, .slice none 0 0, .int .i64 0, .int .i64 0] 163))) := ((Below.refl _ _).alloc (Nat.le_refl _) _).alloc (by simp) _
  have HSL : Hid (∀ W g ga, Below w.heap.size w W → w.heap.size < ga → W.cell? ⟨w.heap.size, 0, none⟩ = some (.pointer (some ⟨gd, 0, none⟩)) → LgAt W g 163 [] [] d.newest ga (H * 32) (H * 32) 0 0 (zeros (H * 32)) →
      Calls Tryz.prog 97 #[.pointer (some ⟨g, 0, none⟩), .int .i64 0, .int .i64 ((H : Int) * 32), .func (.func 142) #[] #[.pointer (some ⟨w.heap.size, 0, none⟩)]] W (Loaded W g 163 [] [] d.newest ga (H * 32) (H * 32) 0 0 (d.area d.newest))) := fun W g ga hb hga hc hlg => by
    have HS := sectors_load g d.newest ga (H * 32) H w.heap.size gd d F W hHe.symm h6 hd hlg (h.below hb) (fun hf => by have := h.lt ga hf; omega) hc (by omega)
    rwa [hcast] at HS
  have HC1 : Hid (∀ W, Below w.heap.size w W → Calls Tryz.prog 109 #[.pointer (some ⟨gd, 0, none⟩)] W _) := fun W hb => sectors_meth gd d F W (h.below hb)
  have HC2 : Hid (∀ W, Below w.heap.size w W → Calls Tryz.prog 141 #[.pointer (some ⟨gd, 0, none⟩)] W _) := fun W hb => newest_meth gd d F W hd h6 (h.below hb)
  clear h
  go_enter Tryz.func111, Tryz.ntmps111
  go_wp2_with fail
  refine (HC1.out _ w0b).mono ?_
  rintro x w' ⟨rfl, rfl⟩
  have cb : (((w.alloc (.cells #[.pointer (some ⟨gd, 0, none⟩)] 50)).alloc (.cells #[.int .u64 0, .slice none 0 0, .int .i64 0, .int .i64 0] 163))).cell? ⟨w.heap.size, 0, none⟩ = some (.pointer (some ⟨gd, 0, none⟩)) :=
    ((Bk.new w _ _).below ((Below.refl _ _).alloc (Nat.le_refl _) _) (by simp)).cell 0
  have Br := Lib.hid (Bk.new (w.alloc (.cells #[.pointer (some ⟨gd, 0, none⟩)] 50)) 163 #[.int .u64 0, .slice none 0 0, .int .i64 0, .int .i64 0])
  have Hw0b := Lib.hid w0b
  have hd2 : ((d.safe.length : Int) - 2) / 2 = (H : Int) := by omega
  have hHb : (H : Int) ≤ 1023 := by omega
  have hwr : IntKind.i64.wrap ((H : Int) * 32) = (H : Int) * 32 := by rw [IntKind.wrap_i64]; omega
  generalize hn : d.safe.length = n at *
  clear HC1 w0b hH hHe hn
  go_upto_region 2 with (fail)
  rw [hd2]
  generalize (((w.alloc (.cells #[.pointer (some ⟨gd, 0, none⟩)] 50)).alloc (.cells #[.int .u64 0, .slice none 0 0, .int .i64 0, .int .i64 0] 163))) = W0 at *
  have HK : Hid (∀ W, Below W0.heap.size W0 W → W.cell? ⟨w.heap.size, 0, none⟩ = some (.pointer (some ⟨gd, 0, none⟩)) ∧ Below W0.heap.size W0 W) := fun W hb => ⟨(hb.cell (p := ⟨w.heap.size, 0, none⟩) (World.block_lt_of_cell? _ _ cb)).trans cb, hb⟩
  have T1 := Lib.hid (one_newD W0 #[.int .u64 0, .slice none 0 0, .int .i64 0, .int .i64 0] 163)
  have T2 := Lib.hid (one_newD W0 (u8s (zeros (H * 32))).toArray 5)
  have T3 := Lib.hid (two_new W0 #[.int .u64 0, .slice none 0 0, .int .i64 0, .int .i64 0] (u8s (zeros (H * 32))).toArray 163 5)
  have T4 := Lib.hid (two_new W0 (u8s (zeros (H * 32))).toArray #[.int .u64 0, .slice none 0 0, .int .i64 0, .int .i64 0] 5 163)
  go_cut [4] (fun s w' => NewLog W0 d.newest (H * 32) s w')
  case first =>
    go_region_held3 (fun w' => w'.cell? ⟨w.heap.size, 0, none⟩ = some (.pointer (some ⟨gd, 0, none⟩)) ∧ Below W0.heap.size W0 w') (first | (refine HK.out _ ?_; (repeat' (first | assumption | exact Below.refl _ _ | exact Nat.le_refl _ | apply Below.drew | (refine Below.alloc ?_ ?_ _) | (refine Below.setCell ?_ ?_ _) | (simp; done) | (have := hb2.size; simp; omega))); done) | go_keep)
      (first
        | (go_at_call 141; refine (HC2.out _ (Hw0b.out.trans (Below.mono (B := W0.heap.size) (by (repeat' (first | assumption | exact Below.refl _ _ | exact Nat.le_refl _ | apply Below.drew | (refine Below.alloc ?_ ?_ _) | (refine Below.setCell ?_ ?_ _) | (simp; done) | (simp; omega)))) Hw0b.out.size))).mono ?_; rintro x w2 ⟨rfl, hb⟩; have hb2 : Below W0.heap.size W0 w2 := below_then (by (repeat' (first | assumption | exact Below.refl _ _ | exact Nat.le_refl _ | apply Below.drew | (refine Below.alloc ?_ ?_ _) | (refine Below.setCell ?_ ?_ _) | (simp; done) | (simp; omega)))) hb; have hk2 := HK.out w2 hb2; have hbk := T3.out.1.below hb T3.out.1.lt; have hba := T3.out.2.below hb T3.out.2.lt; have n0 := hbk.cell 0; have n1 := hbk.cell 1; have n2 := hbk.cell 2; have n3 := hbk.cell 3; have m0 := hbk.frozen 0; have m1 := hbk.frozen 1; have m2 := hbk.frozen 2; have m3 := hbk.frozen 3; simp only [List.getElem?_toArray, List.getElem?_cons_zero, List.getElem?_cons_succ] at n0 n1 n2 n3)
        | (go_at_call 141; refine (HC2.out _ (Hw0b.out.trans (Below.mono (B := W0.heap.size) (by (repeat' (first | assumption | exact Below.refl _ _ | exact Nat.le_refl _ | apply Below.drew | (refine Below.alloc ?_ ?_ _) | (refine Below.setCell ?_ ?_ _) | (simp; done) | (simp; omega)))) Hw0b.out.size))).mono ?_; rintro x w2 ⟨rfl, hb⟩; have hb2 : Below W0.heap.size W0 w2 := below_then (by (repeat' (first | assumption | exact Below.refl _ _ | exact Nat.le_refl _ | apply Below.drew | (refine Below.alloc ?_ ?_ _) | (refine Below.setCell ?_ ?_ _) | (simp; done) | (simp; omega)))) hb; have hk2 := HK.out w2 hb2; have hbk := T4.out.2.below hb T4.out.2.lt; have hba := T4.out.1.below hb T4.out.1.lt; have n0 := hbk.cell 0; have n1 := hbk.cell 1; have n2 := hbk.cell 2; have n3 := hbk.cell 3; have m0 := hbk.frozen 0; have m1 := hbk.frozen 1; have m2 := hbk.frozen 2; have m3 := hbk.frozen 3; simp only [List.getElem?_toArray, List.getElem?_cons_zero, List.getElem?_cons_succ] at n0 n1 n2 n3)
        | (go_at_call 141; refine (HC2.out _ (Hw0b.out.trans (Below.mono (B := W0.heap.size) (by (repeat' (first | assumption | exact Below.refl _ _ | exact Nat.le_refl _ | apply Below.drew | (refine Below.alloc ?_ ?_ _) | (refine Below.setCell ?_ ?_ _) | (simp; done) | (simp; omega)))) Hw0b.out.size))).mono ?_; rintro x w2 ⟨rfl, hb⟩; have hb2 : Below W0.heap.size W0 w2 := below_then (by (repeat' (first | assumption | exact Below.refl _ _ | exact Nat.le_refl _ | apply Below.drew | (refine Below.alloc ?_ ?_ _) | (refine Below.setCell ?_ ?_ _) | (simp; done) | (simp; omega)))) hb; have hk2 := HK.out w2 hb2; have hbk := T1.out.below hb T1.out.lt; have n0 := hbk.cell 0; have n1 := hbk.cell 1; have n2 := hbk.cell 2; have n3 := hbk.cell 3; have m0 := hbk.frozen 0; have m1 := hbk.frozen 1; have m2 := hbk.frozen 2; have m3 := hbk.frozen 3; simp only [List.getElem?_toArray, List.getElem?_cons_zero, List.getElem?_cons_succ] at n0 n1 n2 n3; have hbl : Bk (w2.alloc (.cells (u8s (zeros (H * 32))).toArray 5)) W0.heap.size 163 #[.int .u64 0, .slice none 0 0, .int .i64 0, .int .i64 0] := hbk.below ((Below.refl w2.heap.size w2).alloc (Nat.le_refl _) _) hbk.lt; have p0 := hbl.cell 0; have p1 := hbl.cell 1; have p2 := hbl.cell 2; have p3 := hbl.cell 3; have q0 := hbl.frozen 0; have q1 := hbl.frozen 1; have q2 := hbl.frozen 2; have q3 := hbl.frozen 3; simp only [List.getElem?_toArray, List.getElem?_cons_zero, List.getElem?_cons_succ] at p0 p1 p2 p3)
        | (go_at_call 141; refine (HC2.out _ (Hw0b.out.trans (Below.mono (B := W0.heap.size) (by (repeat' (first | assumption | exact Below.refl _ _ | exact Nat.le_refl _ | apply Below.drew | (refine Below.alloc ?_ ?_ _) | (refine Below.setCell ?_ ?_ _) | (simp; done) | (simp; omega)))) Hw0b.out.size))).mono ?_; rintro x w2 ⟨rfl, hb⟩; have hb2 : Below W0.heap.size W0 w2 := below_then (by (repeat' (first | assumption | exact Below.refl _ _ | exact Nat.le_refl _ | apply Below.drew | (refine Below.alloc ?_ ?_ _) | (refine Below.setCell ?_ ?_ _) | (simp; done) | (simp; omega)))) hb; have hk2 := HK.out w2 hb2; have hba := T2.out.below hb T2.out.lt)
        | (go_at_call 141; refine (HC2.out _ (Hw0b.out.trans (Below.mono (B := W0.heap.size) (by (repeat' (first | assumption | exact Below.refl _ _ | exact Nat.le_refl _ | apply Below.drew | (refine Below.alloc ?_ ?_ _) | (refine Below.setCell ?_ ?_ _) | (simp; done) | (simp; omega)))) Hw0b.out.size))).mono ?_; rintro x w2 ⟨rfl, hb⟩; have hb2 : Below W0.heap.size W0 w2 := below_then (by (repeat' (first | assumption | exact Below.refl _ _ | exact Nat.le_refl _ | apply Below.drew | (refine Below.alloc ?_ ?_ _) | (refine Below.setCell ?_ ?_ _) | (simp; done) | (simp; omega)))) hb; have hk2 := HK.out w2 hb2; have hbl : Bk ((w2.alloc (.cells #[.int .u64 0, .slice none 0 0, .int .i64 0, .int .i64 0] 163)).alloc (.cells (u8s (zeros (H * 32))).toArray 5)) w2.heap.size 163 #[.int .u64 0, .slice none 0 0, .int .i64 0, .int .i64 0] := (Bk.new w2 _ _).below ((Below.refl _ _).alloc (Nat.le_refl _) _) (by simp); have p0 := hbl.cell 0; have p1 := hbl.cell 1; have p2 := hbl.cell 2; have p3 := hbl.cell 3; have q0 := hbl.frozen 0; have q1 := hbl.frozen 1; have q2 := hbl.frozen 2; have q3 := hbl.frozen 3; simp only [List.getElem?_toArray, List.getElem?_cons_zero, List.getElem?_cons_succ] at p0 p1 p2 p3))
    all_goals
      rename_i hH
      obtain ⟨_, hbW⟩ := hH
      have hz2 := hb2.size
      have hnb : H * 32 ≤ maxLen := by unfold maxLen; omega
    · have h := two_newS w2 (u8s (zeros (H * 32))).toArray #[.int .u64 d.newest, .slice (some ⟨w2.heap.size, 0, none⟩) (H * 32) (H * 32), .int .i64 0, .int .i64 0] 5 163
      have HF := Lib.hid (newlog_mk hnb hbW h.2 h.1 (by omega) (by omega) (by omega))
      clear h hbW
      go_wp2_with fail
      go_meet
      exact HF.out
    · have h := two_newS w2 #[.int .u64 d.newest, .slice (some ⟨w2.heap.size + 1, 0, none⟩) (H * 32) (H * 32), .int .i64 0, .int .i64 0] (u8s (zeros (H * 32))).toArray 163 5
      have HF := Lib.hid (newlog_mk hnb hbW h.1 h.2 (by omega) (by omega) (by omega))
      clear h hbW
      go_wp2_with fail
      go_meet
      exact HF.out
    · have h := Bk.new w2 163 #[.int .u64 d.newest, .slice (some ⟨W0.heap.size, 0, none⟩) (H * 32) (H * 32), .int .i64 0, .int .i64 0]
      have h2 := hba.below ((Below.refl _ _).alloc (Nat.le_refl _) (.cells #[.int .u64 d.newest, .slice (some ⟨W0.heap.size, 0, none⟩) (H * 32) (H * 32), .int .i64 0, .int .i64 0] 163)) hba.lt
      have HF := Lib.hid (newlog_mk hnb hbW h h2 (by omega) (by omega) (by have := hba.lt; omega))
      clear h h2 hbW
      go_wp2_with fail
      go_meet
      exact HF.out
    · have h := bk_set4 hbk (.int .u64 d.newest) (.slice (some ⟨W0.heap.size, 0, none⟩) (H * 32) (H * 32)) (.int .i64 0) (.int .i64 0)
      have HF := Lib.hid (newlog_mk hnb hbW h.1 (hba.kp h.2 (by omega)) (by omega) (by omega) (by omega))
      clear h hbW
      go_wp2_with fail
      go_meet
      exact HF.out
    · have h := bk_set4 hbl (.int .u64 d.newest) (.slice (some ⟨w2.heap.size, 0, none⟩) (H * 32) (H * 32)) (.int .i64 0) (.int .i64 0)
      have h2 := (Bk.new w2 5 (u8s (zeros (H * 32))).toArray).kp h.2 (by have := hbk.lt; omega)
      have HF := Lib.hid (newlog_mk hnb hbW h.1 h2 (by omega) (by omega) (by have := hbk.lt; omega))
      clear h h2 hbW
      go_wp2_with fail
      go_meet
      exact HF.out
    · have h := bk_set4 hbk (.int .u64 d.newest) (.slice (some ⟨W0.heap.size + 1, 0, none⟩) (H * 32) (H * 32)) (.int .i64 0) (.int .i64 0)
      have HF := Lib.hid (newlog_mk hnb hbW h.1 (hba.kp h.2 (by omega)) (by omega) (by omega) (by omega))
      clear h hbW
      go_wp2_with fail
      go_meet
      exact HF.out
  case rest =>
    clear T1 T2 T3 T4 hmkH
    obtain ⟨g, ga, rfl, hlg, hb0, hg, hga⟩ := hcut
    have hcb := (HK.out _ hb0).1
    have hw1 := World.block_lt_of_cell? _ _ cb
    simp only at hw1
    have HS := Lib.hid (HSL.out wc g ga (Hw0b.out.trans (hb0.mono Hw0b.out.size)) (by omega) hcb hlg)
    have c1 := hlg.c1 (o := 0) rfl
    simp only [Nat.zero_add] at c1
    have Hb0 := Lib.hid hb0
    clear hlg hb0 hcb HSL HC2 HK cb
    go_wp2_with fail
    refine HS.out.mono ?_
    rintro x w3 ⟨rfl, hl3, hk3⟩
    have HFd := Lib.hid (find_meth g d.newest ga (H * 32) (H * 32) (d.area d.newest) w3 (by omega) hl3)
    have Hb3 : Hid (Below W0.heap.size W0 w3) := Hb0.out.trans (hk3.below (fun k e => by rw [e]; exact hga) Hb0.out.size)
    clear hl3 hk3 HS c1
    go_wp2_with fail
    refine HFd.out.mono ?_
    rintro x w4 ⟨rfl, hl4, hk4⟩
    have hb4 : Below W0.heap.size W0 w4 := Hb3.out.trans (hk4.below (fun k e => by rw [e]; exact hg) Hb3.out.size)
    have HFin : Hid (w4.ownsRow w.heap.size 5 1 (.slice (some ⟨ga, 0, none⟩) (H * 32) (H * 32)) (H * 32) (u8s (d.area d.newest)) ∧ Below W0.heap.size W0 w4) := ⟨own_base hl4.row (fun k e => by injection e with e; subst e; show w.heap.size ≤ ga; omega), hb4⟩
    have c0 := hl4.c0 (o := 0) rfl
    have c1 := hl4.c1 (o := 0) rfl
    have c2 := hl4.c2 (o := 0) rfl
    have c3 := hl4.c3 (o := 0) rfl
    simp only [Nat.zero_add] at c1 c2 c3
    have hsz1 : (w.alloc (.cells #[.pointer (some ⟨gd, 0, none⟩)] 50)).heap.size = w.heap.size + 1 := by simp
    have br0 := Br.out
    rw [hsz1] at br0
    have br := br0.below hb4 br0.lt
    have hw2 := br0.lt
    have r0 := br.cell 0
    have r1 := br.cell 1
    have r2 := br.cell 2
    have r3 := br.cell 3
    have f0 := br.frozen 0
    have f1 := br.frozen 1
    have f2 := br.frozen 2
    have f3 := br.frozen 3
    simp only [List.getElem?_toArray, List.getElem?_cons_zero, List.getElem?_cons_succ] at r0 r1 r2 r3
    have Hset := Lib.hid (bk_set4 br (.int .u64 d.newest) (.slice (some ⟨ga, 0, none⟩) (H * 32) (H * 32)) (.int .i64 ((findR (d.area d.newest)).2 : Nat)) (.int .i64 ((findR (d.area d.newest)).1.length : Nat)))
    have s0 := Hset.out.1.cell 0
    have s1 := Hset.out.1.cell 1
    have s2 := Hset.out.1.cell 2
    have s3 := Hset.out.1.cell 3
    simp only [List.getElem?_toArray, List.getElem?_cons_zero, List.getElem?_cons_succ] at s0 s1 s2 s3
    clear hl4 hk4 hb4 HFd br br0 hsz1 Hb3 Hb0
    go_wp2
    generalize ((((w4.setCell ⟨w.heap.size + 1, 0, none⟩ (.int .u64 d.newest)).setCell ⟨w.heap.size + 1, 1, none⟩ (.slice (some ⟨ga, 0, none⟩) (H * 32) (H * 32))).setCell ⟨w.heap.size + 1, 2, none⟩ (.int .i64 ((findR (d.area d.newest)).2 : Nat))).setCell ⟨w.heap.size + 1, 3, none⟩ (.int .i64 ((findR (d.area d.newest)).1.length : Nat))) = W5 at *
    try simp only [Exit.inBlock, Exit.then]
    refine bodyPost_ret (by simp [results, Tryz.results111, go_sem, s0, s1, s2, s3]; try rfl) rfl ?_
    have hk5 := Hset.out.2
    refine ⟨ga, H * 32, ?_, ?_, ?_⟩
    · rw [Hbytes.out]; rfl
    · rw [Hbytes.out]
      exact own_kp HFin.out.1 hk5 (fun k e e2 => by injection e with e; subst e; have e2 : ga = w.heap.size + 1 := e2; omega)
    · exact (Hw0b.out.trans (HFin.out.2.mono Hw0b.out.size)).trans (hk5.below (fun k e => by omega) (by have := HFin.out.2.size; omega))
end Go.Proofs.YtfepjgafamaegaaGreat

/- The program's log: what is behind the records is wiped. -/
namespace Go.Proofs.YtfepjgafamaegaaGreat
open Go.RowKit

set_option maxRecDepth 100000 in
set_option maxHeartbeats 400000 in
theorem equal_any (A A' : Option Addr) (n n' c c' B B' : Nat) (l l' : List UInt8) (w : World) (h : Rd w B A n l) (h' : Rd w B' A' n' l') :
    Calls Tryz.prog 146 #[.slice A n c, .slice A' n' c'] w fun e w' => e = .returned (.bool (l == l')) ∧ w = w' := by
  have k1 := h.str Tryz.underlying23 Tryz.underlying5 Tryz.underlying9 c
  have k2 := h'.str Tryz.underlying23 Tryz.underlying5 Tryz.underlying9 c'
  clear h h'
  go_enter Tryz.func146, Tryz.ntmps146
  go_wp2
  go_ret
  exact ⟨rfl, rfl⟩

/-- One sector is wiped, if it is not so already. -/
def Wipe1 (F : Nat → Prop) (gz gd : Nat) (d : Dk) (i : Nat) (s : List UInt8) (w : World) (e : Ending) (w' : World) : Prop :=
  (d.sec i = s ∧ e = .returned (.int .i64 0) ∧ Below w.heap.size w w') ∨
  (d.sec i ≠ s ∧ e = .returned (.int .i64 (d.write (i : Int) s).1) ∧ Bk w' gz 4 #[.bool true] ∧ ∃ F', PD w' F' gd (d.write (i : Int) s).2 ∧ Kp (fun k => F k ∨ k = gz) w w' ∧ ∀ k, F' k → F k ∨ w.heap.size ≤ k)
set_option maxRecDepth 100000 in
set_option maxHeartbeats 2000000 in
theorem wipe1_any (gb gz gd ga q cc i : Nat) (x : Int) (z : Bool) (s : List UInt8) (d : Dk) (F : Nat → Prop) (w : World) (hx : x = (i : Int)) (hd : d.down = false) (hi : i < d.safe.length) (hwl : d.waits.length ≤ 1000000000)
    (hr : Rd w w.heap.size (some ⟨ga, q, none⟩) 32 s) (hga : ¬ F ga) (hgz : ¬ F gz) (hgaz : ga ≠ gz) (hz : Bk w gz 4 #[.bool z])
    (hb : w.cell? ⟨gb, 0, none⟩ = some (.pointer (some ⟨gd, 0, none⟩))) (hbz : gb ≠ gz) (h : PD w F gd d) :
    Calls Tryz.prog 145 #[.int .i64 x, .slice (some ⟨ga, q, none⟩) 32 cc, .pointer (some ⟨gb, 0, none⟩), .pointer (some ⟨gz, 0, none⟩)] w (Wipe1 F gz gd d i s w) := by
  subst hx
  have HC := Lib.hid (psec_meth gd d F i w hd hi h)
  have HP := Lib.hid h
  have Hr := Lib.hid hr
  have Hz := Lib.hid hz
  obtain ⟨l, hl⟩ : ∃ l, d.sec i = l := ⟨_, rfl⟩
  have HL := Lib.hid hl
  rw [hl] at HC
  clear h hr hz hl
  by_cases hls : l = s
  · have Hls := Lib.hid hls
    have hbe : (s == l) = true := by rw [hls]; exact beq_self_eq_true _
    clear hls
    go_enter Tryz.func145, Tryz.ntmps145
    go_wp2_with fail
    refine HC.out.mono ?_
    rintro e w1 ⟨A, c, rfl, hr1, hc1, hc2, hb1⟩
    have HE := equal_any (some ⟨ga, q, none⟩) A 32 32 cc c w.heap.size w1.heap.size s l w1 (Hr.out.below hb1) hr1
    rw [hbe] at HE
    have HE := Lib.hid HE
    have Hb1 := Lib.hid hb1
    clear hr1 hb1 HC hb
    go_wp2_with fail
    refine HE.out.mono ?_
    rintro e w2 ⟨rfl, rfl⟩
    clear HE
    go_wp2
    go_ret
    exact (.inl ⟨HL.out.trans Hls.out, rfl, Hb1.out⟩ : Wipe1 F gz gd d i s w _ _)
  · have Hls := Lib.hid hls
    have hbe : (s == l) = false := by simpa using fun e => hls e.symm
    clear hls
    go_enter Tryz.func145, Tryz.ntmps145
    go_wp2_with fail
    refine HC.out.mono ?_
    rintro e w1 ⟨A, c, rfl, hr1, hc1, hc2, hb1⟩
    have HE := equal_any (some ⟨ga, q, none⟩) A 32 32 cc c w.heap.size w1.heap.size s l w1 (Hr.out.below hb1) hr1
    rw [hbe] at HE
    have HE := Lib.hid HE
    have hz1 := Hz.out.below hb1 Hz.out.lt
    have z0 := hz1.cell 0
    have zf := hz1.frozen 0
    simp only [List.getElem?_toArray, List.getElem?_cons_zero] at z0
    have hbl := World.block_lt_of_cell? _ _ hb
    have cb1 : (w1.setCell ⟨gz, 0, none⟩ (.bool true)).cell? ⟨gb, 0, none⟩ = some (.pointer (some ⟨gd, 0, none⟩)) :=
      cell_kp ((hb1.cell (p := ⟨gb, 0, none⟩) hbl).trans hb) (Kp.set_ (F := (· = gz)) (p := ⟨gz, 0, none⟩) rfl _) hbz
    have hk1 : Kp (fun k => k = gz) w (w1.setCell ⟨gz, 0, none⟩ (.bool true)) := (Kp.of_below hb1).trans (Kp.set_ (F := (· = gz)) (p := ⟨gz, 0, none⟩) rfl _)
    have hpd1 : PD (w1.setCell ⟨gz, 0, none⟩ (.bool true)) F gd d := HP.out.kp hk1 (fun k hf e => hgz (e ▸ hf))
    have HW := Lib.hid (write_any gd d F (i : Int) (some ⟨ga, q, none⟩) 32 cc s (w1.setCell ⟨gz, 0, none⟩ (.bool true)) (by omega) hwl ((Hr.out.kpA hk1 (fun ad e => by injection e with e; subst e; exact hgaz)).more hk1.size) (fun ad e hf => by injection e with e; subst e; exact hga hf) hpd1)
    have Hk1 := Lib.hid hk1
    have Hz1 := Lib.hid (hz1.set_ 0 (.bool true))
    clear hr1 hb1 HC hb hk1 hpd1 hz1
    go_wp2_with fail
    refine HE.out.mono ?_
    rintro e w2 ⟨rfl, rfl⟩
    clear HE
    go_wp2_with fail
    refine HW.out.mono ?_
    rintro e w3 ⟨rfl, F', hp3, hm3⟩
    have HFin : Hid (Bk w3 gz 4 #[.bool true] ∧ ∃ F', PD w3 F' gd (d.write (i : Int) s).2 ∧ Kp (fun k => F k ∨ k = gz) w w3 ∧ ∀ k, F' k → F k ∨ w.heap.size ≤ k) :=
      ⟨Hz1.out.kp hm3.kp hgz, F', hp3, (Hk1.out.mono fun k e => .inr e).trans (hm3.kp.mono fun k e => .inl e), fun k hf => (hm3.new k hf).imp id fun e => Nat.le_trans Hk1.out.size e⟩
    clear hp3 hm3 HW
    have Hne : Hid (d.sec i ≠ s) := fun e => Hls.out (HL.out.symm.trans e)
    obtain ⟨r, hr⟩ : ∃ r, (d.write (i : Int) s).1 = r := ⟨_, rfl⟩
    have Hrr := Lib.hid hr
    rw [hr]
    clear hr
    go_wp2
    go_ret
    refine (.inr ⟨Hne.out, ?_, HFin.out⟩ : Wipe1 F gz gd d i s w _ _)
    rw [Hrr.out]
    rfl
end Go.Proofs.YtfepjgafamaegaaGreat

/- The program's log: an area is wiped behind its records. -/
namespace Go.Proofs.YtfepjgafamaegaaGreat
open Go.RowKit

theorem wipe_same {b c : List UInt8} {base i k : Nat} {z : Bool} {d : Dk} (h : chunk b i = chunk c i) : wipeS b c base i (k + 1) z d = wipeS b c base (i + 1) k z d := if_pos h
theorem wipe_next {b c : List UInt8} {base i k : Nat} {z : Bool} {d : Dk} (h : chunk b i ≠ chunk c i) (h2 : (d.write ((base + i : Nat) : Int) (chunk c i)).1 = 0) : wipeS b c base i (k + 1) z d = wipeS b c base (i + 1) k true (d.write ((base + i : Nat) : Int) (chunk c i)).2 := by
  show (if _ then _ else if _ then _ else _) = _
  rw [if_neg h, if_pos h2]
theorem wipe_stop {b c : List UInt8} {base i k : Nat} {z : Bool} {d : Dk} (h : chunk b i ≠ chunk c i) (h2 : (d.write ((base + i : Nat) : Int) (chunk c i)).1 ≠ 0) : wipeS b c base i (k + 1) z d = ((d.write ((base + i : Nat) : Int) (chunk c i)).1, true, (d.write ((base + i : Nat) : Int) (chunk c i)).2) := by
  show (if _ then _ else if _ then _ else _) = _
  rw [if_neg h, if_neg h2]
theorem rd_chunk {w : World} {ga n : Nat} {l : List UInt8} (h : Rd w w.heap.size (some ⟨ga, 0, none⟩) n l) (m : Nat) (hm : m * 32 + 32 ≤ n) : Rd w w.heap.size (some ⟨ga, m * 32, none⟩) 32 (chunk l m) := rd_part h (m * 32) 32 hm

structure Wst (w wr : World) (F : Nat → Prop) (gz gd B H iend i0 m gk nd : Nat) (b c : List UInt8) (z : Bool) (d : Dk) (F' : Nat → Prop) (d' : Dk) (z' : Bool) : Prop where
  bz : Bk wr gz 4 #[.bool z']
  pd : PD wr F' gd d'
  kp : Kp (fun k => F k ∨ k = gz) w wr
  new : ∀ k, F' k → F k ∨ w.heap.size ≤ k
  up : d'.down = false
  len : d'.safe.length = nd
  waits : d'.waits.length ≤ 900000000 + (m - i0)
  spec : wipeS b c B i0 (iend - i0) z d = wipeS b c B m gk z' d'
  secs : ∀ j, m ≤ j → j < H → d'.sec (B + j) = chunk b j

/-- What is left of a wipe. -/
def Wiped (w : World) (F : Nat → Prop) (gz gd : Nat) (r : Int × Bool × Dk) (e : Ending) (w' : World) : Prop := e = .returned (.int .i64 r.1) ∧ Bk w' gz 4 #[.bool r.2.1] ∧ ∃ F', PD w' F' gd r.2.2 ∧ Kp (fun k => F k ∨ k = gz) w w' ∧ ∀ k, F' k → F k ∨ w.heap.size ≤ k
set_option maxRecDepth 100000 in
set_option maxHeartbeats 4000000 in
theorem sectors_wipe (g : Nat) (e ga c en cn H : Nat) (area old : List UInt8) (gb gz gd : Nat) (z : Bool) (d : Dk) (F : Nat → Prop) (w : World)
    (hH : H = d.half) (h6 : 6 ≤ d.safe.length) (hd : d.down = false) (hwl : d.waits.length ≤ 900000000) (hen : en ≤ H * 32) (hold : old = d.area e)
    (hl : LgAt w g 163 [] [] e ga (H * 32) c en cn area) (h : PD w F gd d) (hg : ¬ F g) (hga : ¬ F ga) (hgz : ¬ F gz) (hz : Bk w gz 4 #[.bool z])
    (hb : w.cell? ⟨gb, 0, none⟩ = some (.pointer (some ⟨gd, 0, none⟩))) (hgb : ¬ F gb) (n1 : gb ≠ gz) (n2 : g ≠ gz) (n3 : ga ≠ gz) :
    Calls Tryz.prog 97 #[.pointer (some ⟨g, 0, none⟩), .int .i64 en, .int .i64 ((H * 32 : Nat) : Int), .func (.func 145) #[] #[.pointer (some ⟨gb, 0, none⟩), .pointer (some ⟨gz, 0, none⟩)]] w
      (Wiped w F gz gd (wipeS old area (d.base e) (en / 32) (H - en / 32) z d)) := by
  have hlen := hl.len
  obtain ⟨hb1, hb2, hb3⟩ := Dk.base_le h6 e
  have hs2048 := h.len
  have hok := h.ok
  have hHb : H ≤ 1023 := by rw [hH]; unfold Dk.half halfN; omega
  have hBH : d.base e = 2 + (e % 2) * H := by rw [hH]; rfl
  have hsec0 : ∀ j, 0 ≤ j → j < H → d.sec (d.base e + j) = chunk old j := fun j _ hj => by
    rw [hold]
    have : d.area e = secsFrom d (d.base e) H := by rw [hH]; rfl
    rw [this, secsFrom_chunk (d.base e) H (fun j hj => Dk.sec_len hok (by omega)) j hj]
  rw [← hH] at hb2
  obtain ⟨B, hB, hB3⟩ : ∃ B, d.base e = B ∧ (B = 2 ∧ e % 2 = 0 ∨ B = 2 + H ∧ e % 2 = 1) := ⟨_, rfl, by
    rw [hBH]
    rcases Nat.mod_two_eq_zero_or_one e with h2 | h2 <;> rw [h2] <;> omega⟩
  rw [hB] at hb1 hb2 hsec0 ⊢
  have HLW : Hid (∀ w', Kp (fun k => F k ∨ k = gz) w w' → LgAt w' g 163 [] [] e ga (H * 32) c en cn area ∧ w'.cell? ⟨gb, 0, none⟩ = some (.pointer (some ⟨gd, 0, none⟩))) := fun w' hk =>
    ⟨hl.kp hk (fun hf => hf.elim hg n2) (fun hf => hf.elim hga n3), cell_kp hb hk (fun hf => hf.elim hgb n1)⟩
  have HC : Hid (∀ q, Calls Tryz.prog 128 #[.pointer (some ⟨g, 0, none⟩)] (w.drewN q) fun x w' => x = .returned (.int .i64 ((e % 2 : Nat) : Int)) ∧ w' = w.drewN q) := fun q => (side_meth g 0 e (w.drewN q) (hl.c0 rfl)).mono fun _ _ ⟨h1, h2⟩ => ⟨h1, h2.symm⟩
  obtain ⟨i0, hi0⟩ : ∃ i0, en / 32 = i0 := ⟨_, rfl⟩
  have hi0i : (en : Int) / 32 = (i0 : Int) := by omega
  have hi0b : (i0 : Int) ≤ 40000 := by omega
  rw [hi0]
  have hw1 : w.heap.size ≤ w.heap.size := Nat.le_refl _
  have hltg := hl.lt
  have hbl := World.block_lt_of_cell? _ _ hb
  simp only at hbl
  have HR1 : Hid (∀ wr m gk (x : Int) F' d' z', Wst w wr F gz gd B H H i0 m gk d.safe.length old area z d F' d' z' → i0 ≤ m → m < H → x = ((B + m : Nat) : Int) →
      Calls Tryz.prog 145 #[.int .i64 x, .slice (some ⟨ga, m * 32, none⟩) ((m + 1) * 32 - m * 32) (c - m * 32), .pointer (some ⟨gb, 0, none⟩), .pointer (some ⟨gz, 0, none⟩)] wr (Wipe1 F' gz gd d' (B + m) (chunk area m) wr)) := fun wr m gk x F' d' z' hs him hm hx => by
    obtain ⟨h1, h2⟩ := HLW.out wr hs.kp
    rw [show (m + 1) * 32 - m * 32 = 32 by omega]
    have nF : ∀ y, ¬ F y → y < w.heap.size → ¬ F' y := fun y hy hlt hf => by
      rcases hs.new y hf with h | h
      · exact hy h
      · omega
    have hzlt := hz.lt
    exact wipe1_any gb gz gd ga (m * 32) _ (B + m) x z' (chunk area m) d' F' wr hx hs.up (by rw [hs.len]; omega) (by have := hs.waits; omega) (rd_chunk h1.rd m (by omega)) (nF ga hga hltg.2) (nF gz hgz hzlt) n3 hs.bz h2 n1 hs.pd
  have HS0 : Hid (Wst w w F gz gd B H H i0 i0 (H - i0) d.safe.length old area z d F d z) := ⟨hz, h, Kp.refl _ _, fun k hk => .inl hk, hd, rfl, by omega, rfl, fun j hj hj2 => hsec0 j (Nat.zero_le _) hj2⟩
  have c1 := hl.c1 (o := 0) rfl
  have hcap : H * 32 ≤ c ∧ c ≤ 9223372036854775807 := ⟨hlen.2.1, hlen.2.2⟩
  have Hal := Lib.hid hlen.1
  have Hi0 := Lib.hid hi0
  have hi0H : i0 ≤ H := by omega
  generalize d.safe.length = nd at *
  clear hl h hlen hok hBH hB hsec0 hs2048 hi0 hltg hbl hb hH hold
  rcases hB3 with ⟨hB3, h2⟩ | ⟨hB3, h2⟩
  all_goals
    rw [h2] at HC
    have HB3 := Lib.hid hB3
    clear h2 hB3
    go_enter Tryz.func97, Tryz.ntmps97
    go_wp2_with fail
    go_quiet ((go_at_call 128; exact Calls.quiet_of_same (HC.out _)))
    go_wp2
    clear HC
    go_loopg [10] (H - i0) (fun gk i wr => ∃ m : Nat, i = .int .i64 m ∧ i0 ≤ m ∧ m + gk = H ∧ Hid (∃ F' d' z', Wst w wr F gz gd B H H i0 m gk nd old area z d F' d' z'))
    case atStart => exact ⟨i0, rfl, by omega, by omega, ⟨F, d, z, { HS0.out with bz := HS0.out.bz, pd := PD.kp (G := fun _ => False) HS0.out.pd (Kp.drewN _ w _) (fun _ _ h => h), kp := Kp.drewN _ w _ }⟩⟩
    case round =>
      obtain ⟨m, rfl, him, hk, HR⟩ := hrel
      obtain ⟨F1, d1, z1, hs⟩ := HR.out
      by_cases hkn : m < H
      · have c1 := (HLW.out wr hs.kp).1.c1 (o := 0) rfl
        have hmto : (m : Int) * 32 < (H : Int) * 32 := by omega
        have hmb : m + 1 ≤ H := by omega
        have HC1 := Lib.hid (fun x hx => HR1.out wr m gk x F1 d1 z1 hs him hkn hx)
        have Hs := Lib.hid hs
        clear hs HR
        obtain ⟨k', rfl⟩ : ∃ k', gk = k' + 1 := ⟨gk - 1, by omega⟩
        go_wp2_with fail
        refine (HC1.out _ (by have := HB3.out; omega)).mono ?_
        rintro x w2 hpost
        have hsm := Hs.out.secs m (Nat.le_refl _) hkn
        rcases hpost with ⟨q1, rfl, hbel⟩ | ⟨q1, rfl, hbz, F2, hp2, hk2, hn2⟩
        · rw [hsm] at q1
          have HN : Hid (Wst w w2 F gz gd B H H i0 (m + 1) k' nd old area z d F1 d1 z1) :=
            ⟨Hs.out.bz.below hbel Hs.out.bz.lt, Hs.out.pd.below hbel, Hs.out.kp.trans (Kp.of_below hbel), Hs.out.new, Hs.out.up, Hs.out.len, by have := Hs.out.waits; omega, by rw [Hs.out.spec, wipe_same q1], fun j hj hj2 => Hs.out.secs j (by omega) hj2⟩
          clear hbel HC1 hsm q1
          go_wp2
          go_roundg k'
          case measure => omega
          case rel => exact ⟨m + 1, by go_num, by omega, by omega, ⟨_, _, _, HN.out⟩⟩
        · rw [hsm] at q1
          have hkk : Kp (fun k => F k ∨ k = gz) w w2 := Hs.out.kp.trans' hk2 fun i hi => by
            rcases hi with hi | hi
            · rcases Hs.out.new i hi with h | h
              · exact .inl (.inl h)
              · exact .inr h
            · exact .inl (.inr hi)
          have hnn : ∀ k, F2 k → F k ∨ w.heap.size ≤ k := fun k hf => by
            rcases hn2 k hf with h | h
            · exact Hs.out.new k h
            · exact .inr (Nat.le_trans Hs.out.kp.size h)
          by_cases hr : (d1.write ((B + m : Nat) : Int) (chunk area m)).1 = 0
          · have hw := write_ok hr
            have hww := dwrite_waits d1 ((B + m : Nat) : Int) (chunk area m)
            have HN : Hid (Wst w w2 F gz gd B H H i0 (m + 1) k' nd old area z d F2 (d1.write ((B + m : Nat) : Int) (chunk area m)).2 true) :=
              ⟨hbz, hp2, hkk, hnn, hw.2.2.2.2.2, by rw [Dk.write_len]; exact Hs.out.len, by have := Hs.out.waits; omega, by rw [Hs.out.spec, wipe_next q1 hr], fun j hj hj2 => by rw [sec_write hr, if_neg (by omega)]; exact Hs.out.secs j (by omega) hj2⟩
            rw [hr]
            clear hbz hp2 hk2 hn2 hkk hnn hw hww HC1 hsm q1 hr
            go_wp2
            go_roundg k'
            case measure => omega
            case rel => exact ⟨m + 1, by go_num, by omega, by omega, ⟨_, _, _, HN.out⟩⟩
          · have hne : ((d1.write ((B + m : Nat) : Int) (chunk area m)).1 != 0) = true := by simpa using hr
            have hsp : wipeS old area B i0 (H - i0) z d = _ := Hs.out.spec.trans (wipe_stop q1 hr)
            have HFin : Hid (Bk w2 gz 4 #[.bool (wipeS old area B i0 (H - i0) z d).2.1] ∧ ∃ F', PD w2 F' gd (wipeS old area B i0 (H - i0) z d).2.2 ∧ Kp (fun k => F k ∨ k = gz) w w2 ∧ ∀ k, F' k → F k ∨ w.heap.size ≤ k) := by
              rw [hsp]; exact ⟨hbz, F2, hp2, hkk, hnn⟩
            have Hr : Hid ((wipeS old area B i0 (H - i0) z d).1 = (d1.write ((B + m : Nat) : Int) (chunk area m)).1) := by rw [hsp]; rfl
            clear hbz hp2 hk2 hn2 hkk hnn HC1 hsm q1 hr hsp
            generalize (d1.write ((B + m : Nat) : Int) (chunk area m)).1 = r at *
            go_wp2
            go_ret
            refine (⟨?_, HFin.out⟩ : Wiped w F gz gd _ _ _)
            rw [Hr.out]
            rfl
      · obtain rfl : m = H := by omega
        obtain rfl : gk = 0 := by omega
        have hsp : wipeS old area B i0 (m - i0) z d = (0, z1, d1) := hs.spec
        have HFin : Hid (Bk wr gz 4 #[.bool (wipeS old area B i0 (m - i0) z d).2.1] ∧ ∃ F', PD wr F' gd (wipeS old area B i0 (m - i0) z d).2.2 ∧ Kp (fun k => F k ∨ k = gz) w wr ∧ ∀ k, F' k → F k ∨ w.heap.size ≤ k) := by
          rw [hsp]; exact ⟨hs.bz, F1, hs.pd, hs.kp, hs.new⟩
        have Hr : Hid ((wipeS old area B i0 (m - i0) z d).1 = 0) := by rw [hsp]; rfl
        have hmb : (m : Int) ≤ 1024 := by omega
        clear hs HR hsp
        go_wp2
        go_ret
        refine (⟨?_, HFin.out⟩ : Wiped w F gz gd _ _ _)
        rw [Hr.out]
        rfl
end Go.Proofs.YtfepjgafamaegaaGreat

/- The program's log: wipe. -/
namespace Go.Proofs.YtfepjgafamaegaaGreat
open Go.RowKit

theorem run_clear_at {P : Program} {t e : TypeId} {i : TypeInfo} {z : Value} (ht : P.underlying t = some (.slice e)) (hi : P.info? e = some i) (hz : i.zero = some z) (h1 : ∀ u ∈ z.cells, u.oneCell' = true) (ty : TypeId) (g off n c : Nat) (h0 : 0 < n) (w : World)
    (hth : w.there g off (n * z.cells.size)) : (Builtin.clear_ #[t] ty #[.slice (some ⟨g, off, none⟩) n c]).run P w = .ok (.tuple #[]) (w.setCells g off (Builtin.zeroCells z.cells n).toList) := by
  have hl : (Builtin.zeroCells z.cells n).toList.length = n * z.cells.size := by simp [Builtin.zeroCells]
  have hst := run_storeCells_cells (P := P) g off (Builtin.zeroCells z.cells n).toList 0 w (by rw [hl]; intro j hj; simpa using (hth j hj).1) (by rw [hl]; intro j hj; simpa using (hth j hj).2) (by
    intro u hu
    simp only [Builtin.zeroCells, Array.toList_map, List.mem_map] at hu
    obtain ⟨k, hk, rfl⟩ := hu
    have hk' : k < n * z.cells.size := by simpa using hk
    have hpos : 0 < z.cells.size := by
      rcases Nat.eq_zero_or_pos z.cells.size with h | h
      · rw [h, Nat.mul_zero] at hk'; omega
      · exact h
    have hlt := Nat.mod_lt k hpos
    rw [getElem!_pos z.cells _ hlt]
    exact h1 _ (Array.getElem_mem hlt))
  unfold Builtin.clear_
  obtain ⟨m, rfl⟩ : ∃ m, n = m + 1 := ⟨n - 1, by omega⟩
  simp [run_underlying ht, zeroValue, typeInfo, hi, hz, hst, Result.andThen]
/-- clear of the end of a row. -/
theorem wpList_clear_at {P : Program} {w : World} {ops : Array Oper} {rest : List Oper} {o : Oper} {a : Act} {Q : Exit → Act → World → Prop} (hgd : o.guard = none) (s : Operand) (t : TypeId)
    (ho : o.op = .call { callee := .builtin .clear, args := #[s], argTypes := #[t] }) (e : TypeId) (i : TypeInfo) (z : Value) (ht : P.underlying t = some (.slice e)) (hi : P.info? e = some i) (hz : i.zero = some z) (hzs : z.cells.size = 1)
    (h1 : ∀ u ∈ z.cells, u.oneCell' = true) (g off n c : Nat) (h0 : 0 < n) (hs : a.eval s = .slice (some ⟨g, off, none⟩) n c) (hth : w.there g off n) (zs : List Value) (hzz : (Builtin.zeroCells z.cells n).toList = zs)
    (h : wpList P ops Q rest (a.put o.dst (.tuple #[])) (w.setCells g off zs)) : wpList P ops Q (o :: rest) a w := by
  refine wpList_plain hgd fun _ hK => ?_
  unfold Oper.wp execOp
  simp only [ho, resolve, invoke, builtin, Sem.run_bind, Sem.run_pure, Result.andThen_ok, List.map_toArray, List.map_cons, List.map_nil, hs]
  rw [run_clear_at ht hi hz h1 o.type g off n c h0 w (by rw [hzs, Nat.mul_one]; exact hth), hzz]
  exact hK _ _ h
theorem wpList_clear0 {P : Program} {w : World} {ops : Array Oper} {rest : List Oper} {o : Oper} {a : Act} {Q : Exit → Act → World → Prop} (hgd : o.guard = none) (s : Operand) (t : TypeId)
    (ho : o.op = .call { callee := .builtin .clear, args := #[s], argTypes := #[t] }) (e : TypeId) (ht : P.underlying t = some (.slice e)) (A : Option Addr) (n c : Nat) (hs : a.eval s = .slice A n c) (hn : n = 0)
    (h : wpList P ops Q rest (a.put o.dst (.tuple #[])) w) : wpList P ops Q (o :: rest) a w := by
  subst hn
  refine wpList_plain hgd fun _ hK => ?_
  unfold Oper.wp execOp
  simp only [ho, resolve, invoke, builtin, Sem.run_bind, Sem.run_pure, Result.andThen_ok, List.map_toArray, List.map_cons, List.map_nil, hs]
  rw [run_clear_none ht]
  exact hK _ _ h
theorem zeroCells_u8 (n : Nat) : (Builtin.zeroCells (Value.int .u8 0).cells n).toList = u8s (zeros n) := by
  rw [zeros_cells]
  simp only [Builtin.zeroCells, Array.toList_map]
  apply List.ext_getElem?
  intro k
  simp [List.getElem?_replicate, Value.cells]
  by_cases h : k < n
  · simp [h, Nat.mod_one]
  · simp [h]

/-- What is left when an area was wiped. -/
def afterW (r : Int × Bool × Dk) : Int × Dk := if r.1 ≠ 0 ∨ r.2.1 = false then (r.1, r.2.2) else r.2.2.sync

theorem wipe_waits (b c : List UInt8) (base : Nat) : ∀ (k i : Nat) (z : Bool) (d : Dk), (wipeS b c base i k z d).2.2.waits.length ≤ d.waits.length + k := by
  intro k
  induction k with
  | zero => intro i z d; exact Nat.le_refl _
  | succ k ih =>
    intro i z d
    by_cases h : chunk b i = chunk c i
    · rw [wipe_same h]; have := ih (i + 1) z d; omega
    · have hw := dwrite_waits d ((base + i : Nat) : Int) (chunk c i)
      by_cases h2 : (d.write ((base + i : Nat) : Int) (chunk c i)).1 = 0
      · rw [wipe_next h h2]; have := ih (i + 1) true (d.write ((base + i : Nat) : Int) (chunk c i)).2; omega
      · rw [wipe_stop h h2]; simp only; omega
theorem kp_mix {F : Nat → Prop} {ga gz : Nat} {w a b : World} (h1 : Kp (· = ga) w a) (h2 : Kp (fun k => F k ∨ k = gz) a b) (h : w.heap.size ≤ gz) : Kp (fun k => F k ∨ k = ga) w b :=
  (h1.mono fun k e => .inr e).trans' h2 fun i hi => hi.elim (fun h => .inl (.inl h)) fun e => .inr (by omega)

set_option maxRecDepth 100000 in
set_option maxHeartbeats 4000000 in
theorem wipe_meth (g e ga c H : Nat) (area : List UInt8) (rs : List (List UInt8)) (gd : Nat) (d : Dk) (F : Nat → Prop) (w : World)
    (hH : H = d.half) (h6 : 6 ≤ d.safe.length) (hd : d.down = false) (hwl : d.waits.length ≤ 900000000) (hold : area = d.area e) (hen : usedF rs ≤ H * 32) (htk : framesF rs = area.take (usedF rs))
    (hl : LgAt w g 163 [] [] e ga (H * 32) c (usedF rs) rs.length area) (h : PD w F gd d) (hg : ¬ F g) (hga : ¬ F ga) :
    Calls Tryz.prog 112 #[.pointer (some ⟨g, 0, none⟩), .pointer (some ⟨gd, 0, none⟩)] w fun x w' => x = .returned (.int .i64 (afterW (wipeS area (fullF (H * 32) rs) (d.base e) 0 H false d)).1) ∧
      LgAt w' g 163 [] [] e ga (H * 32) c (usedF rs) rs.length (fullF (H * 32) rs) ∧ ∃ F', PD w' F' gd (afterW (wipeS area (fullF (H * 32) rs) (d.base e) 0 H false d)).2 ∧ Kp (fun k => F k ∨ k = ga) w w' ∧ ∀ k, F' k → F k ∨ w.heap.size ≤ k := by
  obtain ⟨i0, hi0, hz0, hz1, hz2⟩ := info_parts Tryz.infoU8
  have hlen := hl.len
  have hba := (Below.refl w.heap.size w).alloc (Nat.le_refl _) (.cells #[.pointer (some ⟨gd, 0, none⟩)] 50)
  have hl1 := hl.below hba
  have hp1 := h.below hba
  have hb1 := Bk.new w 50 #[.pointer (some ⟨gd, 0, none⟩)]
  have hz1' : (w.alloc (.cells #[.pointer (some ⟨gd, 0, none⟩)] 50)).heap.size = w.heap.size + 1 := by simp
  have hgb : ¬ F w.heap.size := fun hf => by have := h.lt _ hf; omega
  have hltg := hl.lt
  have hskip : wipeS area (fullF (H * 32) rs) (d.base e) 0 H false d = wipeS area (fullF (H * 32) rs) (d.base e) (usedF rs / 32) (H - usedF rs / 32) false d := by
    have := wipe_skip (b := area) (c := fullF (H * 32) rs) (base := d.base e) (z := false) (d := d) (usedF rs / 32) 0 H (Nat.zero_le _) (by omega) (fun j _ hj => chunk_same (by rw [full_take, htk]) hj)
    rwa [Nat.zero_add] at this
  rw [hskip]
  have HBA := Lib.hid hba
  have HFlt := Lib.hid h.lt
  have hfl : (fullF (H * 32) rs) = area.take (usedF rs) ++ zeros (H * 32 - usedF rs) := by unfold fullF; rw [htk]
  have Hfl := Lib.hid hfl
  have hHb : H ≤ 1023 := by have := hp1.len; rw [hH]; unfold Dk.half halfN; omega
  have hlen := hl.len
  have hcap : H * 32 ≤ c ∧ c ≤ 9223372036854775807 := ⟨hlen.2.1, hlen.2.2⟩
  have HSW : Hid (∀ (W : World) (gz : Nat), LgAt W g 163 [] [] e ga (H * 32) c (usedF rs) rs.length (fullF (H * 32) rs) → PD W F gd d → Bk W w.heap.size 50 #[.pointer (some ⟨gd, 0, none⟩)] → Bk W gz 4 #[.bool false] → w.heap.size < gz →
      Calls Tryz.prog 97 #[.pointer (some ⟨g, 0, none⟩), .int .i64 (usedF rs : Nat), .int .i64 ((H : Int) * 32), .func (.func 145) #[] #[.pointer (some ⟨w.heap.size, 0, none⟩), .pointer (some ⟨gz, 0, none⟩)]] W (Wiped W F gz gd (wipeS area (fullF (H * 32) rs) (d.base e) (usedF rs / 32) (H - usedF rs / 32) false d))) := fun W gz q1 q2 q3 q4 q5 => by
    have := sectors_wipe g e ga c (usedF rs) rs.length H (fullF (H * 32) rs) area w.heap.size gz gd false d F W hH h6 hd hwl hen hold q1 q2 hg hga (fun hf => by have := h.lt _ hf; omega) q4 (q3.cell 0) hgb (by omega) (by omega) (by omega)
    rwa [show ((H * 32 : Nat) : Int) = (H : Int) * 32 by omega] at this
  clear hl h hba hskip hfl htk hH hold hlen
  have hone : ∀ u ∈ (Value.int .u8 0).cells, u.oneCell' = true := by intro u hu; simp [Value.cells] at hu; subst hu; rfl
  have c1 := hl1.c1 (o := 0) rfl
  have c2 := hl1.c2 (o := 0) rfl
  simp only [Nat.zero_add] at c1 c2
  generalize hu : usedF rs = en at *
  have Hu := Lib.hid hu
  clear hu
  by_cases hlt : en < H * 32
  · go_enter Tryz.func112, Tryz.ntmps112
    go_wp2
    generalize w.alloc (.cells #[.pointer (some ⟨gd, 0, none⟩)] 50) = W1 at *
    have HL1 := Lib.hid hl1
    have HP1 := Lib.hid hp1
    have HB1 := Lib.hid hb1
    clear hl1 hp1 hb1
    have HL2 := Lib.hid (HL1.out.below (w' := W1.drew) (Below.refl _ _).drew)
    have HP2 := Lib.hid (HP1.out.below (w' := W1.drew) (Below.refl _ _).drew)
    have HB2 : Hid (Bk W1.drew w.heap.size 50 #[.pointer (some ⟨gd, 0, none⟩)]) := HB1.out
    have HW2 : Hid (Below w.heap.size w W1.drew) := HBA.out.trans ((Below.refl W1.heap.size W1).drew.mono HBA.out.size)
    go_still_tail 8, (by kernel_rfl)
    change wpList _ _ _ _ _ W1.drew
    clear HL1 HP1 HB1 HBA
    generalize W1.drew = W2 at *
    go_wp2_with ((refine wpList_clear_at rfl _ _ rfl 5 i0 (.int .u8 0) Tryz.underlying23 hi0 hz0 rfl hone ga en (H * 32 - en) (c - en) (by omega) rfl (own_there HL2.out.row _ _ (by omega)) _ (zeroCells_u8 _) ?_))
    have hal := HL2.out.len
    have HL3 := HL2.out.lay en (zeros (H * 32 - en)) (by rw [zeros_len]; omega)
    have hdr : area.drop (en + (zeros (H * 32 - en)).length) = [] := List.drop_eq_nil_of_le (by rw [zeros_len, hal.1]; omega)
    rw [hdr, List.append_nil, ← Hfl.out] at HL3
    have hk3 : Kp (· = ga) W2 (W2.setCells ga en (u8s (zeros (H * 32 - en)))) := Kp.sets (F := (· = ga)) rfl _ _ _
    have HP3 := HP2.out.kp hk3 (fun k hf e => hga (e ▸ hf))
    have hnb : w.heap.size ≠ ga := by omega
    have HB3 := HB2.out.kp hk3 hnb
    have hW3 := (Kp.of_below (F := (· = ga)) HW2.out).trans hk3
    generalize W2.setCells ga en (u8s (zeros (H * 32 - en))) = W3 at *
    have hba := (Below.refl W3.heap.size W3).alloc (Nat.le_refl _) (.cells #[.bool false] 4)
    have HL4 := Lib.hid (HL3.below hba)
    have HP4 := Lib.hid (HP3.below hba)
    have HB4 := Lib.hid (HB3.below hba HB3.lt)
    have HZ4 := Lib.hid (Bk.new W3 4 #[.bool false])
    have HW4 : Hid (Kp (· = ga) w (W3.alloc (.cells #[.bool false] 4))) := hW3.trans (Kp.of_below hba)
    have hzlt : w.heap.size < W3.heap.size := HB3.lt
    clear HL3 HP3 HB3 hba hW3 HL2 HP2 HB2 HW2 hk3 hdr
    generalize hgz : W3.heap.size = gz at *
    generalize W3.alloc (.cells #[.bool false] 4) = W4 at *
    have d1 := HL4.out.c1 (o := 0) rfl
    have d2 := HL4.out.c2 (o := 0) rfl
    simp only [Nat.zero_add] at d1 d2
    have HC := Lib.hid (HSW.out W4.drew gz (HL4.out.below (Below.refl _ _).drew) (HP4.out.below (Below.refl _ _).drew) HB4.out HZ4.out hzlt)
    have HL5 := Lib.hid (HL4.out.below (w' := W4.drew) (Below.refl _ _).drew)
    have HW5 : Hid (Kp (· = ga) w W4.drew) := HW4.out.trans (Kp.drew _ _)
    have HB5 : Hid (Bk W4.drew w.heap.size 50 #[.pointer (some ⟨gd, 0, none⟩)]) := HB4.out
    go_still_tail 11, (by kernel_rfl)
    change wpList _ _ _ _ _ W4.drew
    clear HL4 HP4 HB4 HZ4 HW4 HSW
    generalize W4.drew = W5 at *
    go_wp2_with fail
    refine HC.out.mono ?_
    rintro x w6 ⟨rfl, hbz, F', hp6, hk6, hn6⟩
    have hwt := wipe_waits area (fullF (H * 32) rs) (d.base e) (H - en / 32) (en / 32) false d
    have hlg6 : LgAt w6 g 163 [] [] e ga (H * 32) c en rs.length (fullF (H * 32) rs) := HL5.out.kp hk6 (fun hf => hf.elim hg (by omega)) (fun hf => hf.elim hga (by omega))
    have hnF : ∀ k, F' k → F k ∨ w.heap.size ≤ k := fun k hf => (hn6 k hf).imp id fun h => Nat.le_trans HW5.out.size h
    have hkk := kp_mix HW5.out hk6 (by omega)
    have b6 : w6.cell? ⟨w.heap.size, 0, none⟩ = some (.pointer (some ⟨gd, 0, none⟩)) := (HB5.out.kp hk6 (fun hf => hf.elim hgb (by omega))).cell 0
    have z6 := hbz.cell 0
    simp only [List.getElem?_toArray, List.getElem?_cons_zero] at z6
    clear HC HL5 HB5 hk6 hn6 hbz
    obtain ⟨⟨r1, z, d1⟩, hr⟩ : ∃ r, wipeS area (fullF (H * 32) rs) (d.base e) (en / 32) (H - en / 32) false d = r := ⟨_, rfl⟩
    rw [hr] at hp6 hwt z6
    rw [hr]
    have Hr := Lib.hid hr
    simp only at hp6 hwt z6 ⊢
    clear hr
    by_cases h1 : r1 = 0
    · subst h1
      cases z with
      | false =>
        have HFin : Hid (LgAt w6 g 163 [] [] e ga (H * 32) c en rs.length (fullF (H * 32) rs) ∧ ∃ F', PD w6 F' gd (afterW (0, false, d1)).2 ∧ Kp (fun k => F k ∨ k = ga) w w6 ∧ ∀ k, F' k → F k ∨ w.heap.size ≤ k) := ⟨hlg6, F', hp6, hkk, hnF⟩
        clear hlg6 hp6 hkk hnF
        go_wp2
        go_ret
        rw [Hr.out]
        exact ⟨rfl, HFin.out⟩
      | true =>
        have HSy := Lib.hid (sync_any gd d1 F' w6 (by omega) hp6)
        have HN : Hid (∀ w7 F7, PD w7 F7 gd d1.sync.2 → Mv F' F7 w6 w7 → LgAt w7 g 163 [] [] e ga (H * 32) c en rs.length (fullF (H * 32) rs) ∧ ∃ F', PD w7 F' gd (afterW (0, true, d1)).2 ∧ Kp (fun k => F k ∨ k = ga) w w7 ∧ ∀ k, F' k → F k ∨ w.heap.size ≤ k) := fun w7 F7 h7 m7 => by
          refine ⟨hlg6.kp m7.kp (fun hf => ?_) (fun hf => ?_), F7, h7, hkk.trans' m7.kp (fun i hi => ?_), fun k hf => ?_⟩
          · rcases hnF _ hf with h | h
            · exact hg h
            · omega
          · rcases hnF _ hf with h | h
            · exact hga h
            · omega
          · rcases hnF _ hi with h | h
            · exact .inl (.inl h)
            · exact .inr h
          · rcases m7.new k hf with h | h
            · exact hnF k h
            · exact .inr (Nat.le_trans hkk.size h)
        obtain ⟨q, hq⟩ : ∃ q, d1.sync.1 = q := ⟨_, rfl⟩
        have hs : Hid ((afterW (0, true, d1)).1 = q) := hq
        clear hlg6 hp6 hkk hnF
        go_wp2_with fail
        refine HSy.out.mono ?_
        rintro x w7 ⟨rfl, F7, h7, m7⟩
        have HFin := Lib.hid (HN.out w7 F7 h7 m7)
        clear h7 m7 HN HSy
        rw [hq]
        clear hq
        go_wp2
        go_ret
        rw [Hr.out, hs.out]
        exact ⟨rfl, HFin.out⟩
    · have hne : (r1 != 0) = true := by simpa using h1
      have ha : afterW (r1, z, d1) = (r1, d1) := if_pos (.inl h1)
      have HFin : Hid (LgAt w6 g 163 [] [] e ga (H * 32) c en rs.length (fullF (H * 32) rs) ∧ ∃ F', PD w6 F' gd d1 ∧ Kp (fun k => F k ∨ k = ga) w w6 ∧ ∀ k, F' k → F k ∨ w.heap.size ≤ k) := ⟨hlg6, F', hp6, hkk, hnF⟩
      have Ha := Lib.hid ha
      clear hlg6 hp6 hkk hnF h1 ha
      go_wp2
      go_ret
      rw [Hr.out, Ha.out]
      exact ⟨rfl, HFin.out⟩
  · go_enter Tryz.func112, Tryz.ntmps112
    go_wp2
    generalize w.alloc (.cells #[.pointer (some ⟨gd, 0, none⟩)] 50) = W1 at *
    have HL1 := Lib.hid hl1
    have HP1 := Lib.hid hp1
    have HB1 := Lib.hid hb1
    clear hl1 hp1 hb1
    have HL2 := Lib.hid (HL1.out.below (w' := W1.drew) (Below.refl _ _).drew)
    have HP2 := Lib.hid (HP1.out.below (w' := W1.drew) (Below.refl _ _).drew)
    have HB2 : Hid (Bk W1.drew w.heap.size 50 #[.pointer (some ⟨gd, 0, none⟩)]) := HB1.out
    have HW2 : Hid (Below w.heap.size w W1.drew) := HBA.out.trans ((Below.refl W1.heap.size W1).drew.mono HBA.out.size)
    go_still_tail 8, (by kernel_rfl)
    change wpList _ _ _ _ _ W1.drew
    clear HL1 HP1 HB1 HBA
    generalize W1.drew = W2 at *
    have Hen2 : Hid (en = H * 32) := (by omega : en = H * 32)
    go_wp2_with ((refine wpList_clear0 rfl _ _ rfl 5 Tryz.underlying23 _ _ _ rfl (by omega) ?_))
    all_goals
      have HL3 := HL2.out
      have hfe : fullF (H * 32) rs = area := by rw [Hfl.out, Hen2.out, Nat.sub_self]; have := HL3.len.1; rw [List.take_of_length_le (by omega)]; simp [zeros]
      rw [← hfe] at HL3
      have HP3 := HP2.out
      have HB3 := HB2.out
      have hW3 : Kp (· = ga) w W2 := Kp.of_below HW2.out
      generalize W2 = W3 at *
      have hba := (Below.refl W3.heap.size W3).alloc (Nat.le_refl _) (.cells #[.bool false] 4)
      have HL4 := Lib.hid (HL3.below hba)
      have HP4 := Lib.hid (HP3.below hba)
      have HB4 := Lib.hid (HB3.below hba HB3.lt)
      have HZ4 := Lib.hid (Bk.new W3 4 #[.bool false])
      have HW4 : Hid (Kp (· = ga) w (W3.alloc (.cells #[.bool false] 4))) := hW3.trans (Kp.of_below hba)
      have hzlt : w.heap.size < W3.heap.size := HB3.lt
      clear HL3 HP3 HB3 hba hW3 HL2 HP2 HB2 HW2
      generalize hgz : W3.heap.size = gz at *
      generalize W3.alloc (.cells #[.bool false] 4) = W4 at *
      have d1 := HL4.out.c1 (o := 0) rfl
      have d2 := HL4.out.c2 (o := 0) rfl
      simp only [Nat.zero_add] at d1 d2
      have HC := Lib.hid (HSW.out W4.drew gz (HL4.out.below (Below.refl _ _).drew) (HP4.out.below (Below.refl _ _).drew) HB4.out HZ4.out hzlt)
      have HL5 := Lib.hid (HL4.out.below (w' := W4.drew) (Below.refl _ _).drew)
      have HW5 : Hid (Kp (· = ga) w W4.drew) := HW4.out.trans (Kp.drew _ _)
      have HB5 : Hid (Bk W4.drew w.heap.size 50 #[.pointer (some ⟨gd, 0, none⟩)]) := HB4.out
      go_still_tail 11, (by kernel_rfl)
      change wpList _ _ _ _ _ W4.drew
      clear HL4 HP4 HB4 HZ4 HW4 HSW
      generalize W4.drew = W5 at *
      go_wp2_with fail
      refine HC.out.mono ?_
      rintro x w6 ⟨rfl, hbz, F', hp6, hk6, hn6⟩
      have hwt := wipe_waits area (fullF (H * 32) rs) (d.base e) (H - en / 32) (en / 32) false d
      have hlg6 : LgAt w6 g 163 [] [] e ga (H * 32) c en rs.length (fullF (H * 32) rs) := HL5.out.kp hk6 (fun hf => hf.elim hg (by omega)) (fun hf => hf.elim hga (by omega))
      have hnF : ∀ k, F' k → F k ∨ w.heap.size ≤ k := fun k hf => (hn6 k hf).imp id fun h => Nat.le_trans HW5.out.size h
      have hkk := kp_mix HW5.out hk6 (by omega)
      have b6 : w6.cell? ⟨w.heap.size, 0, none⟩ = some (.pointer (some ⟨gd, 0, none⟩)) := (HB5.out.kp hk6 (fun hf => hf.elim hgb (by omega))).cell 0
      have z6 := hbz.cell 0
      simp only [List.getElem?_toArray, List.getElem?_cons_zero] at z6
      clear HC HL5 HB5 hk6 hn6 hbz
      obtain ⟨⟨r1, z, d1⟩, hr⟩ : ∃ r, wipeS area (fullF (H * 32) rs) (d.base e) (en / 32) (H - en / 32) false d = r := ⟨_, rfl⟩
      rw [hr] at hp6 hwt z6
      rw [hr]
      have Hr := Lib.hid hr
      simp only at hp6 hwt z6 ⊢
      clear hr
      by_cases h1 : r1 = 0
      · subst h1
        cases z with
        | false =>
          have HFin : Hid (LgAt w6 g 163 [] [] e ga (H * 32) c en rs.length (fullF (H * 32) rs) ∧ ∃ F', PD w6 F' gd (afterW (0, false, d1)).2 ∧ Kp (fun k => F k ∨ k = ga) w w6 ∧ ∀ k, F' k → F k ∨ w.heap.size ≤ k) := ⟨hlg6, F', hp6, hkk, hnF⟩
          clear hlg6 hp6 hkk hnF
          go_wp2
          go_ret
          rw [Hr.out]
          exact ⟨rfl, HFin.out⟩
        | true =>
          have HSy := Lib.hid (sync_any gd d1 F' w6 (by omega) hp6)
          have HN : Hid (∀ w7 F7, PD w7 F7 gd d1.sync.2 → Mv F' F7 w6 w7 → LgAt w7 g 163 [] [] e ga (H * 32) c en rs.length (fullF (H * 32) rs) ∧ ∃ F', PD w7 F' gd (afterW (0, true, d1)).2 ∧ Kp (fun k => F k ∨ k = ga) w w7 ∧ ∀ k, F' k → F k ∨ w.heap.size ≤ k) := fun w7 F7 h7 m7 => by
            refine ⟨hlg6.kp m7.kp (fun hf => ?_) (fun hf => ?_), F7, h7, hkk.trans' m7.kp (fun i hi => ?_), fun k hf => ?_⟩
            · rcases hnF _ hf with h | h
              · exact hg h
              · omega
            · rcases hnF _ hf with h | h
              · exact hga h
              · omega
            · rcases hnF _ hi with h | h
              · exact .inl (.inl h)
              · exact .inr h
            · rcases m7.new k hf with h | h
              · exact hnF k h
              · exact .inr (Nat.le_trans hkk.size h)
          obtain ⟨q, hq⟩ : ∃ q, d1.sync.1 = q := ⟨_, rfl⟩
          have hs : Hid ((afterW (0, true, d1)).1 = q) := hq
          clear hlg6 hp6 hkk hnF
          go_wp2_with fail
          refine HSy.out.mono ?_
          rintro x w7 ⟨rfl, F7, h7, m7⟩
          have HFin := Lib.hid (HN.out w7 F7 h7 m7)
          clear h7 m7 HN HSy
          rw [hq]
          clear hq
          go_wp2
          go_ret
          rw [Hr.out, hs.out]
          exact ⟨rfl, HFin.out⟩
      · have hne : (r1 != 0) = true := by simpa using h1
        have ha : afterW (r1, z, d1) = (r1, d1) := if_pos (.inl h1)
        have HFin : Hid (LgAt w6 g 163 [] [] e ga (H * 32) c en rs.length (fullF (H * 32) rs) ∧ ∃ F', PD w6 F' gd d1 ∧ Kp (fun k => F k ∨ k = ga) w w6 ∧ ∀ k, F' k → F k ∨ w.heap.size ≤ k) := ⟨hlg6, F', hp6, hkk, hnF⟩
        have Ha := Lib.hid ha
        clear hlg6 hp6 hkk hnF h1 ha
        go_wp2
        go_ret
        rw [Hr.out, Ha.out]
        exact ⟨rfl, HFin.out⟩
end Go.Proofs.YtfepjgafamaegaaGreat

/- The program's log: Open. -/
namespace Go.Proofs.YtfepjgafamaegaaGreat
open Go.RowKit

/-- Block g is the log s of the program, on the disk at gd, with areas of n bytes; G are its blocks. -/
structure PWl (w : World) (G : Nat → Prop) (g gd n : Nat) (s : Lg) : Prop where
  self : G g
  lt : ∀ k, G k → k < w.heap.size
  ok : s.Ok n
  live : s.gone = false → ∃ ga c, G ga ∧ LgAt w g 165 [.pointer (some ⟨gd, 0, none⟩)] [.int .i64 s.safe] s.epoch ga n c (usedF s.recs) s.recs.length (fullF n s.recs)
  dead : s.gone = true → Bk w g 165 #[.pointer none, .int .u64 0, .slice none 0 0, .int .i64 0, .int .i64 0, .int .i64 0]
theorem PWl.kp {w w' : World} {G K : Nat → Prop} {g gd n : Nat} {s : Lg} (h : PWl w G g gd n s) (hk : Kp K w w') (hd : ∀ k, G k → ¬ K k) : PWl w' G g gd n s where
  self := h.self
  lt := fun k hk2 => Nat.lt_of_lt_of_le (h.lt k hk2) hk.size
  ok := h.ok
  live := fun e => by
    obtain ⟨ga, c, h1, h2⟩ := h.live e
    exact ⟨ga, c, h1, h2.kp hk (hd _ h.self) (hd _ h1)⟩
  dead := fun e => (h.dead e).kp hk (hd _ h.self)
theorem PWl.below {w w' : World} {G : Nat → Prop} {g gd n : Nat} {s : Lg} (h : PWl w G g gd n s) (hb : Below w.heap.size w w') : PWl w' G g gd n s := h.kp (K := fun _ => False) (Kp.of_below hb) fun _ _ h => h

theorem openL_after (d : Dk) : d.openL = if d.safe.length < 6 then (40, none, d) else if d.down then (6, none, d) else if (afterW d.wiped).1 = 0 then (0, some d.found, (afterW d.wiped).2) else ((afterW d.wiped).1, none, (afterW d.wiped).2) := by
  unfold Dk.openL afterW
  split
  · rfl
  split
  · rfl
  by_cases h1 : d.wiped.1 = 0 <;> by_cases h2 : d.wiped.2.1 = false <;> by_cases h3 : d.wiped.2.2.sync.1 = 0 <;> simp [h1, h2, h3]
theorem newest_lt (d : Dk) : d.newest < 4611686018427387904 := by
  unfold Dk.newest
  have h1 := headE_lt (d.sec 0) 0
  have h2 := headE_lt (d.sec 1) 1
  omega
theorem found_ok (d : Dk) (h : d.Ok) (h6 : 6 ≤ d.safe.length) : d.found.Ok d.bytes := by
  obtain ⟨h1, h2, h3⟩ := findR_lies (d.area d.newest)
  exact ⟨h3, by show usedF (findR _).1 ≤ _; rw [findR_used]; have := Dk.area_len h h6 d.newest; omega, newest_lt d, Nat.le_refl _⟩

/-- A log that was opened, or none. -/
def Opened (w : World) (F : Nat → Prop) (gd : Nat) (d : Dk) (e : Ending) (w' : World) : Prop :=
  (∃ F', PD w' F' gd d.openL.2.2 ∧ Mv F F' w w' ∧
    ((d.openL.2.1 = none ∧ e = .returned (.tuple #[.pointer none, .int .i64 d.openL.1])) ∨
     (∃ s g G, d.openL.2.1 = some s ∧ e = .returned (.tuple #[.pointer (some ⟨g, 0, none⟩), .int .i64 d.openL.1]) ∧ PWl w' G g gd d.bytes s ∧ (∀ k, G k → w.heap.size ≤ k) ∧ ∀ k, G k → ¬ F' k)))

set_option maxRecDepth 100000 in
set_option maxHeartbeats 400000 in
theorem open_nil (w : World) : Calls Tryz.prog 76 #[.pointer none] w fun e w' => e = .returned (.tuple #[.pointer none, .int .i64 1]) ∧ w = w' := by
  go_enter Tryz.func76, Tryz.ntmps76
  go_wp2
  go_ret2
  exact ⟨rfl, rfl⟩
set_option maxRecDepth 100000 in
set_option maxHeartbeats 4000000 in
theorem open_any (gd : Nat) (d : Dk) (F : Nat → Prop) (w : World) (hwl : d.waits.length ≤ 900000000) (h : PD w F gd d) :
    Calls Tryz.prog 76 #[.pointer (some ⟨gd, 0, none⟩)] w (Opened w F gd d) := by
  have HC1 := Lib.hid (sectors_meth gd d F w h)
  have HC2 := Lib.hid (up_meth gd d F w h)
  have hlen := h.len
  have HL := Lib.hid (openL_after d)
  by_cases h6 : d.safe.length < 6
  · have HE : Hid (d.openL = (40, none, d)) := by show _ = _; rw [HL.out, if_pos h6]
    have HP := Lib.hid h
    clear h HL
    generalize d.safe.length = n at *
    go_enter Tryz.func76, Tryz.ntmps76
    go_wp2_with fail
    refine HC1.out.mono ?_
    rintro x w' ⟨rfl, rfl⟩
    go_wp2
    go_ret2
    unfold Opened
    rw [HE.out]
    exact ⟨F, HP.out, Mv.refl _ _, .inl ⟨rfl, rfl⟩⟩
  · by_cases hd : d.down = true
    · have HE : Hid (d.openL = (6, none, d)) := by show _ = _; rw [HL.out, if_neg h6, if_pos hd]
      have HP := Lib.hid h
      rw [hd] at HC2
      clear h HL hd
      generalize d.safe.length = n at *
      go_enter Tryz.func76, Tryz.ntmps76
      go_wp2_with fail
      refine HC1.out.mono ?_
      rintro x w' ⟨rfl, rfl⟩
      go_wp2_with fail
      refine HC2.out.mono ?_
      rintro x w' ⟨rfl, rfl⟩
      go_wp2
      go_ret2
      unfold Opened
      rw [HE.out]
      exact ⟨F, HP.out, Mv.refl _ _, .inl ⟨rfl, rfl⟩⟩
    · have hdf : d.down = false := by simpa using hd
      rw [hdf] at HC2
      have h6' : 6 ≤ d.safe.length := by omega
      have HE : Hid (d.openL = if (afterW d.wiped).1 = 0 then (0, some d.found, (afterW d.wiped).2) else ((afterW d.wiped).1, none, (afterW d.wiped).2)) := by show _ = _; rw [HL.out, if_neg h6, if_neg hd]
      have hld : Calls Tryz.prog 111 #[.pointer (some ⟨gd, 0, none⟩)] w fun x w' => ∃ ga c, x = .returned (.agg #[.int .u64 d.newest, .slice (some ⟨ga, 0, none⟩) d.bytes c, .int .i64 (usedF d.found.recs : Nat), .int .i64 (d.found.recs.length : Nat)]) ∧
          w'.ownsRow w.heap.size 5 1 (.slice (some ⟨ga, 0, none⟩) d.bytes c) d.bytes (u8s (d.area d.newest)) ∧ Below w.heap.size w w' := by
        have := load_meth gd d F w h6' hdf h
        rw [← findR_used] at this
        exact this
      have HLD := Lib.hid hld
      have HWI : Hid (∀ W g ga c, Below w.heap.size w W → w.heap.size ≤ g → w.heap.size ≤ ga → LgAt W g 163 [] [] d.newest ga d.bytes c (usedF d.found.recs) d.found.recs.length (d.area d.newest) →
          Calls Tryz.prog 112 #[.pointer (some ⟨g, 0, none⟩), .pointer (some ⟨gd, 0, none⟩)] W fun x w' => x = .returned (.int .i64 (afterW d.wiped).1) ∧
            LgAt w' g 163 [] [] d.newest ga d.bytes c (usedF d.found.recs) d.found.recs.length (fullF d.bytes d.found.recs) ∧ ∃ F', PD w' F' gd (afterW d.wiped).2 ∧ Kp (fun k => F k ∨ k = ga) W w' ∧ ∀ k, F' k → F k ∨ W.heap.size ≤ k) := fun W g ga c hb hg hga hlg => by
        obtain ⟨h1, h2, h3⟩ := findR_lies (d.area d.newest)
        have hok := found_ok d h.ok h6'
        exact wipe_meth g d.newest ga c d.half (d.area d.newest) d.found.recs gd d F W rfl h6' hdf hwl rfl hok.fits (by show framesF (findR _).1 = _; rw [h1]; congr 1; exact (findR_used _).symm) hlg (h.below hb) (fun hf => by have := h.lt g hf; omega) (fun hf => by have := h.lt ga hf; omega)
      have HFlt := Lib.hid h.lt
      have HOK := Lib.hid (found_ok d h.ok h6')
      have hul := findR_used (d.area d.newest)
      have hfi := (found_ok d h.ok h6').fits
      have hbs : d.bytes ≤ 40000 := by unfold Dk.bytes Dk.half halfN; omega
      have hcnt := usedF_count d.found.recs
      clear h HL hld hul
      generalize hn : d.safe.length = n at *
      generalize hE1 : usedF d.found.recs = E1 at *
      generalize hE2 : d.found.recs.length = E2 at *
      have HE1 := Lib.hid hE1
      have HE2 := Lib.hid hE2
      clear hE1 hE2 hn
      go_enter Tryz.func76, Tryz.ntmps76
      go_wp2_with fail
      refine HC1.out.mono ?_
      rintro x w' ⟨rfl, rfl⟩
      go_wp2_with fail
      refine HC2.out.mono ?_
      rintro x w' ⟨rfl, rfl⟩
      go_wp2_with fail
      refine HLD.out.mono ?_
      rintro x w2 ⟨ga, c, rfl, hrow, hb2⟩
      clear HLD HC1 HC2
      have hgalt := hrow.lt ga rfl
      have hba := (Below.refl w2.heap.size w2).alloc (Nat.le_refl _) (.cells #[.int .u64 d.newest, .slice (some ⟨ga, 0, none⟩) d.bytes c, .int .i64 (E1 : Nat), .int .i64 (E2 : Nat)] 163)
      have hlg : LgAt (w2.alloc (.cells #[.int .u64 d.newest, .slice (some ⟨ga, 0, none⟩) d.bytes c, .int .i64 (E1 : Nat), .int .i64 (E2 : Nat)] 163)) w2.heap.size 163 [] [] d.newest ga d.bytes c E1 E2 (d.area d.newest) :=
        ⟨Bk.new w2 _ _, own_below (own_mono hrow (Nat.zero_le _)) hba (fun k e => by injection e with e; subst e; exact hgalt.2), by omega⟩
      have HC := Lib.hid (HWI.out _ w2.heap.size ga c (hb2.trans (hba.mono hb2.size)) hb2.size hgalt.1 hlg)
      have HB2 := Lib.hid hb2
      have Hga := Lib.hid hgalt
      have HBA := Lib.hid (hb2.trans (hba.mono hb2.size))
      clear hrow hb2 hgalt hba hlg HWI
      go_wp2_with fail
      refine HC.out.mono ?_
      rintro x w3 ⟨rfl, hl3, F3, hp3, hk3, hn3⟩
      have hnlt := HB2.out.size
      have hkk : Mv F F3 w w3 := by
        refine ⟨(Kp.of_below HBA.out).trans' hk3 (fun i hi => ?_), fun k hf => ?_⟩
        · rcases hi with hi | hi
          · exact .inl hi
          · exact .inr (by rw [hi]; exact Hga.out.1)
        · rcases hn3 k hf with h | h
          · exact .inl h
          · exact .inr (Nat.le_trans HBA.out.size h)
      have hg3 : ∀ k, k < w2.heap.size + 1 → w.heap.size ≤ k → ¬ F3 k := fun k h1 h2 hf => by
        rcases hn3 k hf with h | h
        · have := HFlt.out k h; omega
        · simp at h; omega
      have c0 := hl3.c0 (o := 0) rfl
      have c1 := hl3.c1 (o := 0) rfl
      have c2 := hl3.c2 (o := 0) rfl
      have c3 := hl3.c3 (o := 0) rfl
      simp only [Nat.zero_add] at c1 c2 c3
      have Hl3 := Lib.hid hl3
      have Hp3 := Lib.hid hp3
      have Hkk := Lib.hid hkk
      have Hg3 := Lib.hid hg3
      clear hl3 hp3 hk3 hn3 hkk hg3 HC HBA HFlt
      obtain ⟨r, hr⟩ : ∃ r, (afterW d.wiped).1 = r := ⟨_, rfl⟩
      rw [hr]
      have Hr := Lib.hid hr
      clear hr
      by_cases h1 : r = 0
      · subst h1
        go_wp2
        go_ret2
        have hba := (Below.refl w3.heap.size w3).alloc (Nat.le_refl _) (.cells #[.pointer (some ⟨gd, 0, none⟩), .int .u64 d.newest, .slice (some ⟨ga, 0, none⟩) d.bytes c, .int .i64 (E1 : Nat), .int .i64 (E2 : Nat), .int .i64 (E2 : Nat)] 165)
        have hw3 := Hkk.out.kp.size
        have hgl := Hl3.out.lt
        have hga := Hga.out
        unfold Opened
        rw [HE.out, if_pos Hr.out]
        refine ⟨F3, Hp3.out.below hba, Hkk.out.trans (Mv.of (Kp.of_below hba)), .inr ⟨d.found, w3.heap.size, fun k => k = w3.heap.size ∨ k = ga, rfl, rfl, ⟨.inl rfl, ?_, HOK.out, fun _ => ⟨ga, c, .inr rfl, ⟨?_, own_below Hl3.out.row hba (fun k e => by injection e with e; subst e; exact hgl.2), by omega⟩⟩, fun e => by cases e⟩, ?_, ?_⟩⟩
        · rintro k (rfl | rfl)
          · simp
          · simp; omega
        · have hb := Bk.new w3 165 #[.pointer (some ⟨gd, 0, none⟩), .int .u64 d.newest, .slice (some ⟨ga, 0, none⟩) d.bytes c, .int .i64 (E1 : Nat), .int .i64 (E2 : Nat), .int .i64 (E2 : Nat)]
          rw [HE1.out, HE2.out]
          rw [← HE2.out] at hb
          rw [HE2.out] at hb
          show Bk _ _ _ ([Value.pointer (some ⟨gd, 0, none⟩)] ++ (lgC d.newest (some ⟨ga, 0, none⟩) d.bytes c E1 E2 ++ [Value.int .i64 (d.found.recs.length : Nat)])).toArray
          rw [HE2.out]
          exact hb
        · rintro k (rfl | rfl)
          · exact hw3
          · exact hga.1
        · rintro k (rfl | rfl) hf
          · have := Hp3.out.lt _ hf; omega
          · exact Hg3.out _ (by omega) hga.1 hf
      · have hne : (r != 0) = true := by simpa using h1
        have H1 := Lib.hid h1
        clear h1
        go_wp2
        go_ret2
        unfold Opened
        rw [HE.out, if_neg (by rw [Hr.out]; exact H1.out)]
        exact ⟨F3, Hp3.out, Hkk.out, .inl ⟨rfl, by rw [Hr.out]; rfl⟩⟩
end Go.Proofs.YtfepjgafamaegaaGreat

/- The program's log: Append, Sync, and what is told. -/
namespace Go.Proofs.YtfepjgafamaegaaGreat
open Go.RowKit

theorem layS_len (b : List UInt8) (base : Nat) : ∀ (k i : Nat) (d : Dk), (layS b base i k d).2.safe.length = d.safe.length := by
  intro k
  induction k with
  | zero => intro i d; rfl
  | succ k ih =>
    intro i d
    by_cases h : (d.write ((base + i : Nat) : Int) (chunk b i)).1 = 0
    · rw [layS_next h, ih, Dk.write_len]
    · rw [layS_stop h, Dk.write_len]
theorem layS_waits (b : List UInt8) (base : Nat) : ∀ (k i : Nat) (d : Dk), (layS b base i k d).2.waits.length ≤ d.waits.length + k := by
  intro k
  induction k with
  | zero => intro i d; exact Nat.le_refl _
  | succ k ih =>
    intro i d
    have hw := dwrite_waits d ((base + i : Nat) : Int) (chunk b i)
    by_cases h : (d.write ((base + i : Nat) : Int) (chunk b i)).1 = 0
    · rw [layS_next h]; have := ih (i + 1) (d.write ((base + i : Nat) : Int) (chunk b i)).2; omega
    · rw [layS_stop h]; omega
theorem bytes_of {d d' : Dk} (h : d'.safe.length = d.safe.length) : d'.bytes = d.bytes := by unfold Dk.bytes Dk.half; rw [h]
theorem append_len (s : Lg) (d : Dk) (b : List UInt8) : (s.append d b).2.2.safe.length = d.safe.length := by
  unfold Lg.append Lg.laid
  split
  · rfl
  split
  · rfl
  split
  · rfl
  split <;> exact layS_len _ _ _ _ _
theorem append_ok {s : Lg} {d : Dk} {b : List UInt8} (h : s.Ok d.bytes) : (s.append d b).2.1.Ok d.bytes := by
  unfold Lg.append
  split
  · exact h
  split
  · exact h
  rename_i h1
  split
  · exact h
  rename_i h2
  have hs : ∀ r ∈ s.recs ++ [b], r.length ≤ 1024 := fun r hr => by
    rcases List.mem_append.1 hr with hr | hr
    · exact h.small r hr
    · simp only [List.mem_singleton] at hr; subst hr; omega
  have hf : usedF (s.recs ++ [b]) ≤ d.bytes := by rw [usedF_app, usedF_one]; unfold Lg.room at h2; have := h.fits; omega
  have hsf : s.safe ≤ (s.recs ++ [b]).length := by have := h.safe; simp; omega
  split
  · exact ⟨hs, hf, h.epoch, hsf⟩
  · exact ⟨hs, hf, h.epoch, hsf⟩

/-- The program's disk at gd, and a log on it at g. -/
def PB (w : World) (H : Nat → Prop) (g gd : Nat) (d : Dk) (s : Lg) : Prop :=
  ∃ F G, PD w F gd d ∧ PWl w G g gd d.bytes s ∧ (∀ k, F k → ¬ G k) ∧ (∀ k, F k → H k) ∧ (∀ k, G k → H k) ∧ ∀ k, H k → k < w.heap.size
theorem PB.kp {w w' : World} {H K : Nat → Prop} {g gd : Nat} {d : Dk} {s : Lg} (h : PB w H g gd d s) (hk : Kp K w w') (hd : ∀ k, H k → ¬ K k) : PB w' H g gd d s := by
  obtain ⟨F, G, h1, h2, h3, h4, h5, h6⟩ := h
  exact ⟨F, G, h1.kp hk (fun k e => hd k (h4 k e)), h2.kp hk (fun k e => hd k (h5 k e)), h3, h4, h5, fun k e => Nat.lt_of_lt_of_le (h6 k e) hk.size⟩
theorem PB.below {w w' : World} {H : Nat → Prop} {g gd : Nat} {d : Dk} {s : Lg} (h : PB w H g gd d s) (hb : Below w.heap.size w w') : PB w' H g gd d s := h.kp (K := fun _ => False) (Kp.of_below hb) fun _ _ h => h
theorem pb_step {w w' : World} {F G F' G' H : Nat → Prop} {g gd : Nat} {d' : Dk} {s' : Lg} (hFH : ∀ k, F k → H k) (hGH : ∀ k, G k → H k) (h1 : PD w' F' gd d') (h2 : PWl w' G' g gd d'.bytes s') (hd : ∀ k, F' k → ¬ G' k)
    (hk : Kp (fun k => F k ∨ G k) w w') (hF : ∀ k, F' k → F k ∨ w.heap.size ≤ k) (hG : ∀ k, G' k → G k ∨ w.heap.size ≤ k) (hH : ∀ k, H k → k < w.heap.size) : ∃ H', PB w' H' g gd d' s' ∧ Mv H H' w w' :=
  ⟨fun k => H k ∨ F' k ∨ G' k, ⟨F', G', h1, h2, hd, fun k e => .inr (.inl e), fun k e => .inr (.inr e), fun k e => by
    rcases e with e | e | e
    · exact Nat.lt_of_lt_of_le (hH k e) hk.size
    · exact h1.lt k e
    · exact h2.lt k e⟩, ⟨hk.mono fun k e => e.elim (hFH k) (hGH k), fun k e => by
    rcases e with e | e | e
    · exact .inl e
    · exact (hF k e).imp (hFH k) id
    · exact (hG k e).imp (hGH k) id⟩⟩

def Acted (w : World) (H : Nat → Prop) (g gd : Nat) (r : Int × Lg × Dk) (e : Ending) (w' : World) : Prop := e = .returned (.int .i64 r.1) ∧ ∃ H', PB w' H' g gd r.2.2 r.2.1 ∧ Mv H H' w w'

theorem sdiv (u : Nat) (h : 0 < u) : (u + 31) / 32 = (u - 1) / 32 + 1 := by omega

set_option maxRecDepth 100000 in
set_option maxHeartbeats 4000000 in
theorem append_any (g gd : Nat) (d : Dk) (s : Lg) (H : Nat → Prop) (A : Option Addr) (nb cb : Nat) (b : List UInt8) (w : World) (hwl : d.waits.length ≤ 800000000) (h6 : 6 ≤ d.safe.length)
    (hcb : nb ≤ cb) (hcm : cb ≤ 9223372036854775807) (hb : Rd w w.heap.size A nb b) (h : PB w H g gd d s) :
    Calls Tryz.prog 65 #[.pointer (some ⟨g, 0, none⟩), .slice A nb cb] w (Acted w H g gd (s.append d b)) := by
  have h0 := h
  obtain ⟨F, G, hp, hw, hFG, hFH, hGH, hH⟩ := h
  have hok := hw.ok
  cases hgone : s.gone with
  | true =>
    have hbk := hw.dead hgone
    have c0 := hbk.cell 0
    simp only [List.getElem?_toArray, List.getElem?_cons_zero] at c0
    have HC := Lib.hid (ready_gone g w c0)
    have HR : Hid (s.append d b = (6, s, d)) := by show _ = _; unfold Lg.append; rw [if_pos hgone]
    have HF : Hid (∃ H', PB w H' g gd d s ∧ Mv H H' w w) := ⟨H, h0, Mv.refl _ _⟩
    clear h0 hp hw hbk c0 hok hgone
    go_enter Tryz.func65, Tryz.ntmps65
    go_wp2_with fail
    refine HC.out.mono ?_
    rintro x w' ⟨rfl, rfl⟩
    go_wp2
    go_ret
    unfold Acted
    rw [HR.out]
    exact ⟨rfl, HF.out⟩
  | false =>
    obtain ⟨ga, c, hga, hl⟩ := hw.live hgone
    have hlen := hp.len
    have hbs : d.bytes ≤ 40000 := by unfold Dk.bytes Dk.half halfN; omega
    have c0 : w.cell? ⟨g, 0, none⟩ = some (.pointer (some ⟨gd, 0, none⟩)) := hl.blk.cell 0
    have c3 : w.cell? ⟨g, 3, none⟩ = _ := hl.c2 (o := 1) rfl
    have HC := Lib.hid (ready_meth g gd w c0)
    have HA := Lib.hid (add_meth g 1 165 [.pointer (some ⟨gd, 0, none⟩)] [.int .i64 s.safe] s.epoch ga d.bytes c s.recs A nb cb b w rfl hbs hok.fits hcb hcm hb hl)
    have hbl := hb.1
    have hrm : s.room d < b.length + 10 ↔ d.bytes < usedF s.recs + (10 + b.length) := by unfold Lg.room; have := hok.fits; omega
    by_cases h1 : 1024 < b.length ∨ d.bytes < usedF s.recs + (10 + b.length)
    · have hR : s.append d b = (addE d.bytes s.recs b, s, d) ∧ addE d.bytes s.recs b ≠ 0 := by
        unfold Lg.append addE
        rw [if_neg (by simp [hgone])]
        by_cases h2 : 1024 < b.length
        · rw [if_pos h2, if_pos h2]; exact ⟨rfl, by decide⟩
        · have h3 : d.bytes < usedF s.recs + (10 + b.length) := by omega
          rw [if_neg h2, if_pos (hrm.2 h3), if_neg h2, if_pos h3]; exact ⟨rfl, by decide⟩
      have HR := Lib.hid hR
      obtain ⟨r, hr⟩ : ∃ r, addE d.bytes s.recs b = r := ⟨_, rfl⟩
      have hne : (r != 0) = true := by rw [← hr]; simpa using hR.2
      have HF : Hid (∀ w', Below w.heap.size w w' → ∃ H', PB w' H' g gd d s ∧ Mv H H' w w') := fun w' hb => ⟨H, h0.below hb, Mv.of (Kp.of_below hb)⟩
      rw [hr] at HA
      have Hr := Lib.hid hr
      have Hne := Lib.hid (show r ≠ 0 by rw [← hr]; exact hR.2)
      clear h0 hp hw hl hok hb hrm h1 hr hR hlen hgone
      go_enter Tryz.func65, Tryz.ntmps65
      go_wp2_with fail
      refine HC.out.mono ?_
      rintro x w' ⟨rfl, rfl⟩
      go_wp2_with fail
      refine HA.out.mono ?_
      rintro x w2 ⟨rfl, hb2, _⟩
      have HF2 := Lib.hid (HF.out w2 (hb2 Hne.out))
      clear hb2 HF HA HC
      go_wp2
      go_ret
      unfold Acted
      rw [HR.out.1, Hr.out]
      exact ⟨rfl, HF2.out⟩
    · have h2 : ¬ 1024 < b.length := by omega
      have h3 : ¬ d.bytes < usedF s.recs + (10 + b.length) := by omega
      have hA0 : addE d.bytes s.recs b = 0 := by unfold addE; rw [if_neg h2, if_neg h3]
      rw [hA0] at HA
      have hap1 : s.append d b = if (s.laid d b).1 = 0 then (0, { s with recs := s.recs ++ [b] }, (s.laid d b).2) else ((s.laid d b).1, { s with recs := s.recs ++ [b], gone := true }, (s.laid d b).2) := by
        unfold Lg.append
        rw [if_neg (by simp [hgone]), if_neg h2, if_neg (fun h => h3 (hrm.1 h))]
      have hok2 := append_ok (b := b) hok
      have hln2 := append_len s d b
      have hu2 : usedF (s.recs ++ [b]) = usedF s.recs + (10 + nb) := by rw [usedF_app, usedF_one, hbl]
      have hlay : s.laid d b = layS (fullF d.bytes (s.recs ++ [b])) (2 + (s.epoch % 2) * d.half) (usedF s.recs / 32) ((usedF (s.recs ++ [b]) + 31) / 32 - usedF s.recs / 32) d := by
        unfold Lg.laid
        rw [sdiv _ (by rw [hu2]; omega)]
        rfl
      have hHb : d.half ≤ 1024 := by unfold Dk.half halfN; omega
      have HSE : Hid (∀ W, LgAt W g 165 [.pointer (some ⟨gd, 0, none⟩)] [.int .i64 s.safe] s.epoch ga d.bytes c (usedF (s.recs ++ [b])) (s.recs ++ [b]).length (fullF d.bytes (s.recs ++ [b])) → PD W F gd d →
          Calls Tryz.prog 97 #[.pointer (some ⟨g, 1, none⟩), .int .i64 (usedF s.recs : Nat), .int .i64 (usedF (s.recs ++ [b]) : Nat), .func (.func 98) #[.pointer (some ⟨gd, 0, none⟩)] #[]] W (Laid W F gd (s.laid d b))) := fun W q1 q2 => by
        rw [hlay]
        exact sectors_write g 1 165 _ _ s.epoch ga d.bytes c _ _ (usedF s.recs) (usedF (s.recs ++ [b])) d.half _ gd d F W rfl rfl (by omega) (by rw [hu2]; omega) hHb (by omega) q1 q2 (fun hf => hFG _ hf hw.self) (fun hf => hFG _ hf hga)
      have HP := Lib.hid hp
      have HW := Lib.hid hw
      have HFG : Hid ((∀ k, F k → ¬ G k) ∧ (∀ k, F k → H k) ∧ (∀ k, G k → H k) ∧ (∀ k, H k → k < w.heap.size) ∧ G ga) := ⟨hFG, hFH, hGH, hH, hga⟩
      have Hap := Lib.hid hap1
      have Hgone := Lib.hid hgone
      have Hok2 := Lib.hid hok2
      have Hln2 := Lib.hid hln2
      clear h0 hp hw hl hok hb hrm h1 h2 h3 hA0 hlay hap1 hok2 hln2 hgone hFG hFH hGH hH hga hlen hbs
      have Hu2 := Lib.hid hu2
      generalize hU0 : usedF s.recs = u0 at *
      generalize hU1 : usedF (s.recs ++ [b]) = u1 at *
      have HU0 := Lib.hid hU0
      have HU1 := Lib.hid hU1
      clear hU0 hU1 hu2
      go_enter Tryz.func65, Tryz.ntmps65
      go_wp2_with fail
      refine HC.out.mono ?_
      rintro x w' ⟨rfl, rfl⟩
      go_wp2_with fail
      refine HA.out.mono ?_
      rintro x w2 ⟨rfl, _, ha⟩
      obtain ⟨hl2, hk2⟩ := ha trivial
      obtain ⟨f1, f2, f3, f4, f5⟩ := HFG.out
      have hgF : ¬ F g := fun hf => f1 _ hf HW.out.self
      have hgaF : ¬ F ga := fun hf => f1 _ hf f5
      have hp2 : PD w2 F gd d := HP.out.kp hk2 (fun k hf e => e.elim (fun e => hgF (e ▸ hf)) (fun e => hgaF (e ▸ hf)))
      have e0 : w2.cell? ⟨g, 0, none⟩ = some (.pointer (some ⟨gd, 0, none⟩)) := hl2.blk.cell 0
      have e3 : w2.cell? ⟨g, 3, none⟩ = _ := hl2.c2 (o := 1) rfl
      have hld : LgAt w2.drew g 165 _ _ _ _ _ _ _ _ _ := hl2.below (Below.refl _ _).drew
      have HC2 := Lib.hid (HSE.out w2.drew hld (hp2.below (Below.refl _ _).drew))
      have HLD := Lib.hid hld
      have HK2 : Hid (Kp (fun k => F k ∨ G k) w w2.drew) := (hk2.mono (fun k e => .inr (by rcases e with rfl | rfl; exact HW.out.self; exact f5))).trans (Kp.drew _ _)
      have hby : (s.laid d b).2.bytes = d.bytes := bytes_of (by unfold Lg.laid; exact layS_len _ _ _ _ _)
      obtain ⟨r, hr⟩ : ∃ r, (s.laid d b).1 = r := ⟨_, rfl⟩
      have HC3 : Hid (Calls Tryz.prog 97 #[.pointer (some ⟨g, 1, none⟩), .int .i64 (u0 : Nat), .int .i64 (u1 : Nat), .func (.func 98) #[.pointer (some ⟨gd, 0, none⟩)] #[]] w2.drew fun x w4 => x = .returned (.int .i64 r) ∧
          ∃ F', PD w4 F' gd (s.laid d b).2 ∧ LgAt w4 g 165 [.pointer (some ⟨gd, 0, none⟩)] [.int .i64 s.safe] s.epoch ga d.bytes c u1 (s.recs ++ [b]).length (fullF d.bytes (s.recs ++ [b])) ∧ Kp (fun k => F k ∨ G k) w w4 ∧ (∀ k, F' k → F k ∨ w.heap.size ≤ k) ∧ ∀ k, F' k → ¬ (k = g ∨ k = ga)) := by
        refine Lib.hid (HC2.out.mono ?_)
        rintro x w4 ⟨hx, F', hp4, hm4⟩
        have hlt := HLD.out.lt
        refine ⟨by rw [hx, hr], F', hp4, HLD.out.kp hm4.kp hgF hgaF, HK2.out.trans (hm4.kp.mono fun k e => .inl e), fun k hf => (hm4.new k hf).imp id fun h => Nat.le_trans HK2.out.size h, fun k hf e => ?_⟩
        rcases hm4.new k hf with h | h
        · rcases e with rfl | rfl
          · exact hgF h
          · exact hgaF h
        · omega
      clear hl2 hk2 hp2 hld HA HC c0 c3 HSE ha HC2 HLD HK2
      by_cases hr0 : r = 0
      · have HR : Hid (s.append d b = (0, { s with recs := s.recs ++ [b] }, (s.laid d b).2)) := by show _ = _; rw [Hap.out, if_pos (by rw [hr, hr0])]
        have HFin : Hid (∀ w4 F', PD w4 F' gd (s.laid d b).2 → LgAt w4 g 165 [.pointer (some ⟨gd, 0, none⟩)] [.int .i64 s.safe] s.epoch ga d.bytes c u1 (s.recs ++ [b]).length (fullF d.bytes (s.recs ++ [b])) → Kp (fun k => F k ∨ G k) w w4 → (∀ k, F' k → F k ∨ w.heap.size ≤ k) → (∀ k, F' k → ¬ (k = g ∨ k = ga)) → ∃ H', PB w4 H' g gd (s.laid d b).2 { s with recs := s.recs ++ [b] } ∧ Mv H H' w w4) := fun w4 F' hp4 hl4 hkk hF4 hd4 => by
          have hk5 := Hok2.out
          rw [HR.out] at hk5
          refine pb_step f2 f3 hp4 (G' := fun k => k = g ∨ k = ga) ⟨.inl rfl, fun k e => ?_, by rw [hby]; exact hk5, fun _ => ⟨ga, c, .inr rfl, by rw [hby]; show LgAt w4 g _ _ _ _ _ _ _ (usedF (s.recs ++ [b])) _ _; rw [HU1.out]; exact hl4⟩, fun e => by rw [Hgone.out] at e; cases e⟩ hd4 hkk hF4 (fun k e => ?_) f4
          · rcases e with rfl | rfl
            · exact hl4.lt.1
            · exact hl4.lt.2
          · rcases e with rfl | rfl
            · exact .inl HW.out.self
            · exact .inl f5
        subst hr0
        clear hby hr
        go_wp2
        go_region_law (first | (go_simp; go_at_call 97; refine HC3.out.mono ?_; rintro x w4 ⟨rfl, F', hp4, hl4, hkk, hF4, hd4⟩) | (go_simp; go_at_call 96; refine (note_ok (.pointer (some ⟨g, 0, none⟩)) w4).mono ?_; rintro x w5 ⟨rfl, rfl⟩))
        all_goals
          have HF2 := Lib.hid (HFin.out w4 F' hp4 hl4 hkk hF4 hd4)
          clear hp4 hl4 hkk hF4 hd4 HFin HC3
          go_wp2
          go_ret
          unfold Acted
          rw [HR.out]
          exact ⟨rfl, HF2.out⟩
      · have HR : Hid (s.append d b = (r, { s with recs := s.recs ++ [b], gone := true }, (s.laid d b).2)) := by show _ = _; rw [Hap.out, if_neg (by rw [hr]; exact hr0), hr]
        have HFin : Hid (∀ w4 F' w5, PD w4 F' gd (s.laid d b).2 → Kp (fun k => F k ∨ G k) w w4 → (∀ k, F' k → F k ∨ w.heap.size ≤ k) → (∀ k, F' k → ¬ (k = g ∨ k = ga)) → Bk w5 g 165 goneC → Kp (· = g) w4 w5 → ∃ H', PB w5 H' g gd (s.laid d b).2 { s with recs := s.recs ++ [b], gone := true } ∧ Mv H H' w w5) := fun w4 F' w5 hp4 hkk hF4 hd4 hb5 hk5 => by
          have hok5 := Hok2.out
          rw [HR.out] at hok5
          refine pb_step f2 f3 (hp4.kp hk5 (fun k hf e => hd4 k hf (.inl e))) (G' := fun k => k = g) ⟨rfl, fun k e => ?_, by rw [hby]; exact hok5, fun e => (by cases e), fun _ => hb5⟩ (fun k hf e => hd4 k hf (.inl e)) (hkk.trans (hk5.mono (fun k e => .inr (by rw [e]; exact HW.out.self)))) hF4 (fun k e => ?_) f4
          · subst e; exact hb5.lt
          · subst e; exact .inl HW.out.self
        have Hr0 := Lib.hid hr0
        clear hby hr hr0
        go_wp2
        go_region_law (first | (go_simp; go_at_call 97; refine HC3.out.mono ?_; rintro x w4 ⟨rfl, F', hp4, hl4, hkk, hF4, hd4⟩) | (go_simp; go_at_call 96; refine (note_err g _ _ _ _ _ _ r w4 Hr0.out hl4.blk).mono ?_; rintro x w5 ⟨rfl, hb5, hk5⟩))
        all_goals
          have HF2 := Lib.hid (HFin.out w4 F' w5 hp4 hkk hF4 hd4 hb5 hk5)
          clear hp4 hl4 hkk hF4 hd4 hb5 hk5 HFin HC3
          go_wp2
          go_ret
          unfold Acted
          rw [HR.out]
          exact ⟨rfl, HF2.out⟩
end Go.Proofs.YtfepjgafamaegaaGreat

/- The program's log: Sync, and what is told. -/
namespace Go.Proofs.YtfepjgafamaegaaGreat
open Go.RowKit

theorem sync_len2 (s : Lg) (d : Dk) : (s.sync d).2.2.safe.length = d.safe.length := by
  unfold Lg.sync
  split
  · rfl
  split <;> exact Dk.sync_len d
theorem sync_ok2 {s : Lg} {d : Dk} (h : s.Ok d.bytes) : (s.sync d).2.1.Ok d.bytes := by
  unfold Lg.sync
  split
  · exact h
  split
  · exact ⟨h.small, h.fits, h.epoch, Nat.le_refl _⟩
  · exact ⟨h.small, h.fits, h.epoch, h.safe⟩

set_option maxRecDepth 100000 in
set_option maxHeartbeats 4000000 in
theorem syncW_any (g gd : Nat) (d : Dk) (s : Lg) (H : Nat → Prop) (w : World) (hwl : d.waits.length ≤ 800000000) (h : PB w H g gd d s) :
    Calls Tryz.prog 70 #[.pointer (some ⟨g, 0, none⟩)] w (Acted w H g gd (s.sync d)) := by
  have h0 := h
  obtain ⟨F, G, hp, hw, hFG, hFH, hGH, hH⟩ := h
  have hok := hw.ok
  cases hgone : s.gone with
  | true =>
    have hbk := hw.dead hgone
    have c0 := hbk.cell 0
    simp only [List.getElem?_toArray, List.getElem?_cons_zero] at c0
    have HC := Lib.hid (ready_gone g w c0)
    have HR : Hid (s.sync d = (6, s, d)) := by show _ = _; unfold Lg.sync; rw [if_pos hgone]
    have HF : Hid (∃ H', PB w H' g gd d s ∧ Mv H H' w w) := ⟨H, h0, Mv.refl _ _⟩
    clear h0 hp hw hbk c0 hok hgone
    go_enter Tryz.func70, Tryz.ntmps70
    go_wp2_with fail
    refine HC.out.mono ?_
    rintro x w' ⟨rfl, rfl⟩
    go_wp2
    go_ret
    unfold Acted
    rw [HR.out]
    exact ⟨rfl, HF.out⟩
  | false =>
    obtain ⟨ga, c, hga, hl⟩ := hw.live hgone
    have c0 : w.cell? ⟨g, 0, none⟩ = some (.pointer (some ⟨gd, 0, none⟩)) := hl.blk.cell 0
    have HC := Lib.hid (ready_meth g gd w c0)
    have HS := Lib.hid (sync_any gd d F w (by omega) hp)
    have hok2 := sync_ok2 hok
    have hgF : ¬ F g := fun hf => hFG _ hf hw.self
    have hgaF : ¬ F ga := fun hf => hFG _ hf hga
    have hlt := hl.lt
    have hby : (d.sync.2).bytes = d.bytes := bytes_of (Dk.sync_len d)
    have hsy : s.sync d = if d.sync.1 = 0 then (0, { s with safe := s.recs.length }, d.sync.2) else (d.sync.1, { s with gone := true }, d.sync.2) := by
      unfold Lg.sync
      rw [if_neg (by simp [hgone])]
    have HN : Hid (∀ w2 F', PD w2 F' gd d.sync.2 → Mv F F' w w2 → LgAt w2 g 165 [.pointer (some ⟨gd, 0, none⟩)] [.int .i64 s.safe] s.epoch ga d.bytes c (usedF s.recs) s.recs.length (fullF d.bytes s.recs) ∧ (∀ k, F' k → F k ∨ w.heap.size ≤ k) ∧ (∀ k, F' k → ¬ (k = g ∨ k = ga))) := fun w2 F' hp2 hm2 => by
      refine ⟨hl.kp hm2.kp hgF hgaF, hm2.new, fun k hf e => ?_⟩
      rcases hm2.new k hf with h | h
      · rcases e with rfl | rfl
        · exact hgF h
        · exact hgaF h
      · omega
    obtain ⟨r, hr⟩ : ∃ r, d.sync.1 = r := ⟨_, rfl⟩
    rw [hr] at HS hsy
    have HSY := Lib.hid hsy
    have Hok2 := Lib.hid hok2
    have HW := Lib.hid hw
    have HFG : Hid ((∀ k, F k → H k) ∧ (∀ k, G k → H k) ∧ (∀ k, H k → k < w.heap.size) ∧ G ga ∧ (d.sync.2).bytes = d.bytes ∧ s.gone = false) := ⟨hFH, hGH, hH, hga, hby, hgone⟩
    clear h0 hp hw hl hok hok2 hFG hFH hGH hH hga hsy hgF hgaF hlt hgone hr hby
    by_cases hr0 : r = 0
    · subst hr0
      have HR : Hid (s.sync d = (0, { s with safe := s.recs.length }, d.sync.2)) := HSY.out.trans (if_pos rfl)
      go_enter Tryz.func70, Tryz.ntmps70
      go_wp2_with fail
      refine HC.out.mono ?_
      rintro x w' ⟨rfl, rfl⟩
      go_wp2_with fail
      refine HS.out.mono ?_
      rintro x w2 ⟨rfl, F', hp2, hm2⟩
      obtain ⟨hl2, hF2, hd2⟩ := HN.out w2 F' hp2 hm2
      have e4 : w2.cell? ⟨g, 4, none⟩ = _ := hl2.c3 (o := 1) rfl
      have e5 : w2.cell? ⟨g, 5, none⟩ = some (.int .i64 s.safe) := hl2.blk.cell 5
      have ef := hl2.blk.frozen 5
      have hk5 : Kp (· = g) w2 (w2.setCell ⟨g, 5, none⟩ (.int .i64 (s.recs.length : Nat))) := Kp.set_ (F := (· = g)) (p := ⟨g, 5, none⟩) rfl _
      have hb5 : Bk (w2.setCell ⟨g, 5, none⟩ (.int .i64 (s.recs.length : Nat))) g 165 ([Value.pointer (some ⟨gd, 0, none⟩)] ++ (lgC s.epoch (some ⟨ga, 0, none⟩) d.bytes c (usedF s.recs) s.recs.length ++ [Value.int .i64 (s.recs.length : Nat)])).toArray := hl2.blk.set_ 5 (.int .i64 (s.recs.length : Nat))
      have HF : Hid (∃ H', PB (w2.setCell ⟨g, 5, none⟩ (.int .i64 (s.recs.length : Nat))) H' g gd d.sync.2 { s with safe := s.recs.length } ∧ Mv H H' w (w2.setCell ⟨g, 5, none⟩ (.int .i64 (s.recs.length : Nat)))) := by
        obtain ⟨f2, f3, f4, f5, f6, f7⟩ := HFG.out
        have hok5 := Hok2.out
        rw [HR.out] at hok5
        refine pb_step f2 f3 (hp2.kp hk5 (fun k hf e => hd2 k hf (.inl e))) (G' := fun k => k = g ∨ k = ga) ⟨.inl rfl, fun k e => ?_, by rw [f6]; exact hok5, fun _ => ⟨ga, c, .inr rfl, by
          rw [f6]
          exact ⟨hb5, own_kp hl2.row hk5 (fun k e e2 => by injection e with e; subst e; exact hl2.ne e2.symm), hl2.ne⟩⟩, fun e => by rw [f7] at e; cases e⟩ hd2 ((hm2.kp.mono (fun k e => .inl e)).trans (hk5.mono (fun k e => .inr (by rw [e]; exact HW.out.self)))) hF2 (fun k e => ?_) f4
        · rcases e with rfl | rfl
          · exact Nat.lt_of_lt_of_le hl2.lt.1 hk5.size
          · exact Nat.lt_of_lt_of_le hl2.lt.2 hk5.size
        · rcases e with rfl | rfl
          · exact .inl HW.out.self
          · exact .inl f5
      clear hp2 hm2 hl2 hF2 hd2 hk5 hb5 HS HN HC c0
      go_wp2
      go_ret
      unfold Acted
      rw [HR.out]
      exact ⟨rfl, HF.out⟩
    · have HR : Hid (s.sync d = (r, { s with gone := true }, d.sync.2)) := HSY.out.trans (if_neg hr0)
      have hne : (r != 0) = true := by simpa using hr0
      have Hr0 := Lib.hid hr0
      clear hr0
      go_enter Tryz.func70, Tryz.ntmps70
      go_wp2_with fail
      refine HC.out.mono ?_
      rintro x w' ⟨rfl, rfl⟩
      go_wp2_with fail
      refine HS.out.mono ?_
      rintro x w2 ⟨rfl, F', hp2, hm2⟩
      obtain ⟨hl2, hF2, hd2⟩ := HN.out w2 F' hp2 hm2
      have HE := Lib.hid (note_err g _ _ _ _ _ _ r w2 Hr0.out hl2.blk)
      have HF : Hid (∀ w5, Bk w5 g 165 goneC → Kp (· = g) w2 w5 → ∃ H', PB w5 H' g gd d.sync.2 { s with gone := true } ∧ Mv H H' w w5) := fun w5 hb5 hk5 => by
        obtain ⟨f2, f3, f4, f5, f6, f7⟩ := HFG.out
        have hok5 := Hok2.out
        rw [HR.out] at hok5
        refine pb_step f2 f3 (hp2.kp hk5 (fun k hf e => hd2 k hf (.inl e))) (G' := fun k => k = g) ⟨rfl, fun k e => ?_, by rw [f6]; exact hok5, fun e => (by cases e), fun _ => hb5⟩ (fun k hf e => hd2 k hf (.inl e)) ((hm2.kp.mono (fun k e => .inl e)).trans (hk5.mono (fun k e => .inr (by rw [e]; exact HW.out.self)))) hF2 (fun k e => ?_) f4
        · subst e; exact hb5.lt
        · subst e; exact .inl HW.out.self
      clear hp2 hm2 hl2 hF2 hd2 HS HN HC c0
      go_wp2_with fail
      refine HE.out.mono ?_
      rintro x w5 ⟨rfl, hb5, hk5⟩
      have HF2 := Lib.hid (HF.out w5 hb5 hk5)
      clear hb5 hk5 HE HF
      go_wp2
      go_ret
      unfold Acted
      rw [HR.out]
      exact ⟨rfl, HF2.out⟩

/-- What is told of a log. -/
def Lg.tellN (s : Lg) : Nat := if s.gone then 0 else s.safe
def Lg.tellR (s : Lg) (d : Dk) : Nat := if s.gone then 0 else s.room d
def Lg.tellL (s : Lg) : List (List UInt8) := if s.gone then [] else s.recs
set_option maxRecDepth 100000 in
set_option maxHeartbeats 400000 in
theorem safe_nil (w : World) : Calls Tryz.prog 63 #[.pointer none] w fun e w' => e = .returned (.int .i64 0) ∧ w = w' := by
  go_enter Tryz.func63, Tryz.ntmps63
  go_wp2
  go_ret
  exact ⟨rfl, rfl⟩
set_option maxRecDepth 100000 in
set_option maxHeartbeats 400000 in
theorem records_nil (w : World) : Calls Tryz.prog 62 #[.pointer none] w fun e w' => e = .returned (.slice none 0 0) ∧ w = w' := by
  go_enter Tryz.func62, Tryz.ntmps62
  go_wp2
  go_ret
  exact ⟨rfl, rfl⟩
set_option maxRecDepth 100000 in
set_option maxHeartbeats 1000000 in
theorem safe_any (g gd : Nat) (d : Dk) (s : Lg) (H : Nat → Prop) (w : World) (h : PB w H g gd d s) : Calls Tryz.prog 63 #[.pointer (some ⟨g, 0, none⟩)] w fun e w' => e = .returned (.int .i64 (s.tellN : Nat)) ∧ w = w' := by
  obtain ⟨F, G, hp, hw, hFG, hFH, hGH, hH⟩ := h
  have c5 : w.cell? ⟨g, 5, none⟩ = some (.int .i64 (s.tellN : Nat)) := by
    unfold Lg.tellN
    cases hgone : s.gone with
    | true => exact (hw.dead hgone).cell 5
    | false => obtain ⟨ga, c, hga, hl⟩ := hw.live hgone; exact hl.blk.cell 5
  clear hp hw hFG hFH hGH hH
  generalize s.tellN = n at *
  go_enter Tryz.func63, Tryz.ntmps63
  go_wp2
  go_ret
  exact ⟨rfl, rfl⟩
end Go.Proofs.YtfepjgafamaegaaGreat

/- The program's log: a head's sector; is a body too long? -/
namespace Go.Proofs.YtfepjgafamaegaaGreat
open Go.RowKit

theorem headB_len (e : Nat) (h : e < 18446744073709551616) : (putF (1, Lib.uvarint e)).length ≤ 20 := by
  rw [putF_len]
  have := Lib.uvarint_length64 h
  simp only
  omega
theorem headB_len32 (e : Nat) (h : e < 18446744073709551616) : (headB e).length = 32 := by
  have := headB_len e h
  unfold headB
  rw [List.length_append, zeros_len]
  omega
set_option maxRecDepth 100000 in
set_option maxHeartbeats 4000000 in
theorem head_meth (g e : Nat) (w : World) (he : e < 18446744073709551616) (c0 : w.cell? ⟨g, 0, none⟩ = some (.int .u64 e)) :
    Calls Tryz.prog 140 #[.pointer (some ⟨g, 0, none⟩)] w fun x w' => ∃ A c, x = .returned (.slice A 32 c) ∧ w'.ownsRow w.heap.size 5 1 (.slice A 32 c) 32 (u8s (headB e)) ∧ Below w.heap.size w w' := by
  obtain ⟨i0, hi0, hz0, hz1, hz2⟩ := info_parts Tryz.infoU8
  have HC := Lib.hid (binPut_any e w he)
  have hlu := Lib.uvarint_length64 he
  have hpos := Lib.uvarint_pos e
  have hhl := headB_len e he
  have HH : Hid (headB e = putF (1, Lib.uvarint e) ++ zeros (32 - (putF (1, Lib.uvarint e)).length)) := rfl
  have hpl : (putF (1, Lib.uvarint e)).length = 10 + (Lib.uvarint e).length := putF_len _
  obtain ⟨p, hp⟩ : ∃ p, putF (1, Lib.uvarint e) = p := ⟨_, rfl⟩
  have HPut : Hid (∀ A c W, (Lib.uvarint e).length ≤ c → c ≤ 9223372036854775807 → Rd W W.heap.size A (Lib.uvarint e).length (Lib.uvarint e) → Calls Tryz.prog 126 #[.int .u8 1, .slice A (Lib.uvarint e).length c] W fun e' w' => ∃ v, e' = .returned (.tuple #[v, .int .i64 0]) ∧ w'.ownsRow W.heap.size 5 1 v (10 + (Lib.uvarint e).length) (u8s p) ∧ Below W.heap.size W w') := fun A c W h1 h2 h3 => by
    rw [← hp]
    exact framePut_ok 1 A _ c (Lib.uvarint e) W (by omega) h1 h2 h3
  rw [hp] at hpl hhl HH
  clear hp
  generalize Lib.uvarint e = U at *
  generalize hul : U.length = ul at *
  have Hul := Lib.hid hul
  clear hul
  go_enter Tryz.func140, Tryz.ntmps140
  go_wp2_with fail
  refine HC.out.mono ?_
  rintro x w2 ⟨v, rfl, ho, hb⟩
  obtain ⟨A, c, rfl, hc1, hc2⟩ := own_shape ho
  unfold maxLen at hc2
  have HC2 := Lib.hid (HPut.out A c w2 hc1 hc2 (Rd.of_own ho))
  have Hb := Lib.hid hb
  clear ho hb HC HPut
  go_wp2_with fail
  refine HC2.out.mono ?_
  rintro x w3 ⟨v, rfl, ho, hb3⟩
  obtain ⟨A3, c3, rfl, hc3, hc4⟩ := own_shape ho
  have Hb3 := Lib.hid (below_then Hb.out hb3)
  have Ho := Lib.hid ho
  clear ho hb3 HC2
  go_wp2_with (at_make; refine wpList_make_full _ rfl _ _ 23 rfl w3.heap.size 5 i0 (.int .u8 0) 1 Tryz.underlying23 hi0 hz0 hz1 _ _ _ _ 32 rfl rfl rfl rfl (by rw [hz2]; omega) (by unfold maxLen; omega) (Nat.le_refl _) ?_)
  intro w4 hown hgrow
  rw [madeBytes] at hown
  have hb4 : Below w3.heap.size w3 w4 := (Below.refl _ _).grown hgrow (Nat.le_refl _) (by simp)
  have hrd := (Rd.of_own Ho.out).up hb4
  obtain ⟨bs, os, rfl, _⟩ := hrd.2 (by omega)
  have hsrc := Lib.hid (hrd.cells _ rfl)
  have hupl : Hid ((u8s p).length = 10 + ul) := (u8s_len _).trans hpl
  have hth : Hid (w4.there w3.heap.size 0 (10 + ul)) := own_there hown 0 (10 + ul) (by omega)
  have hmin : Hid (10 + ul = Nat.min (10 + ul) 32) := (Nat.min_eq_left (by omega)).symm
  have Hown := Lib.hid hown
  have Hb4 := Lib.hid hb4
  clear hown hgrow hb4 hrd
  go_wp2_with ((refine wpList_copy_mid rfl _ _ 23 23 rfl 5 Tryz.underlying23 Tryz.sizeU8 w3.heap.size 0 32 32 ⟨bs, os, none⟩ (10 + ul) c3 rfl rfl (u8s p) (by rw [hupl.out]; exact hmin.out) hsrc.out (by rw [hupl.out]; exact hth.out) (u8s_one _) ?_))
  have hfin := own_sets Hown.out 0 (u8s p) (by rw [hupl.out]; omega)
  rw [u8s_over] at hfin
  have hlist : (List.replicate 32 (0 : UInt8)).take 0 ++ (p ++ (List.replicate 32 (0 : UInt8)).drop (0 + p.length)) = headB e := by
    rw [HH.out, List.take_zero, List.nil_append, List.drop_replicate, Nat.zero_add]
    rfl
  rw [hlist] at hfin
  have HF : Hid (_ ∧ _) := And.intro (own_mono hfin Hb3.out.size) (Hb3.out.trans ((Kp.below (F := fun k => k = w3.heap.size) ((Kp.of_below Hb4.out).trans (Kp.sets (F := fun k => k = w3.heap.size) rfl (u8s p) 0 w4)) (fun k e => by rw [e]; exact Nat.le_refl _) (Nat.le_refl _)).mono Hb3.out.size))
  clear hfin hlist Hown hsrc hth hmin
  generalize w4.setCells w3.heap.size 0 (u8s p) = w5 at *
  go_wp2
  go_ret
  exact ⟨_, _, rfl, HF.out.1, HF.out.2⟩

def longAny (ls : List (List UInt8)) : Bool := ls.any fun b => decide (1024 < b.length)
set_option maxRecDepth 100000 in
set_option maxHeartbeats 1000000 in
theorem index_any (A : Option Addr) (n c : Nat) (ls : List (List UInt8)) (w : World) (hn : n ≤ 9223372036854775807) (h : Parts w w.heap.size A n ls) :
    Calls Tryz.prog 159 #[.slice A n c, .func (.func 139) #[] #[]] w fun e w' => ∃ z : Int, e = .returned (.int .i64 z) ∧ decide (0 ≤ z) = longAny ls ∧ -1 ≤ z ∧ z ≤ 9223372036854775807 ∧ w = w' := by
  have Hl := Lib.hid h.1
  have HP := Lib.hid h
  clear h
  go_enter Tryz.func159, Tryz.ntmps159
  go_wp2
  go_loopg [8] n (fun g i wr => ∃ k : Nat, i = .int .i64 k ∧ k + g = n ∧ Hid (longAny ls = longAny (ls.drop k)) ∧ w = wr)
  case atStart => exact ⟨0, rfl, by omega, Lib.hid (by simp), rfl⟩
  case round =>
    obtain ⟨k, rfl, hk, Hs, rfl⟩ := hrel
    by_cases hkn : k < n
    · have hkl : k < ls.length := by rw [Hl.out]; exact hkn
      obtain ⟨b, o, A', n', c', rfl, hbw, hcell, hn', hc', hrd⟩ := HP.out.2 k hkl
      have hrl := hrd.1
      have hdc : ls.drop k = ls[k] :: ls.drop (k + 1) := List.drop_eq_getElem_cons hkl
      have HT := tooLong_any A' n' c' w
      have hlk : longAny (ls.drop k) = (decide (1024 < n') || longAny (ls.drop (k + 1))) := by
        rw [hdc]
        show (decide (1024 < ls[k].length) || _) = _
        rw [hrl]
        rfl
      have Hlk := Lib.hid hlk
      clear hrd hrl hdc hlk hkl
      by_cases hlong : 1024 < n'
      · rw [decide_eq_true hlong] at HT Hlk
        have HT := Lib.hid HT
        go_wp2_with fail
        refine HT.out.mono ?_
        rintro x w' ⟨rfl, rfl⟩
        go_wp2
        go_ret
        refine ⟨(k : Int), rfl, ?_, by omega, by omega, rfl⟩
        rw [Hs.out, Hlk.out]
        simp
      · rw [decide_eq_false hlong] at HT Hlk
        have HT := Lib.hid HT
        go_wp2_with fail
        refine HT.out.mono ?_
        rintro x w' ⟨rfl, rfl⟩
        go_wp2
        go_roundg (gk - 1)
        case measure => omega
        case rel => exact ⟨k + 1, by go_num, by omega, Lib.hid (by rw [Hs.out, Hlk.out]; simp), rfl⟩
    · have hnil : ls.drop k = [] := List.drop_eq_nil_of_le (by rw [Hl.out]; omega)
      have Hnil := Lib.hid hnil
      clear hnil
      go_wp2
      go_ret
      refine ⟨-1, rfl, ?_, by omega, by omega, rfl⟩
      rw [Hs.out, Hnil.out]
      rfl
set_option maxRecDepth 100000 in
set_option maxHeartbeats 1000000 in
theorem contains_any (A : Option Addr) (n c : Nat) (ls : List (List UInt8)) (w : World) (hn : n ≤ 9223372036854775807) (h : Parts w w.heap.size A n ls) :
    Calls Tryz.prog 138 #[.slice A n c, .func (.func 139) #[] #[]] w fun e w' => e = .returned (.bool (longAny ls)) ∧ w = w' := by
  have HC := Lib.hid (index_any A n c ls w hn h)
  clear h
  go_enter Tryz.func138, Tryz.ntmps138
  go_wp2_with fail
  refine HC.out.mono ?_
  rintro x w' ⟨z, rfl, hz, h1, h2, rfl⟩
  have Hz := Lib.hid hz
  clear hz HC
  go_wp2
  go_ret
  rw [← Hz.out]
  exact ⟨rfl, rfl⟩
end Go.Proofs.YtfepjgafamaegaaGreat

/- Changes in memory; what may stand in no batch. -/
namespace Go.Proofs.YtfepjgafamaegaaGreat
open Go.RowKit

abbrev sV (l : List UInt8) : Value := .string ⟨l.toArray⟩
abbrev chgV (c : Chg) : Value := .agg #[sV c.key, sV c.val, .bool c.gone]
/-- A slice of changes reads as these. -/
def ChRd (w : World) (B : Nat) (A : Option Addr) (n : Nat) (l : List Chg) : Prop :=
  l.length = n ∧ ∀ i (h : i < l.length), ∃ b o, A = some ⟨b, o, none⟩ ∧ b < B ∧ w.cell? ⟨b, o + i * 3, none⟩ = some (sV l[i].key) ∧ w.cell? ⟨b, o + i * 3 + 1, none⟩ = some (sV l[i].val) ∧ w.cell? ⟨b, o + i * 3 + 2, none⟩ = some (.bool l[i].gone)
theorem ChRd.below {w w' : World} {B k : Nat} {A : Option Addr} {l : List Chg} (h : ChRd w B A k l) (hb : Below B w w') : ChRd w' B A k l :=
  ⟨h.1, fun i hi => by
    obtain ⟨b, o, e, hlt, h1, h2, h3⟩ := h.2 i hi
    exact ⟨b, o, e, hlt, (hb.cell hlt).trans h1, (hb.cell hlt).trans h2, (hb.cell hlt).trans h3⟩⟩
theorem ChRd.more {w : World} {B B' k : Nat} {A : Option Addr} {l : List Chg} (h : ChRd w B A k l) (hB : B ≤ B') : ChRd w B' A k l :=
  ⟨h.1, fun i hi => by
    obtain ⟨b, o, e, hlt, h1, h2, h3⟩ := h.2 i hi
    exact ⟨b, o, e, by omega, h1, h2, h3⟩⟩
theorem ChRd.nil (w : World) (B : Nat) (A : Option Addr) : ChRd w B A 0 [] := ⟨rfl, fun i h => by simp at h⟩

theorem beq_nil (l : List UInt8) : (l == []) = decide (l.length = 0) := by cases l <;> simp
set_option maxRecDepth 100000 in
set_option maxHeartbeats 1000000 in
theorem wrong_any (c : Chg) (w : World) : Calls Tryz.prog 46 #[chgV c] w fun e w' => e = .returned (.bool (!okC c)) ∧ Below w.heap.size w w' := by
  obtain ⟨k, v, g⟩ := c
  have hk0 := beq_nil k
  have hv0 := beq_nil v
  have hok : (!okC ⟨k, v, g⟩) = (decide (k.length = 0) || (decide (16 < k.length) || (if g then !decide (v.length = 0) else decide (128 < v.length)))) := by
    unfold okC
    cases g with
    | true => by_cases h1 : k.length = 0 <;> by_cases h2 : 16 < k.length <;> by_cases h3 : v.length = 0 <;> simp [h1, h2, h3] <;> omega
    | false => by_cases h1 : k.length = 0 <;> by_cases h2 : 16 < k.length <;> by_cases h3 : 128 < v.length <;> simp [h1, h2, h3] <;> omega
  have HO := Lib.hid hok
  clear hok
  by_cases h1 : k.length = 0
  · rw [decide_eq_true h1] at hk0 HO
    have hb : (!okC ⟨k, v, g⟩) = true := by rw [HO.out]; rfl
    rw [hb]
    clear hb HO hv0 h1
    go_enter Tryz.func46, Tryz.ntmps46
    go_wp2
    go_ret
    exact ⟨rfl, (Below.refl _ _).alloc (Nat.le_refl _) _⟩
  · rw [decide_eq_false h1] at hk0 HO
    by_cases h2 : 16 < k.length
    · have hb : (!okC ⟨k, v, g⟩) = true := by rw [HO.out, decide_eq_true h2]; rfl
      rw [hb]
      clear hb HO hv0 h1
      go_enter Tryz.func46, Tryz.ntmps46
      go_wp2
      go_ret
      exact ⟨rfl, (Below.refl _ _).alloc (Nat.le_refl _) _⟩
    · rw [decide_eq_false h2] at HO
      have h2' : ¬ (16 : Int) < (k.length : Int) := by omega
      cases g with
      | true =>
        have hb : (!okC ⟨k, v, true⟩) = !decide (v.length = 0) := by rw [HO.out]; rfl
        rw [hb]
        clear hb HO h1 h2
        go_enter Tryz.func46, Tryz.ntmps46
        go_wp2
        go_ret
        refine ⟨?_, (Below.refl _ _).alloc (Nat.le_refl _) _⟩
        simp
      | false =>
        have hb : (!okC ⟨k, v, false⟩) = decide (128 < v.length) := by rw [HO.out]; rfl
        rw [hb]
        clear hb HO h1 h2 hv0
        go_enter Tryz.func46, Tryz.ntmps46
        go_wp2
        go_ret
        refine ⟨?_, (Below.refl _ _).alloc (Nat.le_refl _) _⟩
        simp
        omega

set_option maxRecDepth 100000 in
set_option maxHeartbeats 1000000 in
theorem windex_any (A : Option Addr) (n c : Nat) (l : List Chg) (w : World) (hn : n ≤ 9223372036854775807) (h : ChRd w w.heap.size A n l) :
    Calls Tryz.prog 82 #[.slice A n c, .func (.func 46) #[] #[]] w fun e w' => ∃ z : Int, e = .returned (.int .i64 z) ∧ decide (0 ≤ z) = l.any (fun c => !okC c) ∧ -1 ≤ z ∧ z ≤ 9223372036854775807 ∧ Below w.heap.size w w' := by
  have Hl := Lib.hid h.1
  have HP := Lib.hid h
  clear h
  go_enter Tryz.func82, Tryz.ntmps82
  go_wp2
  go_loopg [8] n (fun g i wr => ∃ k : Nat, i = .int .i64 k ∧ k + g = n ∧ Hid (l.any (fun c => !okC c) = (l.drop k).any (fun c => !okC c)) ∧ Hid (Below w.heap.size w wr))
  case atStart => exact ⟨0, rfl, by omega, Lib.hid (by simp), Lib.hid (Below.refl _ _)⟩
  case round =>
    obtain ⟨k, rfl, hk, Hs, Hb⟩ := hrel
    by_cases hkn : k < n
    · have hkl : k < l.length := by rw [Hl.out]; exact hkn
      obtain ⟨b, o, rfl, hbw, c0, c1, c2⟩ := (HP.out.below Hb.out).2 k hkl
      have hdc : l.drop k = l[k] :: l.drop (k + 1) := List.drop_eq_getElem_cons hkl
      have HT := wrong_any l[k] wr
      have Hlk : Hid ((l.drop k).any (fun c => !okC c) = ((!okC l[k]) || (l.drop (k + 1)).any (fun c => !okC c))) := by
        show _ = _
        rw [hdc]
        rfl
      generalize l[k] = ch at *
      clear hdc hkl
      cases hlong : okC ch with
      | false =>
        rw [hlong] at HT Hlk
        have HT : Hid (Calls Tryz.prog 46 #[chgV ch] wr fun e w' => e = .returned (.bool true) ∧ Below wr.heap.size wr w') := Lib.hid HT
        clear hlong
        go_wp2_with fail
        refine HT.out.mono ?_
        rintro x w' ⟨rfl, hb2⟩
        have Hb2 := Lib.hid (Hb.out.trans (hb2.mono Hb.out.size))
        clear hb2
        go_wp2
        go_ret
        refine ⟨(k : Int), rfl, ?_, by omega, by omega, Hb2.out⟩
        rw [Hs.out, Hlk.out]
        simp
      | true =>
        rw [hlong] at HT Hlk
        have HT : Hid (Calls Tryz.prog 46 #[chgV ch] wr fun e w' => e = .returned (.bool false) ∧ Below wr.heap.size wr w') := Lib.hid HT
        clear hlong
        go_wp2_with fail
        refine HT.out.mono ?_
        rintro x w' ⟨rfl, hb2⟩
        have Hb2 := Lib.hid (Hb.out.trans (hb2.mono Hb.out.size))
        clear hb2
        go_wp2
        go_roundg (gk - 1)
        case measure => omega
        case rel => exact ⟨k + 1, by go_num, by omega, Lib.hid (by rw [Hs.out, Hlk.out]; simp), Hb2⟩
    · have hnil : l.drop k = [] := List.drop_eq_nil_of_le (by rw [Hl.out]; omega)
      have Hnil := Lib.hid hnil
      clear hnil
      go_wp2
      go_ret
      refine ⟨-1, rfl, ?_, by omega, by omega, Hb.out⟩
      rw [Hs.out, Hnil.out]
      rfl

set_option maxRecDepth 100000 in
set_option maxHeartbeats 1000000 in
theorem wcontains_any (A : Option Addr) (n c : Nat) (l : List Chg) (w : World) (hn : n ≤ 9223372036854775807) (h : ChRd w w.heap.size A n l) :
    Calls Tryz.prog 45 #[.slice A n c, .func (.func 46) #[] #[]] w fun e w' => e = .returned (.bool (l.any (fun c => !okC c))) ∧ Below w.heap.size w w' := by
  have HC := Lib.hid (windex_any A n c l w hn h)
  clear h
  go_enter Tryz.func45, Tryz.ntmps45
  go_wp2_with fail
  refine HC.out.mono ?_
  rintro x w' ⟨z, rfl, hz, h1, h2, hb⟩
  have Hz := Lib.hid hz
  have Hb := Lib.hid hb
  clear hz HC hb
  go_wp2
  go_ret
  rw [← Hz.out]
  exact ⟨rfl, Hb.out⟩

theorem rightL_eq (l : List Chg) : rightL l = (!(decide (32 < l.length) || l.any (fun c => !okC c))) := by
  unfold rightL
  rw [Bool.not_or]
  congr 1
  · by_cases h : 32 < l.length <;> simp [h] <;> omega
  · induction l with
    | nil => rfl
    | cons a r ih => simp [ih]
def rightE (l : List Chg) : Int := if rightL l then 0 else 2
set_option maxRecDepth 100000 in
set_option maxHeartbeats 1000000 in
theorem right_any (A : Option Addr) (n c : Nat) (l : List Chg) (w : World) (hn : n ≤ 9223372036854775807) (h : ChRd w w.heap.size A n l) :
    Calls Tryz.prog 13 #[.slice A n c] w fun e w' => e = .returned (.int .i64 (rightE l)) ∧ Below w.heap.size w w' := by
  have HR : Hid (rightE l = if (decide (32 < l.length) || l.any (fun c => !okC c)) then 2 else 0) := by
    show _ = _
    unfold rightE
    rw [rightL_eq]
    cases (decide (32 < l.length) || l.any (fun c => !okC c)) <;> rfl
  rw [h.1] at HR
  have HC := wcontains_any A n c l w hn h
  clear h
  by_cases h1 : 32 < n
  · rw [decide_eq_true h1] at HR
    clear HC
    have h1' : (32 : Int) < n := by omega
    rw [HR.out]
    go_enter Tryz.func13, Tryz.ntmps13
    go_wp2
    go_ret
    exact ⟨rfl, Below.refl _ _⟩
  · rw [decide_eq_false h1] at HR
    have h1' : ¬ (32 : Int) < n := by omega
    cases ha : l.any (fun c => !okC c) with
    | true =>
      rw [ha] at HR HC
      have HC := Lib.hid HC
      clear ha
      rw [HR.out]
      go_enter Tryz.func13, Tryz.ntmps13
      go_wp2_with fail
      refine HC.out.mono ?_
      rintro x w' ⟨rfl, hb⟩
      have Hb := Lib.hid hb
      clear hb HC
      go_wp2
      go_ret
      exact ⟨rfl, Hb.out⟩
    | false =>
      rw [ha] at HR HC
      have HC := Lib.hid HC
      clear ha
      rw [HR.out]
      go_enter Tryz.func13, Tryz.ntmps13
      go_wp2_with fail
      refine HC.out.mono ?_
      rintro x w' ⟨rfl, hb⟩
      have Hb := Lib.hid hb
      clear hb HC
      go_wp2
      go_ret
      exact ⟨rfl, Hb.out⟩
end Go.Proofs.YtfepjgafamaegaaGreat

/- '[]byte(s)' of a text at hand, in a walk and in a region that draws. -/
namespace Go.Proofs.YtfepjgafamaegaaGreat
open Go.RowKit

/-- What '[]byte(s)' gives. -/
def ConvR (w : World) (l : List UInt8) (v : Value) (w' : World) : Prop :=
  ∃ c, v = .slice (some ⟨w.heap.size, 0, none⟩) l.length c ∧ l.length ≤ c ∧ w'.heap.size = w.heap.size + 1 ∧ Rd w' w'.heap.size (some ⟨w.heap.size, 0, none⟩) l.length l ∧ Below w.heap.size w w'
theorem run_conv {P : Program} (w : World) (src dst e : TypeId) (l : List UInt8) (hs : P.underlying src = some .string) (hd : P.underlying dst = some (.slice e)) (he : P.underlying e = some (.int .u8)) :
    ∃ v w', (convert src dst (.string ⟨l.toArray⟩)).run P w = .ok v w' ∧ ConvR w l v w' := by
  have hsz : (⟨l.toArray⟩ : ByteArray).size = l.length := by simp [ByteArray.size]
  refine ⟨_, _, run_bytes_of_string w src dst e ⟨l.toArray⟩ hs hd he, ?_⟩
  refine ⟨grownCap w l.length 0 e, by rw [hsz], grownCap_ge _ _ _ _, by simp, ⟨rfl, fun hn => ⟨w.heap.size, 0, rfl, by simp, fun j hj => ?_⟩⟩, (Below.refl _ w).drew.alloc (Nat.le_refl _) _⟩
  rw [Nat.zero_add]
  have h1 := World.cell?_alloc_mark w.drew (bytesRow ⟨l.toArray⟩ (grownCap w l.length 0 e)) e ((bytesRow ⟨l.toArray⟩ (grownCap w l.length 0 e)).size, (bytesRow ⟨l.toArray⟩ (grownCap w l.length 0 e)).size + 1) j
  rw [hsz]
  refine h1.trans ?_
  have h2 := bytesRow_at ⟨l.toArray⟩ (grownCap w l.length 0 e) j (by simpa using hj)
  rw [h2]
  simp
theorem conv_all {P : Program} (src dst e : TypeId) (l : List UInt8) (hs : P.underlying src = some .string) (hd : P.underlying dst = some (.slice e)) (he : P.underlying e = some (.int .u8)) :
    ∃ (gc : World → Nat) (cw : World → World), (∀ W, (convert src dst (sV l)).run P W = .ok (.slice (some ⟨W.heap.size, 0, none⟩) l.length (gc W)) (cw W)) ∧
      ∀ W, l.length ≤ gc W ∧ (cw W).heap.size = W.heap.size + 1 ∧ Rd (cw W) (cw W).heap.size (some ⟨W.heap.size, 0, none⟩) l.length l ∧ Below W.heap.size W (cw W) := by
  have key : ∀ W : World, ∃ p : Nat × World, (convert src dst (sV l)).run P W = .ok (.slice (some ⟨W.heap.size, 0, none⟩) l.length p.1) p.2 ∧ l.length ≤ p.1 ∧ p.2.heap.size = W.heap.size + 1 ∧ Rd p.2 p.2.heap.size (some ⟨W.heap.size, 0, none⟩) l.length l ∧ Below W.heap.size W p.2 := fun W => by
    obtain ⟨v, w', h1, c, rfl, h2⟩ := run_conv (P := P) W src dst e l hs hd he
    exact ⟨(c, w'), h1, h2⟩
  obtain ⟨f, hf⟩ := Classical.axiomOfChoice key
  exact ⟨fun W => (f W).1, fun W => (f W).2, fun W => (hf W).1, fun W => (hf W).2⟩
/-- Three rows of bytes in a literal. -/
theorem parts3 (w : World) (A1 A2 A3 : Option Addr) (n1 n2 n3 c1 c2 c3 : Nat) (l1 l2 l3 : List UInt8) (h1 : n1 ≤ c1 ∧ c1 ≤ 9223372036854775807) (h2 : n2 ≤ c2 ∧ c2 ≤ 9223372036854775807) (h3 : n3 ≤ c3 ∧ c3 ≤ 9223372036854775807)
    (r1 : Rd w w.heap.size A1 n1 l1) (r2 : Rd w w.heap.size A2 n2 l2) (r3 : Rd w w.heap.size A3 n3 l3) (t : TypeId) :
    Parts (w.alloc (.cells #[.slice A1 n1 c1, .slice A2 n2 c2, .slice A3 n3 c3] t)) (w.alloc (.cells #[.slice A1 n1 c1, .slice A2 n2 c2, .slice A3 n3 c3] t)).heap.size (some ⟨w.heap.size, 0, none⟩) 3 [l1, l2, l3] := by
  have hs : (w.alloc (.cells #[.slice A1 n1 c1, .slice A2 n2 c2, .slice A3 n3 c3] t)).heap.size = w.heap.size + 1 := by simp
  rw [hs]
  refine Parts.lit [(A1, n1, c1), (A2, n2, c2), (A3, n3, c3)] _ rfl rfl rfl rfl ?_
  intro i k1 k2
  match i, k1, k2 with
  | 0, _, _ => exact ⟨h1.1, h1.2, r1⟩
  | 1, _, _ => exact ⟨h2.1, h2.2, r2⟩
  | 2, _, _ => exact ⟨h3.1, h3.2, r3⟩
theorem wpList_conv {P : Program} (w : World) {ops : Array Oper} {rest : List Oper} {o : Oper} {a : Act} {Q : Exit → Act → World → Prop} (hg : o.guard = none) (x : Operand) (src dst e : TypeId) (hop : o.op = Op.convert src dst x)
    (hs : P.underlying src = some .string) (hd : P.underlying dst = some (.slice e)) (he : P.underlying e = some (.int .u8)) (l : List UInt8) (hx : a.eval x = .string ⟨l.toArray⟩)
    (hK : ∀ v w', ConvR w l v w' → wpList P ops Q rest (a.put o.dst v) w') : wpList P ops Q (o :: rest) a w := by
  refine wpList_plain hg fun K' hK' => ?_
  obtain ⟨v, w', hrun, hr⟩ := run_conv (P := P) w src dst e l hs hd he
  unfold Oper.wp
  simp [execOp, hop, hx, hrun, Result.andThen]
  exact hK' _ _ (hK _ _ hr)
set_option maxRecDepth 100000 in
set_option maxHeartbeats 2000000 in
theorem encodeChange_any (c : Chg) (w : World) (hk : c.key.length ≤ 1000) (hv : c.val.length ≤ 1000) :
    Calls Tryz.prog 48 #[chgV c] w fun e w' => ∃ v, e = .returned v ∧ w'.ownsRow w.heap.size 5 1 v (encC c).length (u8s (encC c)) ∧ Below w.heap.size w w' := by
  obtain ⟨k, v, g⟩ := c
  have hk : k.length ≤ 1000 := hk
  have hv : v.length ≤ 1000 := hv
  have HPB : Hid (∀ W A n c l, l.length ≤ 1000 → Rd W W.heap.size A n l → Calls Tryz.prog 84 #[.slice A n c] W fun e w' => ∃ s, e = .returned s ∧ w'.ownsRow W.heap.size 5 1 s (putB l).length (u8s (putB l)) ∧ Below W.heap.size W w') :=
    Lib.hid fun W A n c l hl hr => binPutBytes_any A n c l W (by have := hr.1; omega) hr
  have HPU : Hid (∀ W (n : Nat), n < 128 → Calls Tryz.prog 47 #[.int .u64 n] W fun e w' => ∃ A c, e = .returned (.slice A 1 c) ∧ Rd w' w'.heap.size A 1 (Lib.uvarint n) ∧ (A = none → 1 = 0) ∧ 1 ≤ c ∧ c ≤ 9223372036854775807 ∧ Below W.heap.size W w') := by
    refine Lib.hid fun W n hn => (binPut_any n W (by omega)).mono ?_
    rintro e w' ⟨s, rfl, ho, hb⟩
    have hl : (Lib.uvarint n).length = 1 := by rw [Lib.uvarint_small hn]; rfl
    rw [hl] at ho
    obtain ⟨A, c, rfl, h1, h2⟩ := own_shape ho
    have hr := Rd.of_own ho
    exact ⟨A, c, rfl, hr, hr.none_zero, h1, by unfold maxLen at h2; omega, hb⟩
  have HBk : Hid (Bk (w.alloc (.cells #[sV k, sV v, .bool g] 88)) w.heap.size 88 #[sV k, sV v, .bool g]) := Lib.hid (Bk.new _ _ _)
  have hs0 : Hid ((w.alloc (.cells #[sV k, sV v, .bool g] 88)).heap.size = w.heap.size + 1) := Lib.hid (by simp)
  have hb0 : Hid (Below w.heap.size w (w.alloc (.cells #[sV k, sV v, .bool g] 88))) := Lib.hid ((Below.refl _ _).alloc (Nat.le_refl _) _)
  have HCc : Hid (∀ W, Below (w.alloc (.cells #[sV k, sV v, .bool g] 88)).heap.size (w.alloc (.cells #[sV k, sV v, .bool g] 88)) W → W.cell? ⟨w.heap.size, 1, none⟩ = some (sV v) ∧ W.cell? ⟨w.heap.size, 2, none⟩ = some (.bool g)) :=
    Lib.hid fun W hb => ⟨(HBk.out.below hb HBk.out.lt).cell 1, (HBk.out.below hb HBk.out.lt).cell 2⟩
  obtain ⟨i0, hi0, hz0, hz1, hz2⟩ := info_parts Tryz.infoU8
  have hpk : (putB k).length ≤ 1010 := by rw [putB_len]; have := Lib.uvarint_length64 (x := k.length) (by omega); omega
  have hpv : (putB v).length ≤ 1010 := by rw [putB_len]; have := Lib.uvarint_length64 (x := v.length) (by omega); omega
  cases g with
  | true =>
    go_enter Tryz.func48, Tryz.ntmps48
    go_wp2_with (refine wpList_conv _ rfl _ 9 23 5 rfl Tryz.underlying9 Tryz.underlying23 Tryz.underlying5 k rfl ?_; rintro v1 w1 ⟨c1, rfl, hc1, hs1, hr1, hb1⟩)
    generalize w.alloc (.cells #[sV k, sV v, .bool true] 88) = W0 at *
    rw [hs0.out] at hr1
    refine (HPB.out _ _ _ _ _ hk hr1).mono ?_
    rintro x w2 ⟨v2, rfl, ho2, hb2⟩
    have hb02 := below_then hb1 hb2
    obtain ⟨_, hg2⟩ := HCc.out _ hb02
    have Ho2 := Lib.hid ho2
    have Hb02 := Lib.hid hb02
    obtain ⟨A2, cp2, rfl, hcp⟩ := own_shape ho2
    have hbs := hb1.size
    have hb2z := hb2.size
    clear ho2 hb02 hb2 hr1 hb1 hs1 hc1
    go_wp2_with fail
    refine (HPU.out w2 1 (by decide)).mono ?_
    rintro x w3 ⟨A3, c3, rfl, hr3, hA3, h31, h32, hb3⟩
    have hsz := hb3.size
    have hbz := Hb02.out.size
    have ho3 := own_below Ho2.out hb3 (fun g hg => (Ho2.out.lt g hg).2)
    go_wp2_with (at_builtin; refine wpList_append_app _ rfl _ _ 23 rfl w1.heap.size 5 i0 (.int .u8 0) 1 1 Tryz.underlying23 hi0 hz0 hz1 hz2 rfl _ _ _ rfl ho3 A3 1 c3 (u8s (Lib.uvarint 1)) rfl (by rw [u8s_len, hr3.1]) hA3 hr3.cells (u8s_one _) (by unfold maxLen; omega) (by omega) (by omega) ?_)
    intro v4 w4 ha
    have ho := own_mono (base' := w.heap.size) ha.own (by have := hs0.out; omega)
    have Ho := Lib.hid ho
    have hb3' : Below w.heap.size w w3 := below_then hb0.out (below_then Hb02.out hb3)
    have Hbl : Hid (Below w.heap.size w w4) := Lib.hid (ha.below (B := w.heap.size) hb3' hb3'.size (fun g hg => by have := own_block_ge ho3 g hg; have := hs0.out; omega))
    clear ho ha ho3 hb3' hr3 hA3
    go_wp2
    go_ret
    refine ⟨_, rfl, ?_, Hbl.out⟩
    have := Ho.out
    rw [uvarint_one] at this
    unfold encC
    simpa [u8s_append] using this
  | false =>
    go_enter Tryz.func48, Tryz.ntmps48
    go_wp2_with (refine wpList_conv _ rfl _ 9 23 5 rfl Tryz.underlying9 Tryz.underlying23 Tryz.underlying5 k rfl ?_; rintro v1 w1 ⟨c1, rfl, hc1, hs1, hr1, hb1⟩)
    generalize w.alloc (.cells #[sV k, sV v, .bool false] 88) = W0 at *
    rw [hs0.out] at hr1
    refine (HPB.out _ _ _ _ _ hk hr1).mono ?_
    rintro x w2 ⟨v2, rfl, ho2, hb2⟩
    have hb02 := below_then hb1 hb2
    obtain ⟨_, hg2⟩ := HCc.out _ hb02
    have Hr2 : Hid (∀ v, v = v2 → ∃ A c, v = .slice A (putB k).length c ∧ (putB k).length ≤ c ∧ c ≤ 9223372036854775807 ∧ Rd w2 w2.heap.size A (putB k).length (putB k)) := Lib.hid (by
      rintro v rfl
      obtain ⟨A, c, rfl, h1, h2⟩ := own_shape ho2
      exact ⟨A, c, rfl, h1, by unfold maxLen at h2; omega, Rd.of_own ho2⟩)
    obtain ⟨A2, cp2, rfl, hcp, hcm, hr2⟩ := Hr2.out _ rfl
    have HR2 := Lib.hid hr2
    have Hb02 := Lib.hid hb02
    have hW2 : Hid (∀ W, Below w2.heap.size w2 W → W.cell? ⟨w.heap.size, 1, none⟩ = some (sV v)) := Lib.hid fun W hb => (HCc.out _ (below_then hb02 hb)).1
    clear ho2 hb02 hb2 hr1 hb1 hs1 hc1 hr2 Hr2
    have HCAT : Hid (∀ W A1 A2 A3 c1 c2 c3, (putB k).length ≤ c1 ∧ c1 ≤ 9223372036854775807 → 1 ≤ c2 ∧ c2 ≤ 9223372036854775807 → (putB v).length ≤ c3 ∧ c3 ≤ 9223372036854775807 → Rd W W.heap.size A1 (putB k).length (putB k) → Rd W W.heap.size A2 1 (Lib.uvarint 0) → Rd W W.heap.size A3 (putB v).length (putB v) → Below w2.heap.size w2 W →
        Calls Tryz.prog 85 #[.slice (some ⟨W.heap.size, 0, none⟩) 3 3] (W.alloc (.cells #[.slice A1 (putB k).length c1, .slice A2 1 c2, .slice A3 (putB v).length c3] 23)) fun e w' => ∃ A c, e = .returned (.slice A (encC ⟨k, v, false⟩).length c) ∧
          w'.ownsRow w2.heap.size 5 1 (.slice A (encC ⟨k, v, false⟩).length c) (encC ⟨k, v, false⟩).length (u8s (encC ⟨k, v, false⟩)) ∧ Below w2.heap.size w2 w') := by
      refine Lib.hid fun W A1 A2 A3 c1 c2 c3 h1 h2 h3 r1 r2 r3 hb => ?_
      have hfl : [putB k, Lib.uvarint 0, putB v].flatten = encC ⟨k, v, false⟩ := by rw [uvarint_zero]; simp [encC]
      have hle : (encC ⟨k, v, false⟩).length ≤ 140737488355328 := by rw [← hfl, uvarint_zero]; simp; omega
      refine (concat_any _ 3 3 _ _ (by decide) (by rw [hfl]; exact hle) (parts3 W A1 A2 A3 _ _ _ c1 c2 c3 _ _ _ h1 h2 h3 r1 r2 r3 23)).mono ?_
      rintro e w' ⟨s, rfl, ho, hb2⟩
      rw [hfl] at ho
      obtain ⟨A, c, rfl, _⟩ := own_shape ho
      refine ⟨A, c, rfl, own_mono ho (by have := hb.size; simp; omega), below_then hb (below_then ((Below.refl _ _).alloc (Nat.le_refl _) _) hb2)⟩
    go_upto_region 4 with (fail)
    go_cut [2] (fun s w' => ∃ A c, s = .slice A (encC ⟨k, v, false⟩).length c ∧ w'.ownsRow w2.heap.size 5 1 s (encC ⟨k, v, false⟩).length (u8s (encC ⟨k, v, false⟩)) ∧ Below w2.heap.size w2 w')
    case first =>
      have k0 := hW2.out _ (Below.refl _ _)
      have hd0 : Below w2.heap.size w2 w2.drew := (Below.refl _ _).drew
      obtain ⟨gc, cw, kc, HCW⟩ := conv_all (P := Tryz.prog) 9 23 5 v Tryz.underlying9 Tryz.underlying23 Tryz.underlying5
      have HCW := Lib.hid HCW
      go_region_law (first
          | (go_simp; go_at_call 47; refine (HPU.out _ 0 (by decide)).mono ?_; rintro x w3 ⟨A3, c3, rfl, hr3, hA3, h31, h32, hb3⟩; (have hd3 : Below w2.heap.size w2 w3 := by first | exact below_then hd0 hb3 | exact below_then (below_then hd0 (HCW.out _).2.2.2) hb3); (have k3 := hW2.out w3 hd3))
          | (go_simp; go_at_call 84; refine (HPB.out _ _ _ _ _ hv (by first | exact (HCW.out _).2.2.1 | exact ((HCW.out w2.drew).2.2.1).up hb3)).mono ?_; rintro x w6 ⟨v6, rfl, ho6, hb6⟩; (obtain ⟨A6, c6, rfl, h61, h62⟩ := own_shape ho6); (have hr6 := Rd.of_own ho6); (have hr3' : Rd w6 w6.heap.size A3 1 (Lib.uvarint 0) := by first | exact hr3.up hb6 | exact (hr3.up (HCW.out _).2.2.2).up hb6); (have hd6 : Below w2.heap.size w2 w6 := by first | exact below_then (below_then hd3 (HCW.out _).2.2.2) hb6 | exact below_then hd3 hb6))
          | (go_simp; go_at_call 85; refine (HCAT.out w6 A2 A3 A6 cp2 c3 c6 ⟨hcp, hcm⟩ ⟨h31, h32⟩ ⟨h61, by unfold maxLen at h62; omega⟩ (HR2.out.up hd6) hr3' hr6 hd6).mono ?_; rintro x w7 ⟨A7, c7, rfl, ho7, hb7⟩))
      all_goals
        go_wp2_with fail
        go_meet
        exact ⟨_, _, rfl, ho7, hb7⟩
    case rest =>
      obtain ⟨A, c, rfl, ho, hb⟩ := hcut
      have Ho := Lib.hid (own_mono (base' := w.heap.size) ho (by have := hb0.out.size; have := Hb02.out.size; omega))
      have Hb := Lib.hid (below_then hb0.out (below_then Hb02.out hb))
      clear ho hb
      go_wp2
      go_ret
      exact ⟨_, rfl, Ho.out, Hb.out⟩
end Go.Proofs.YtfepjgafamaegaaGreat

/- The program's Encode. -/
namespace Go.Proofs.YtfepjgafamaegaaGreat
open Go.RowKit

theorem encC_len (c : Chg) (h : okC c = true) : (encC c).length ≤ 165 := by
  unfold okC at h
  simp only [Bool.and_eq_true, decide_eq_true_eq] at h
  obtain ⟨h1, h2, h3⟩ := h
  have e1 := Lib.uvarint_length64 (x := c.key.length) (by omega)
  unfold encC
  cases hg : c.gone with
  | true => simp [putB_len]; omega
  | false =>
    rw [hg] at h3
    simp only [Bool.false_eq_true, if_false, decide_eq_true_eq] at h3
    have e2 := Lib.uvarint_length64 (x := c.val.length) (by omega)
    simp [putB_len]
    omega
theorem bodyL_len (l : List Chg) (h : l.all okC = true) : (bodyL l).length ≤ 165 * l.length := by
  induction l with
  | nil => simp [bodyL]
  | cons a r ih =>
    simp only [List.all_cons, Bool.and_eq_true] at h
    rw [bodyL_cons, List.length_append, List.length_cons]
    have := encC_len a h.1
    have := ih h.2
    omega
theorem allC_take {l : List Chg} (h : l.all okC = true) (k : Nat) : (l.take k).all okC = true := List.all_eq_true.2 fun x hx => List.all_eq_true.1 h x (List.mem_of_mem_take hx)
theorem bodyL_next {l : List Chg} {k : Nat} (h : k < l.length) : bodyL (l.take (k + 1)) = bodyL (l.take k) ++ encC l[k] := by
  rw [List.take_succ_eq_append_getElem h, bodyL_app]
  simp [bodyL]

set_option maxRecDepth 100000 in
set_option maxHeartbeats 2000000 in
theorem encode_any (A : Option Addr) (n c : Nat) (l : List Chg) (w : World) (hc : n ≤ c) (hm : c ≤ 9223372036854775807) (h : ChRd w w.heap.size A n l) :
    Calls Tryz.prog 14 #[.slice A n c] w fun e w' => ∃ v, e = .returned (.tuple #[v, .int .i64 (encodeS l).2]) ∧ w'.ownsRow w.heap.size 5 1 v (encodeS l).1.length (u8s (encodeS l).1) ∧ Below w.heap.size w w' := by
  have HR := right_any A n c l w (by omega) h
  cases hr : rightL l with
  | false =>
    have hE : encodeS l = ([], 2) := by unfold encodeS; rw [if_pos hr]
    have hR : rightE l = 2 := by unfold rightE; rw [hr]; rfl
    rw [hR] at HR
    rw [hE]
    have HR := Lib.hid HR
    clear h hr hE hR
    go_enter Tryz.func14, Tryz.ntmps14
    go_wp2_with fail
    refine HR.out.mono ?_
    rintro x w' ⟨rfl, hb⟩
    have Hb := Lib.hid hb
    clear hb
    go_wp2
    go_ret2
    exact ⟨_, rfl, World.ownsRow_nil _ _ _ _, Hb.out⟩
  | true =>
    have hR : rightE l = 0 := by unfold rightE; rw [hr]; rfl
    rw [hR] at HR
    have hra := hr
    unfold rightL at hra
    simp only [Bool.and_eq_true, decide_eq_true_eq] at hra
    obtain ⟨hn32, hall⟩ := hra
    have hln := h.1
    have HE : Hid (encodeS l = if 1024 < (encL l).length then ([], 3) else (encL l, 0)) := by show _ = _; unfold encodeS; rw [if_neg (by simp [hr])]
    have hnn : n ≤ 32 := by omega
    obtain ⟨i0, hi0, hz0, hz1, hz2⟩ := info_parts Tryz.infoU8
    have HR := Lib.hid HR
    have HP := Lib.hid h
    have Hall := Lib.hid hall
    have Hln := Lib.hid hln
    have hwu : IntKind.u64.wrap (n : Int) = n := by rw [IntKind.wrap_u64]; omega
    have HU := Lib.hid (fun W => binPut_any n W (by omega))
    have hul := Lib.uvarint_length64 (x := n) (by omega)
    have HEC : Hid (∀ W (k : Nat) (hk : k < l.length), Calls Tryz.prog 48 #[chgV l[k]] W fun e w' => ∃ A c, e = .returned (.slice A (encC l[k]).length c) ∧ Rd w' w'.heap.size A (encC l[k]).length (encC l[k]) ∧ (A = none → (encC l[k]).length = 0) ∧ Below W.heap.size W w') := by
      refine Lib.hid fun W k hk => ?_
      have hok : okC l[k] = true := List.all_eq_true.1 hall _ (List.getElem_mem _)
      have h1 : l[k].key.length ≤ 16 ∧ l[k].val.length ≤ 128 := by
        unfold okC at hok
        simp only [Bool.and_eq_true, decide_eq_true_eq] at hok
        refine ⟨hok.2.1, ?_⟩
        have := hok.2.2
        split at this <;> simp at this <;> simp_all
      refine (encodeChange_any l[k] W (by omega) (by omega)).mono ?_
      rintro e w' ⟨s, rfl, ho, hb⟩
      obtain ⟨A, c, rfl, _⟩ := own_shape ho
      have hr := Rd.of_own ho
      exact ⟨A, c, rfl, hr, hr.none_zero, hb⟩
    clear h hr hR hall hn32 hln
    go_enter Tryz.func14, Tryz.ntmps14
    go_wp2_with fail
    refine HR.out.mono ?_
    rintro x w1 ⟨rfl, hb1⟩
    clear HR
    go_wp2_with fail
    refine (HU.out w1).mono ?_
    rintro x w2 ⟨v2, rfl, ho2, hb2⟩
    have Ho2 := Lib.hid (own_mono (base' := w.heap.size) ho2 hb1.size)
    have Hb2 := Lib.hid (below_then hb1 hb2)
    clear ho2 hb2 hb1 HU
    go_wp2
    go_loopg [5, 19] n (fun g v i wr => ∃ (vv : Value) (k : Nat), v = vv ∧ i = .int .i64 k ∧ k + g = n ∧ Hid (wr.ownsRow w.heap.size 5 1 vv (Lib.uvarint n ++ bodyL (l.take k)).length (u8s (Lib.uvarint n ++ bodyL (l.take k)))) ∧ Hid (Below w.heap.size w wr))
    case atStart => exact ⟨_, 0, rfl, rfl, by omega, by simpa [bodyL] using Ho2, Hb2⟩
    case round =>
      obtain ⟨vv, k, rfl, rfl, hk, Ho, Hb⟩ := hrel
      by_cases hkn : k < n
      · obtain ⟨Av, cv, rfl, hcv⟩ := own_shape Ho.out
        have hkl : k < l.length := by rw [Hln.out]; exact hkn
        obtain ⟨b, o, rfl, hbw, c0, c1, c2⟩ := (HP.out.below Hb.out).2 k hkl
        have HC := Lib.hid (fun W => HEC.out W k hkl)
        have hnx := bodyL_next hkl
        have hel := encC_len l[k] (List.all_eq_true.1 Hall.out _ (List.getElem_mem _))
        have hbl := bodyL_len _ (allC_take Hall.out k)
        have htk : (l.take k).length = k := by rw [List.length_take]; omega
        rw [htk] at hbl
        have hPl : (Lib.uvarint n ++ bodyL (l.take k)).length ≤ 10 + 165 * k := by rw [List.length_append]; omega
        have Hnx : Hid (Lib.uvarint n ++ bodyL (l.take (k + 1)) = (Lib.uvarint n ++ bodyL (l.take k)) ++ encC l[k]) := by show _ = _; rw [hnx, List.append_assoc]
        generalize l[k] = ch at *
        generalize Lib.uvarint n ++ bodyL (l.take k) = P at *
        clear hnx hbl htk hkl
        go_wp2_with fail
        refine (HC.out _).mono ?_
        rintro x w3 ⟨A3, c3, rfl, hr3, hA3, hb3⟩
        have hb13 : Below wr.heap.size wr w3 := below_then ((Below.refl _ _).alloc (Nat.le_refl _) _) hb3
        have ho3 := own_below Ho.out hb13 (fun g hg => (Ho.out.lt g hg).2)
        have hwb := (below_then Hb.out hb13).size
        have Hb3 := Lib.hid (below_then Hb.out hb13)
        clear hb3 hb13
        go_wp2_with (at_builtin; refine wpList_append_app _ rfl _ _ 23 rfl w.heap.size 5 i0 (.int .u8 0) 1 1 Tryz.underlying23 hi0 hz0 hz1 hz2 rfl _ _ _ rfl ho3 A3 _ c3 (u8s (encC ch)) rfl (by rw [u8s_len, Nat.mul_one]) hA3 hr3.cells (u8s_one _) (by unfold maxLen; omega) (by omega) hwb ?_)
        intro v4 w4 ha
        have hb4 := ha.below (B := w.heap.size) Hb3.out hwb (own_block_ge ho3)
        have Hb4 := Lib.hid hb4
        have Ho4 := Lib.hid ha.own
        clear ha ho3 hb4 hr3 hA3
        go_wp2
        go_roundg (gk - 1)
        case measure => omega
        case rel => exact ⟨_, k + 1, rfl, by go_num, by omega, by rw [Hnx.out, List.length_append, u8s_append]; exact Ho4, Hb4⟩
      · have hkn' : k = n := by omega
        subst hkn'
        have htk : l.take k = l := List.take_of_length_le (by rw [Hln.out]; omega)
        have hPL : Lib.uvarint k ++ bodyL (l.take k) = encL l := by rw [htk]; unfold encL; rw [Hln.out]
        rw [hPL] at Ho
        obtain ⟨Av, cv, rfl, hcv⟩ := own_shape Ho.out
        by_cases hlong : 1024 < (encL l).length
        · have HEE : Hid (encodeS l = ([], 3)) := by show _ = _; rw [HE.out, if_pos hlong]
          clear HE htk hPL hkn
          generalize encL l = P at *
          have hlong' : (1024 : Int) < (P.length : Int) := by omega
          go_wp2
          go_ret2
          rw [HEE.out]
          exact ⟨_, rfl, World.ownsRow_nil _ _ _ _, Hb.out⟩
        · have HEE : Hid (encodeS l = (encL l, 0)) := by show _ = _; rw [HE.out, if_neg hlong]
          clear HE htk hPL hkn
          generalize encL l = P at *
          have hlong' : ¬ (1024 : Int) < (P.length : Int) := by omega
          go_wp2
          go_ret2
          rw [HEE.out]
          exact ⟨_, rfl, Ho.out, Hb.out⟩
end Go.Proofs.YtfepjgafamaegaaGreat

/- The document's Right and Encode. -/
namespace Go.Proofs.YtfepjgafamaegaaGreat
open Go.RowKit

theorem okC_cases (c : Chg) : okC c = (if c.key.length < 1 then false else if 16 < c.key.length then false else if 128 < c.val.length then false else if c.gone = true then decide (c.val.length = 0) else true) := by
  unfold okC
  by_cases h1 : c.key.length < 1
  · rw [if_pos h1, decide_eq_false (by omega)]; rfl
  · rw [if_neg h1, decide_eq_true (by omega)]
    by_cases h2 : 16 < c.key.length
    · rw [if_pos h2, decide_eq_false (p := c.key.length ≤ 16) (by omega)]; rfl
    · rw [if_neg h2, decide_eq_true (p := c.key.length ≤ 16) (by omega)]
      by_cases h3 : 128 < c.val.length
      · rw [if_pos h3]
        by_cases h4 : c.gone = true
        · rw [if_pos h4, decide_eq_false (by omega)]; rfl
        · rw [if_neg h4, decide_eq_false (by omega)]; rfl
      · rw [if_neg h3]
        by_cases h4 : c.gone = true
        · rw [if_pos h4, if_pos h4]; rfl
        · rw [if_neg h4, if_neg h4, decide_eq_true (by omega)]; rfl

set_option maxRecDepth 100000 in
set_option maxHeartbeats 2000000 in
theorem refRight_any (A : Option Addr) (n c : Nat) (l : List Chg) (w : World) (hn : n ≤ 9223372036854775807) (h : ChRd w w.heap.size A n l) :
    Calls Tryz.prog 18 #[.slice A n c] w fun e w' => e = .returned (.int .i64 (rightE l)) ∧ Below w.heap.size w w' := by
  have HR : Hid (rightE l = if (decide (32 < l.length) || l.any (fun c => !okC c)) then 2 else 0) := by
    show _ = _
    unfold rightE
    rw [rightL_eq]
    cases (decide (32 < l.length) || l.any (fun c => !okC c)) <;> rfl
  have Hl := Lib.hid h.1
  rw [h.1] at HR
  have HP := Lib.hid h
  clear h
  by_cases h1 : 32 < n
  · rw [decide_eq_true h1] at HR
    have h1' : (32 : Int) < n := by omega
    rw [HR.out]
    go_enter Tryz.func18, Tryz.ntmps18
    go_wp2
    go_ret
    exact ⟨rfl, Below.refl _ _⟩
  · rw [decide_eq_false h1] at HR
    have h1' : ¬ (32 : Int) < n := by omega
    go_enter Tryz.func18, Tryz.ntmps18
    go_wp2
    go_loopg [3] n (fun g i wr => ∃ k : Nat, i = .int .i64 k ∧ k + g = n ∧ Hid (l.any (fun c => !okC c) = (l.drop k).any (fun c => !okC c)) ∧ Hid (Below w.heap.size w wr))
    case atStart => exact ⟨0, rfl, by omega, Lib.hid (by simp), Lib.hid (Below.refl _ _)⟩
    case round =>
      obtain ⟨k, rfl, hk, Hs, Hb⟩ := hrel
      by_cases hkn : k < n
      · have hkl : k < l.length := by rw [Hl.out]; exact hkn
        obtain ⟨b, o, rfl, hbw, c0, c1, c2⟩ := (HP.out.below Hb.out).2 k hkl
        have hdc : l.drop k = l[k] :: l.drop (k + 1) := List.drop_eq_getElem_cons hkl
        have Hlk : Hid ((l.drop k).any (fun c => !okC c) = ((!okC l[k]) || (l.drop (k + 1)).any (fun c => !okC c))) := by
          show _ = _
          rw [hdc]
          rfl
        generalize l[k] = ch at *
        have hoc := okC_cases ch
        have Hb2 := Lib.hid (below_then Hb.out ((Below.refl _ _).alloc (Nat.le_refl _) (.cells #[sV ch.key, sV ch.val, .bool ch.gone] 88)))
        obtain ⟨ck, cv, cg⟩ := ch
        have hoc : okC ⟨ck, cv, cg⟩ = (if ck.length < 1 then false else if 16 < ck.length then false else if 128 < cv.length then false else if cg = true then decide (cv.length = 0) else true) := hoc
        clear hdc hkl
        have Hoc := Lib.hid hoc
        clear hoc
        have fin : ∀ b, okC ⟨ck, cv, cg⟩ = b → b = false → Hid (rightE l = 2) := by
          rintro _ rfl hf
          show _ = _
          rw [HR.out, Hs.out, Hlk.out, hf]
          rfl
        have nxt : ∀ b, okC ⟨ck, cv, cg⟩ = b → b = true → Hid (l.any (fun c => !okC c) = (l.drop (k + 1)).any (fun c => !okC c)) := by
          rintro _ rfl hf
          show _ = _
          rw [Hs.out, Hlk.out, hf]
          rfl
        by_cases k1 : ck.length < 1
        · have F := fin _ Hoc.out (by rw [if_pos k1])
          have k1' : (ck.length : Int) < 1 := by omega
          clear fin nxt
          go_wp2
          go_ret
          rw [F.out]
          exact ⟨rfl, Hb2.out⟩
        · have k1' : ¬ (ck.length : Int) < 1 := by omega
          by_cases k2 : 16 < ck.length
          · have F := fin _ Hoc.out (by rw [if_neg k1, if_pos k2])
            have k2' : (16 : Int) < (ck.length : Int) := by omega
            clear fin nxt
            go_wp2
            go_ret
            rw [F.out]
            exact ⟨rfl, Hb2.out⟩
          · have k2' : ¬ (16 : Int) < (ck.length : Int) := by omega
            by_cases k3 : 128 < cv.length
            · have F := fin _ Hoc.out (by rw [if_neg k1, if_neg k2, if_pos k3])
              have k3' : (128 : Int) < (cv.length : Int) := by omega
              clear fin nxt
              go_wp2
              go_ret
              rw [F.out]
              exact ⟨rfl, Hb2.out⟩
            · have k3' : ¬ (128 : Int) < (cv.length : Int) := by omega
              cases cg with
              | true =>
                by_cases k4 : cv.length = 0
                · have N := nxt _ Hoc.out (by rw [if_neg k1, if_neg k2, if_neg k3, if_pos rfl, decide_eq_true k4])
                  have k4' : ¬ (0 : Int) < (cv.length : Int) := by omega
                  clear fin nxt k4
                  go_wp2
                  go_roundg (gk - 1)
                  case measure => omega
                  case rel => exact ⟨k + 1, by go_num, by omega, N, Hb2⟩
                · have F := fin _ Hoc.out (by rw [if_neg k1, if_neg k2, if_neg k3, if_pos rfl, decide_eq_false k4])
                  have k4' : (0 : Int) < (cv.length : Int) := by omega
                  clear fin nxt k4
                  go_wp2
                  go_ret
                  rw [F.out]
                  exact ⟨rfl, Hb2.out⟩
              | false =>
                have N := nxt _ Hoc.out (by rw [if_neg k1, if_neg k2, if_neg k3, if_neg (by decide)])
                clear fin nxt
                go_wp2
                go_roundg (gk - 1)
                case measure => omega
                case rel => exact ⟨k + 1, by go_num, by omega, N, Hb2⟩
      · have hnil : l.drop k = [] := List.drop_eq_nil_of_le (by rw [Hl.out]; omega)
        have HR2 : Hid (rightE l = 0) := by show _ = _; rw [HR.out, Hs.out, hnil]; rfl
        clear hnil
        go_wp2
        go_ret
        rw [HR2.out]
        exact ⟨rfl, Hb.out⟩

/-- A row of bytes that a call gave, to be appended. -/
def GaveB (W : World) (l : List UInt8) (e : Ending) (w' : World) : Prop := ∃ A c, e = .returned (.slice A l.length c) ∧ w'.ownsRow W.heap.size 5 1 (.slice A l.length c) l.length (u8s l) ∧ Below W.heap.size W w'

set_option maxRecDepth 100000 in
set_option maxHeartbeats 4000000 in
theorem refEncode_any (A : Option Addr) (n c : Nat) (l : List Chg) (w : World) (hc : n ≤ c) (hm : c ≤ 9223372036854775807) (h : ChRd w w.heap.size A n l) :
    Calls Tryz.prog 16 #[.slice A n c] w fun e w' => ∃ v, e = .returned (.tuple #[v, .int .i64 (encodeS l).2]) ∧ w'.ownsRow w.heap.size 5 1 v (encodeS l).1.length (u8s (encodeS l).1) ∧ Below w.heap.size w w' := by
  have HR := refRight_any A n c l w (by omega) h
  cases hr : rightL l with
  | false =>
    have hE : encodeS l = ([], 2) := by unfold encodeS; rw [if_pos hr]
    have hR : rightE l = 2 := by unfold rightE; rw [hr]; rfl
    rw [hR] at HR
    rw [hE]
    have HR := Lib.hid HR
    clear h hr hE hR
    go_enter Tryz.func16, Tryz.ntmps16
    go_wp2_with fail
    refine HR.out.mono ?_
    rintro x w' ⟨rfl, hb⟩
    have Hb := Lib.hid hb
    clear hb
    go_wp2
    go_ret2
    exact ⟨_, rfl, World.ownsRow_nil _ _ _ _, Hb.out⟩
  | true =>
    have hR : rightE l = 0 := by unfold rightE; rw [hr]; rfl
    rw [hR] at HR
    have hra := hr
    unfold rightL at hra
    simp only [Bool.and_eq_true, decide_eq_true_eq] at hra
    obtain ⟨hn32, hall⟩ := hra
    have hln := h.1
    have HE : Hid (encodeS l = if 1024 < (encL l).length then ([], 3) else (encL l, 0)) := by show _ = _; unfold encodeS; rw [if_neg (by simp [hr])]
    have hnn : n ≤ 32 := by omega
    obtain ⟨i0, hi0, hz0, hz1, hz2⟩ := info_parts Tryz.infoU8
    have HR := Lib.hid HR
    have HP := Lib.hid h
    have Hall := Lib.hid hall
    have Hln := Lib.hid hln
    have hwu : IntKind.u64.wrap (n : Int) = n := by rw [IntKind.wrap_u64]; omega
    have HU := Lib.hid (fun W => refPut_any n W (by omega))
    have hul := Lib.uvarint_length64 (x := n) (by omega)
    have HPB : Hid (∀ W A c (l : List UInt8), l.length ≤ 1000 → Rd W W.heap.size A l.length l → Calls Tryz.prog 55 #[.slice A l.length c] W (GaveB W (putB l))) := by
      refine Lib.hid fun W A c l hl hr => (refPutBytes_any A l.length c l W (by omega) hr).mono ?_
      rintro e w' ⟨s, rfl, ho, hb⟩
      obtain ⟨A, c, rfl, _⟩ := own_shape ho
      exact ⟨A, c, rfl, ho, hb⟩
    clear h hr hR hall hn32 hln
    go_enter Tryz.func16, Tryz.ntmps16
    go_wp2_with fail
    refine HR.out.mono ?_
    rintro x w1 ⟨rfl, hb1⟩
    clear HR
    go_wp2_with fail
    refine (HU.out w1).mono ?_
    rintro x w2 ⟨v2, rfl, ho2, hb2⟩
    have Ho2 := Lib.hid (own_mono (base' := w.heap.size) ho2 hb1.size)
    have Hb2 := Lib.hid (below_then hb1 hb2)
    clear ho2 hb2 hb1 HU
    go_wp2
    go_loopg [5, 6] n (fun g v i wr => ∃ (vv : Value) (k : Nat), v = vv ∧ i = .int .i64 k ∧ k + g = n ∧ Hid (wr.ownsRow w.heap.size 5 1 vv (Lib.uvarint n ++ bodyL (l.take k)).length (u8s (Lib.uvarint n ++ bodyL (l.take k)))) ∧ Hid (Below w.heap.size w wr))
    case atStart => exact ⟨_, 0, rfl, rfl, by omega, by simpa [bodyL] using Ho2, Hb2⟩
    case round =>
      obtain ⟨vv, k, rfl, rfl, hk, Ho, Hb⟩ := hrel
      by_cases hkn : k < n
      · obtain ⟨Av, cv, rfl, hcv⟩ := own_shape Ho.out
        have hkl : k < l.length := by rw [Hln.out]; exact hkn
        obtain ⟨b, o, rfl, hbw, c0, _, _⟩ := (HP.out.below Hb.out).2 k hkl
        have HCell : Hid (∀ W, Below w.heap.size w W → W.cell? ⟨b, o + k * 3, none⟩ = some (sV l[k].key) ∧ W.cell? ⟨b, o + k * 3 + 1, none⟩ = some (sV l[k].val) ∧ W.cell? ⟨b, o + k * 3 + 2, none⟩ = some (.bool l[k].gone)) := by
          refine Lib.hid fun W hb => ?_
          obtain ⟨b', o', he, _, h1, h2, h3⟩ := (HP.out.below hb).2 k hkl
          injection he with he
          injection he with he1 he2
          subst he1 he2
          exact ⟨h1, h2, h3⟩
        have hnx := bodyL_next hkl
        have hok : okC l[k] = true := List.all_eq_true.1 Hall.out _ (List.getElem_mem _)
        have hel := encC_len l[k] hok
        have hkv : l[k].key.length ≤ 16 ∧ l[k].val.length ≤ 128 := by
          rw [okC_cases] at hok
          by_cases h1 : l[k].key.length < 1
          · simp [h1] at hok
          · by_cases h2 : 16 < l[k].key.length
            · simp [h1, h2] at hok
            · by_cases h3 : 128 < l[k].val.length
              · simp [h1, h2, h3] at hok
              · omega
        have hbl := bodyL_len _ (allC_take Hall.out k)
        have htk : (l.take k).length = k := by rw [List.length_take]; omega
        rw [htk] at hbl
        have hPl : (Lib.uvarint n ++ bodyL (l.take k)).length ≤ 10 + 165 * k := by rw [List.length_append]; omega
        have Hnx : Hid (Lib.uvarint n ++ bodyL (l.take (k + 1)) = (Lib.uvarint n ++ bodyL (l.take k)) ++ encC l[k]) := by show _ = _; rw [hnx, List.append_assoc]
        generalize l[k] = ch at *
        generalize Lib.uvarint n ++ bodyL (l.take k) = P at *
        obtain ⟨ck, cv', cg⟩ := ch
        obtain ⟨hk16, hv128⟩ := hkv
        have hk16 : ck.length ≤ 16 := hk16
        have hv128 : cv'.length ≤ 128 := hv128
        clear hnx hbl htk hkl hok
        have hpk : (putB ck).length ≤ 30 := by rw [putB_len]; have := Lib.uvarint_length64 (x := ck.length) (by omega); omega
        have hpv : (putB cv').length ≤ 150 := by rw [putB_len]; have := Lib.uvarint_length64 (x := cv'.length) (by omega); omega
        obtain ⟨g1, f1, kc1, HF1⟩ := conv_all (P := Tryz.prog) 9 23 5 ck Tryz.underlying9 Tryz.underlying23 Tryz.underlying5
        obtain ⟨g2, f2, kc2, HF2⟩ := conv_all (P := Tryz.prog) 9 23 5 cv' Tryz.underlying9 Tryz.underlying23 Tryz.underlying5
        have HF1 := Lib.hid HF1
        have HF2 := Lib.hid HF2
        go_wp2_with fail
        refine (HPB.out _ _ _ _ (by omega) (HF1.out wr).2.2.1).mono ?_
        rintro x w3 ⟨A3, c3, rfl, ho3, hb3⟩
        have hB3 := below_then Hb.out (below_then (HF1.out wr).2.2.2 hb3)
        obtain ⟨_, d1, _⟩ := HCell.out w3 hB3
        have Ho3 := Lib.hid ho3
        have HB3 := Lib.hid hB3
        have hz3 : wr.heap.size ≤ w3.heap.size := (below_then (HF1.out wr).2.2.2 hb3).size
        have HP3 := Lib.hid (own_below Ho.out (below_then (HF1.out wr).2.2.2 hb3) (fun g hg => (Ho.out.lt g hg).2))
        clear ho3 hb3 hB3
        go_wp2_with fail
        refine (HPB.out _ _ _ _ (by omega) (HF2.out w3).2.2.1).mono ?_
        rintro x w4 ⟨A4, c4, rfl, ho4, hb4⟩
        have hb34 := below_then (HF2.out w3).2.2.2 hb4
        have hB4 := below_then HB3.out hb34
        have ho3' := own_below Ho3.out hb34 (fun g hg => (Ho3.out.lt g hg).2)
        have hP4 := own_below HP3.out hb34 (fun g hg => (HP3.out.lt g hg).2)
        have hap : Apart (.slice Av P.length cv) (.slice A4 (putB cv').length c4) := fun g h1 h2 => by
          have q1 := (HP3.out.lt g h1).2
          have q2 := own_block_ge ho4 g h2
          have q3 := (HF2.out w3).2.1
          omega
        have hlt4 := fun g hg => (ho4.lt g hg).2
        have hr3 := Rd.of_own ho3'
        have hwb4 := hB4.size
        have hz4 := hb34.size
        go_wp2_with (at_builtin; refine wpList_append_app _ rfl _ _ 23 rfl w.heap.size 5 i0 (.int .u8 0) 1 1 Tryz.underlying23 hi0 hz0 hz1 hz2 rfl _ _ _ rfl hP4 A3 _ c3 (u8s (putB ck)) rfl (by rw [u8s_len, Nat.mul_one]) hr3.none_zero hr3.cells (u8s_one _) (by unfold maxLen; omega) (by omega) hwb4 ?_)
        intro v5 w5 ha5
        have hown5 := ha5.own
        have hB5 := ha5.below (B := w.heap.size) hB4 hwb4 (own_block_ge hP4)
        have ho45 := ha5.other ho4 hap.symm.or
        have hap5 := Apart.app ha5 hap hlt4
        obtain ⟨_, _, d2⟩ := HCell.out w5 hB5
        have hz5 := ha5.grow.size
        have hown5 : w5.ownsRow w.heap.size 5 1 v5 (P ++ putB ck).length (u8s (P ++ putB ck)) := by rw [List.length_append, u8s_append]; exact hown5
        have hPk : (P ++ putB ck).length ≤ 10 + 165 * k + 30 := by rw [List.length_append]; omega
        have Hnx : Hid (Lib.uvarint n ++ bodyL (l.take (k + 1)) = (P ++ putB ck) ++ (if cg then [1] else 0 :: putB cv')) := by
          show _ = _
          rw [Hnx.out]; unfold encC; rw [List.append_assoc]
        generalize P ++ putB ck = P5 at *
        obtain ⟨A5, c5, rfl, hcv5⟩ := own_shape hown5
        have hown6 := fun x => own_below hown5 ((Below.refl w5.heap.size w5).alloc (Nat.le_refl _) (.cells #[Value.int .u8 x] 5)) (fun g hg => (hown5.lt g hg).2)
        have hB6 := fun x => hB5.trans ((Below.refl w5.heap.size w5).alloc (Nat.le_refl _) (.cells #[Value.int .u8 x] 5) |>.mono hB5.size)
        have ho46 := fun x => own_below ho45 ((Below.refl w5.heap.size w5).alloc (Nat.le_refl _) (.cells #[Value.int .u8 x] 5)) (fun g hg => (ho45.lt g hg).2)
        have hlt46 := fun x g (hg : (Value.slice A4 (putB cv').length c4).ownBlock = some g) => ((ho46 x).lt g hg).2
        clear ha5 hown5 ho45 ho3' hP4 hr3 ho4 hlt4 hap HP3 Ho3 hb34 hb4
        cases cg with
        | true =>
          go_wp2_with (at_builtin; refine wpList_append_app _ rfl _ _ 23 rfl w.heap.size 5 i0 (.int .u8 0) 1 1 Tryz.underlying23 hi0 hz0 hz1 hz2 rfl _ _ _ rfl (hown6 1) (some ⟨w5.heap.size, 0, none⟩) 1 1 [.int .u8 1] rfl rfl (by intro e; cases e) (one_new _ _ _ rfl) (by intro u hu; simp at hu; subst hu; rfl) (by unfold maxLen; omega) (by omega) (hB6 1).size ?_)
          intro v7 w7 ha7
          have hB7 := ha7.below (B := w.heap.size) (hB6 1) (hB6 1).size (own_block_ge (hown6 1))
          have Hown7 := Lib.hid ha7.own
          have HB7 := Lib.hid hB7
          clear ha7 hB7 hown6 hB6 ho46 hlt46 hap5
          go_wp2
          go_roundg (gk - 1)
          case measure => omega
          case rel => exact ⟨_, k + 1, rfl, by go_num, by omega, by rw [Hnx.out, List.length_append, u8s_append]; exact Hown7, HB7⟩
        | false =>
          go_wp2_with (at_builtin; refine wpList_append_app _ rfl _ _ 23 rfl w.heap.size 5 i0 (.int .u8 0) 1 1 Tryz.underlying23 hi0 hz0 hz1 hz2 rfl _ _ _ rfl (hown6 0) (some ⟨w5.heap.size, 0, none⟩) 1 1 [.int .u8 0] rfl rfl (by intro e; cases e) (one_new _ _ _ rfl) (by intro u hu; simp at hu; subst hu; rfl) (by unfold maxLen; omega) (by omega) (hB6 0).size ?_)
          intro v7 w7 ha7
          have hB7 := ha7.below (B := w.heap.size) (hB6 0) (hB6 0).size (own_block_ge (hown6 0))
          have ho47 := ha7.other (ho46 0) hap5.symm.or
          have hown7 := ha7.own
          have hown7 : w7.ownsRow w.heap.size 5 1 v7 (P5 ++ [0]).length (u8s (P5 ++ [0])) := by rw [List.length_append, u8s_append]; exact hown7
          have hP7 : (P5 ++ [0]).length ≤ 10 + 165 * k + 31 := by rw [List.length_append]; simp; omega
          have Hnx : Hid (Lib.uvarint n ++ bodyL (l.take (k + 1)) = (P5 ++ [0]) ++ putB cv') := by show _ = _; rw [Hnx.out]; simp
          generalize P5 ++ [0] = P7 at *
          have hr4 := Rd.of_own ho47
          obtain ⟨A7, c7, rfl, hcv7⟩ := own_shape hown7
          have hwb7 := hB7.size
          clear ha7 hown6 hB6 ho46 hlt46 hap5
          go_wp2_with (at_builtin; refine wpList_append_app _ rfl _ _ 23 rfl w.heap.size 5 i0 (.int .u8 0) 1 1 Tryz.underlying23 hi0 hz0 hz1 hz2 rfl _ _ _ rfl hown7 A4 _ c4 (u8s (putB cv')) rfl (by rw [u8s_len, Nat.mul_one]) hr4.none_zero hr4.cells (u8s_one _) (by unfold maxLen; omega) (by omega) hwb7 ?_)
          intro v8 w8 ha8
          have hB8 := ha8.below (B := w.heap.size) hB7 hwb7 (own_block_ge hown7)
          have Hown8 := Lib.hid ha8.own
          have HB8 := Lib.hid hB8
          clear ha8 hB8 hr4 hown7 ho47
          go_wp2
          go_roundg (gk - 1)
          case measure => omega
          case rel => exact ⟨_, k + 1, rfl, by go_num, by omega, by rw [Hnx.out, List.length_append, u8s_append]; exact Hown8, HB8⟩
      · have hkn' : k = n := by omega
        subst hkn'
        have htk : l.take k = l := List.take_of_length_le (by rw [Hln.out]; omega)
        have hPL : Lib.uvarint k ++ bodyL (l.take k) = encL l := by rw [htk]; unfold encL; rw [Hln.out]
        rw [hPL] at Ho
        obtain ⟨Av, cv, rfl, hcv⟩ := own_shape Ho.out
        by_cases hlong : 1024 < (encL l).length
        · have HEE : Hid (encodeS l = ([], 3)) := by show _ = _; rw [HE.out, if_pos hlong]
          clear HE htk hPL hkn
          generalize encL l = P at *
          have hlong' : (1024 : Int) < (P.length : Int) := by omega
          go_wp2
          go_ret2
          rw [HEE.out]
          exact ⟨_, rfl, World.ownsRow_nil _ _ _ _, Hb.out⟩
        · have HEE : Hid (encodeS l = (encL l, 0)) := by show _ = _; rw [HE.out, if_neg hlong]
          clear HE htk hPL hkn
          generalize encL l = P at *
          have hlong' : ¬ (1024 : Int) < (P.length : Int) := by omega
          go_wp2
          go_ret2
          rw [HEE.out]
          exact ⟨_, rfl, Ho.out, Hb.out⟩
end Go.Proofs.YtfepjgafamaegaaGreat

/- The program's decodeChange. -/
namespace Go.Proofs.YtfepjgafamaegaaGreat
open Go.RowKit

set_option maxRecDepth 100000 in
set_option maxHeartbeats 400000 in
theorem newR_any (A : Option Addr) (n c : Nat) (l : List UInt8) (w : World) (hn : n ≤ 140737488355328) (h : Rd w w.heap.size A n l) :
    Calls Tryz.prog 49 #[.slice A n c] w fun e w' => ∃ R A' c', e = .returned (.pointer (some ⟨R, 0, none⟩)) ∧ w.heap.size ≤ R ∧ BR w' R l 0 A' n c' ∧ Below w.heap.size w w' ∧ ∀ g w2, g < w.heap.size → w'.grownBy w2 (some g) → BR w2 R l 0 A' n c' := by
  have Hc := Lib.hid (clone_any A n c w.heap.size l w hn (Nat.le_refl _) h)
  have hl := h.1
  clear h
  go_enter Tryz.func49, Tryz.ntmps49
  go_wp2_with fail
  refine Hc.out.mono ?_
  rintro e w1 ⟨v, rfl, ho, hb⟩
  obtain ⟨As, cs, rfl, hcs, hcm⟩ := own_shape ho
  have Ho := Lib.hid ho
  have Hb := Lib.hid hb
  clear ho hb
  go_wp2
  go_ret
  have z := Hb.out.size
  have hb2 := below_then Hb.out ((Below.refl w1.heap.size w1).alloc (Nat.le_refl _) (.cells #[.slice As n cs, .int .i64 0] 151))
  have hcap : n ≤ cs ∧ cs ≤ 9223372036854775807 := ⟨hcs, by unfold maxLen at hcm; omega⟩
  refine ⟨w1.heap.size, As, cs, rfl, z, ⟨Bk.new w1 _ _, hcap, (Rd.of_own Ho.out).below ((Below.refl w1.heap.size w1).alloc (Nat.le_refl _) _)⟩, hb2, fun g w2 hg hgr => ?_⟩
  have r1 := Rd.of_own (own_grown (Ho.out.alloc _) hgr hg)
  refine ⟨(Bk.new w1 _ _).grown hgr (by intro e; injection e with e; omega), hcap, r1.1, fun hn => ?_⟩
  obtain ⟨b, o, rfl, _, hcell⟩ := r1.2 hn
  exact ⟨b, o, rfl, (Ho.out.lt b rfl).2, hcell⟩

theorem BR.alloc {w : World} {R n c err : Nat} {rem : List UInt8} {A : Option Addr} (h : BR w R rem err A n c) (o : Obj) : BR (w.alloc o) R rem err A n c :=
  h.below ((Below.refl _ _).alloc (Nat.le_refl _) o) h.blk.lt
theorem grownR_alloc {w w' : World} {R : Nat} (h : w.grownBy w' (some R)) (o : Obj) : w.grownBy (w'.alloc o) (some R) := grown_trans h (World.grownBy_alloc _ _ _)
theorem Bk.new_at {w : World} {t : TypeId} {cs : Array Value} {g : Nat} (hg : g = w.heap.size) : Bk (w.alloc (.cells cs t)) g t cs := by subst hg; exact Bk.new _ _ _
theorem grownR_set {w w' : World} {R g i : Nat} (h : w.grownBy w' (some R)) (hg : w.heap.size ≤ g) (u : Value) : w.grownBy (w'.setCell ⟨g, i, none⟩ u) (some R) :=
  ⟨h.os, h.tape, h.output, by simpa [World.setCell] using h.size, fun k hk hn => by
    rw [Below.heap_setCell _ _ _ _ (show k ≠ g by omega)]
    exact h.block k hk hn⟩
theorem BR.set_ {w : World} {R n c err g i : Nat} {rem : List UInt8} {A : Option Addr} (h : BR w R rem err A n c) (hg : R < g) (u : Value) : BR (w.setCell ⟨g, i, none⟩ u) R rem err A n c :=
  h.below (B := R + 1) ((Below.refl _ _).setCell (show R + 1 ≤ g by omega) u) (by omega)

def DecC (w : World) (R : Nat) (rem : List UInt8) (err : Nat) (e : Ending) (w' : World) : Prop :=
  e = .returned (chgV (decC rem err).1) ∧ (∃ A' n' c', BR w' R (decC rem err).2.1 (decC rem err).2.2 A' n' c') ∧ w.grownBy w' (some R)

set_option maxRecDepth 100000 in
set_option maxHeartbeats 4000000 in
theorem decodeChange_any (R : Nat) (A : Option Addr) (n c err : Nat) (rem : List UInt8) (w : World) (hn : n ≤ 1000000) (h : BR w R rem err A n c) :
    Calls Tryz.prog 51 #[.pointer (some ⟨R, 0, none⟩)] w (DecC w R rem err) := by
  have hR := h.blk.lt
  have hN : ∀ {W : World} {rem : List UInt8} {err n c : Nat} {A : Option Addr}, BR W R rem err A n c → n = rem.length := fun h => h.rd.1.symm
  have hrl := hN h
  have HB : Hid (∀ W A n c rem err (m : Int), rem.length ≤ 1000000 → 0 ≤ m → m ≤ 1000 → BR W R rem err A n c → Calls Tryz.prog 89 #[.pointer (some ⟨R, 0, none⟩), .int .i64 m] W fun e w' => ∃ A1 n1 c1, e = .returned (.slice A1 n1 c1) ∧
      (convert 23 9 (.slice A1 n1 c1)).run Tryz.prog w' = .ok (sV (nextB rem err m).1) w' ∧ (∃ A' n' c', BR w' R (nextB rem err m).2.1 (nextB rem err m).2.2 A' n' c') ∧ W.grownBy w' (some R)) := by
    refine Lib.hid fun W A n c rem err m hl hm0 hm1 hb => ?_
    have := hN hb
    refine (bytes_meth R A n c err m rem W (by omega) (by omega) (by omega) hb).mono ?_
    rintro e w' ⟨s, rfl, ho, hbr, hg⟩
    obtain ⟨A1, c1, rfl, _⟩ := own_shape ho
    exact ⟨A1, _, c1, rfl, (Rd.of_own ho).str Tryz.underlying23 Tryz.underlying5 Tryz.underlying9 c1, hbr, hg⟩
  have HU : Hid (∀ W A n c rem err, BR W R rem err A n c → Calls Tryz.prog 50 #[.pointer (some ⟨R, 0, none⟩)] W fun e w' => e = .returned (.int .u64 (nextU rem err).1) ∧ (∃ A' n' c', BR w' R (nextU rem err).2.1 (nextU rem err).2.2 A' n' c') ∧ W.grownBy w' (some R)) :=
    Lib.hid fun W A n c rem err hb => uint_meth R A n c err rem W hb
  have hz : (.agg #[.string ⟨#[]⟩, .string ⟨#[]⟩, .bool false] : Value) = .agg #[sV [], sV [], .bool false] := rfl
  have hbl : ∀ rem err (m : Int), (nextB rem err m).2.1.length ≤ rem.length := by
    intro rem err m
    unfold nextB
    split
    · exact Nat.le_refl _
    split
    · simp
    · simp only [List.length_drop]; omega
  have hul : ∀ rem err, (nextU rem err).2.1.length ≤ rem.length := by
    intro rem err
    unfold nextU
    split
    · exact Nat.le_refl _
    split
    · simp
    · simp only [List.length_drop]; omega
  have H := Lib.hid h
  rcases hk : nextB rem err 16 with ⟨k, r1, e1⟩
  rcases ht : nextU r1 e1 with ⟨t, r2, e2⟩
  have hl1 := hbl rem err 16
  rw [hk] at hl1
  have hl2 := hul r1 e1
  rw [ht] at hl2
  simp only at hl1 hl2
  have hb0 : BR (w.alloc (.cells #[sV [], sV [], .bool false] 88)) R rem err A n c := h.alloc _
  have HC1 := HB.out _ _ _ _ _ _ 16 (by omega) (by omega) (by omega) hb0
  rw [hk] at HC1
  have HC2 : Hid (∀ W A n c, BR W R r1 e1 A n c → Calls Tryz.prog 50 #[.pointer (some ⟨R, 0, none⟩)] W fun e w' => e = .returned (.int .u64 t) ∧ (∃ A' n' c', BR w' R r2 e2 A' n' c') ∧ W.grownBy w' (some R)) := by
    refine Lib.hid fun W A n c hb => ?_
    have := HU.out W A n c r1 e1 hb
    rwa [ht] at this
  have HC3 : Hid (∀ W A n c, BR W R r2 e2 A n c → Calls Tryz.prog 89 #[.pointer (some ⟨R, 0, none⟩), .int .i64 128] W fun e w' => ∃ A1 n1 c1, e = .returned (.slice A1 n1 c1) ∧
      (convert 23 9 (.slice A1 n1 c1)).run Tryz.prog w' = .ok (sV (nextB r2 e2 128).1) w' ∧ (∃ A' n' c', BR w' R (nextB r2 e2 128).2.1 (nextB r2 e2 128).2.2 A' n' c') ∧ W.grownBy w' (some R)) :=
    Lib.hid fun W A n c hb => HB.out W A n c r2 e2 128 (by omega) (by omega) (by omega) hb
  have HC1 := Lib.hid HC1
  have Hk := Lib.hid hk
  have Ht := Lib.hid ht
  clear hk ht h HB HU hb0 hbl hul hN
  have Br := Lib.hid (Bk.new w 88 #[sV [], sV [], .bool false])
  have Hg0 := Lib.hid (World.grownBy_alloc w (.cells #[sV [], sV [], .bool false] 88) (some R))
  have hne : ∀ g, w.heap.size ≤ g → some g ≠ some R := fun g hg e => by injection e with e; omega
  go_enter Tryz.func51, Tryz.ntmps51
  go_wp2_with fail
  refine HC1.out.mono ?_
  clear HC1
  rintro x w1 ⟨A1, n1, c1, rfl, kc, ⟨A2, n2, c2, hbr⟩, hg1⟩
  have Br1 := Lib.hid (Br.out.grown hg1 (hne _ (Nat.le_refl _)))
  have Hg1 := Lib.hid (grown_trans Hg0.out hg1)
  have Hb1 := Lib.hid hbr
  clear hbr hg1 Hg0 Br
  go_wp2_with fail
  refine (HC2.out _ _ _ _ (Hb1.out.alloc _)).mono ?_
  clear HC2
  rintro x w3 ⟨rfl, ⟨A3, n3, c3, hbr⟩, hg3⟩
  have hT : w.heap.size + 1 ≤ w1.heap.size := by have := Br1.out.lt; omega
  have Br3 := Lib.hid ((Br1.out.below ((Below.refl _ _).alloc (Nat.le_refl _) (.cells #[sV k, .string ⟨#[]⟩, .bool false] 88)) Br1.out.lt).grown hg3 (hne _ (Nat.le_refl _)))
  have Bt3 := Lib.hid ((Bk.new w1 88 #[sV k, .string ⟨#[]⟩, .bool false]).grown hg3 (hne _ (by omega)))
  have Hg3 := Lib.hid (grown_trans (grownR_alloc Hg1.out _) hg3)
  have Hb3 := Lib.hid hbr
  clear hbr hg3 Hg1 Br1 Hb1
  by_cases t0 : t = 0
  · subst t0
    have HD : Hid (decC rem err = (⟨k, (nextB r2 e2 128).1, false⟩, (nextB r2 e2 128).2)) := by
      show _ = _
      unfold decC
      rw [Hk.out]
      simp only
      rw [Ht.out]
      simp only [if_true]
    go_wp2_with fail
    refine (HC3.out _ _ _ _ Hb3.out).mono ?_
    clear HC3
    rintro x w4 ⟨A4, n4, c4, rfl, kc4, ⟨A5, n5, c5, hbr⟩, hg4⟩
    have Br4 := Lib.hid (Br3.out.grown hg4 (hne _ (Nat.le_refl _)))
    have Bt4 := Lib.hid (Bt3.out.grown hg4 (hne _ (by omega)))
    have Hg4 := Lib.hid (grown_trans Hg3.out hg4)
    have Hb4 := Lib.hid hbr
    clear hbr hg4 Hg3 Br3 Hb3 Bt3
    generalize nextB r2 e2 128 = nv at *
    obtain ⟨nv1, nv2, nv3⟩ := nv
    have kc4 : (convert 23 9 (.slice A4 n4 c4)).run Tryz.prog w4 = .ok (sV nv1) w4 := kc4
    have f1 := Bt4.out.frozen 1
    have k1 : w4.cell? ⟨w1.heap.size, 1, none⟩ = some (.string ⟨#[]⟩) := Bt4.out.cell 1
    have Bs : Hid (Bk (w4.setCell ⟨w1.heap.size, 1, none⟩ (sV nv1)) w1.heap.size 88 #[sV k, sV nv1, .bool false]) := Lib.hid (Bt4.out.set_ 1 (sV nv1))
    have s0 := Bs.out.cell 0
    have s1 := Bs.out.cell 1
    have s2 := Bs.out.cell 2
    have Brs : Hid (Bk (w4.setCell ⟨w1.heap.size, 1, none⟩ (sV nv1)) w.heap.size 88 #[sV [], sV [], .bool false]) := Lib.hid (Br4.out.below ((Below.refl (w.heap.size + 1) _).setCell (by show w.heap.size + 1 ≤ w1.heap.size; omega) _) (by omega))
    have q0 := Brs.out.cell 0
    have q1 := Brs.out.cell 1
    have q2 := Brs.out.cell 2
    have z0 := Brs.out.frozen 0
    have z1 := Brs.out.frozen 1
    have z2 := Brs.out.frozen 2
    have HbS : Hid (BR (w4.setCell ⟨w1.heap.size, 1, none⟩ (sV nv1)) R nv2 nv3 A5 n5 c5) := Lib.hid (Hb4.out.set_ (g := w1.heap.size) (by omega) _)
    have HgS : Hid (w.grownBy (w4.setCell ⟨w1.heap.size, 1, none⟩ (sV nv1)) (some R)) := Lib.hid (grownR_set Hg4.out (by omega) _)
    go_upto_region 8 with (fail)
    generalize w4.setCell ⟨w1.heap.size, 1, none⟩ (sV nv1) = W5 at *
    have BF : Hid (Bk (((W5.setCell ⟨w.heap.size, 0, none⟩ (sV k)).setCell ⟨w.heap.size, 1, none⟩ (sV nv1)).setCell ⟨w.heap.size, 2, none⟩ (.bool false)) w.heap.size 88 #[sV k, sV nv1, .bool false]) :=
      Lib.hid (((Brs.out.set_ 0 (sV k)).set_ 1 (sV nv1)).set_ 2 (.bool false))
    have y2 := BF.out.cell 2
    have HFB : Hid (BR (((W5.setCell ⟨w.heap.size, 0, none⟩ (sV k)).setCell ⟨w.heap.size, 1, none⟩ (sV nv1)).setCell ⟨w.heap.size, 2, none⟩ (.bool false)) R nv2 nv3 A5 n5 c5) := Lib.hid (((HbS.out.set_ hR _).set_ hR _).set_ hR _)
    have HFG : Hid (w.grownBy (((W5.setCell ⟨w.heap.size, 0, none⟩ (sV k)).setCell ⟨w.heap.size, 1, none⟩ (sV nv1)).setCell ⟨w.heap.size, 2, none⟩ (.bool false)) (some R)) :=
      Lib.hid (grownR_set (grownR_set (grownR_set HgS.out (Nat.le_refl _) _) (Nat.le_refl _) _) (Nat.le_refl _) _)
    go_wp2
    have y0 := BF.out.cell 0
    have y1 := BF.out.cell 1
    clear q0 q1 q2 z0 z1 z2
    generalize hWF : ((W5.setCell ⟨w.heap.size, 0, none⟩ (sV k)).setCell ⟨w.heap.size, 1, none⟩ (sV nv1)).setCell ⟨w.heap.size, 2, none⟩ (.bool false) = WF at *
    clear hWF
    refine bodyPost_ret (by simp [results, Tryz.results51, go_sem, y0, y1, y2]; try rfl) rfl ?_
    unfold DecC
    rw [HD.out]
    exact ⟨rfl, ⟨_, _, _, HFB.out⟩, HFG.out⟩
  · by_cases t1 : t = 1
    · subst t1
      have HD : Hid (decC rem err = (⟨k, [], true⟩, (r2, e2))) := by
        show _ = _
        unfold decC
        rw [Hk.out]
        simp only
        rw [Ht.out]
        simp
      have f1 := Bt3.out.frozen 2
      have k1 : w3.cell? ⟨w1.heap.size, 2, none⟩ = some (.bool false) := Bt3.out.cell 2
      have Bs : Hid (Bk (w3.setCell ⟨w1.heap.size, 2, none⟩ (.bool true)) w1.heap.size 88 #[sV k, .string ⟨#[]⟩, .bool true]) := Lib.hid (Bt3.out.set_ 2 (.bool true))
      have s0 := Bs.out.cell 0
      have s1 := Bs.out.cell 1
      have s2 := Bs.out.cell 2
      have Brs : Hid (Bk (w3.setCell ⟨w1.heap.size, 2, none⟩ (.bool true)) w.heap.size 88 #[sV [], sV [], .bool false]) := Lib.hid (Br3.out.below ((Below.refl (w.heap.size + 1) _).setCell (by show w.heap.size + 1 ≤ w1.heap.size; omega) _) (by omega))
      have q0 := Brs.out.cell 0
      have q1 := Brs.out.cell 1
      have q2 := Brs.out.cell 2
      have z0 := Brs.out.frozen 0
      have z1 := Brs.out.frozen 1
      have z2 := Brs.out.frozen 2
      have HbS : Hid (BR (w3.setCell ⟨w1.heap.size, 2, none⟩ (.bool true)) R r2 e2 A3 n3 c3) := Lib.hid (Hb3.out.set_ (g := w1.heap.size) (by omega) _)
      have HgS : Hid (w.grownBy (w3.setCell ⟨w1.heap.size, 2, none⟩ (.bool true)) (some R)) := Lib.hid (grownR_set Hg3.out (by omega) _)
      go_upto_region 8 with (fail)
      generalize w3.setCell ⟨w1.heap.size, 2, none⟩ (.bool true) = W5 at *
      have BF : Hid (Bk (((W5.setCell ⟨w.heap.size, 0, none⟩ (sV k)).setCell ⟨w.heap.size, 1, none⟩ (sV [])).setCell ⟨w.heap.size, 2, none⟩ (.bool true)) w.heap.size 88 #[sV k, sV [], .bool true]) :=
        Lib.hid (((Brs.out.set_ 0 (sV k)).set_ 1 (sV [])).set_ 2 (.bool true))
      have y2 := BF.out.cell 2
      have HFB : Hid (BR (((W5.setCell ⟨w.heap.size, 0, none⟩ (sV k)).setCell ⟨w.heap.size, 1, none⟩ (sV [])).setCell ⟨w.heap.size, 2, none⟩ (.bool true)) R r2 e2 A3 n3 c3) := Lib.hid (((HbS.out.set_ hR _).set_ hR _).set_ hR _)
      have HFG : Hid (w.grownBy (((W5.setCell ⟨w.heap.size, 0, none⟩ (sV k)).setCell ⟨w.heap.size, 1, none⟩ (sV [])).setCell ⟨w.heap.size, 2, none⟩ (.bool true)) (some R)) :=
        Lib.hid (grownR_set (grownR_set (grownR_set HgS.out (Nat.le_refl _) _) (Nat.le_refl _) _) (Nat.le_refl _) _)
      go_wp2
      have y0 := BF.out.cell 0
      have y1 := BF.out.cell 1
      clear q0 q1 q2 z0 z1 z2
      generalize hWF : ((W5.setCell ⟨w.heap.size, 0, none⟩ (sV k)).setCell ⟨w.heap.size, 1, none⟩ (sV [])).setCell ⟨w.heap.size, 2, none⟩ (.bool true) = WF at *
      clear hWF
      refine bodyPost_ret (by simp [results, Tryz.results51, go_sem, y0, y1, y2]; try rfl) rfl ?_
      unfold DecC
      rw [HD.out]
      exact ⟨rfl, ⟨_, _, _, HFB.out⟩, HFG.out⟩
    · have HD : Hid (decC rem err = (⟨[], [], false⟩, (r2, e2))) := by
        show _ = _
        unfold decC
        rw [Hk.out]
        simp only
        rw [Ht.out]
        simp [t0, t1]
      have u0 : ((t : Int) == 0) = false := by simp; omega
      have u1 : ((t : Int) == 1) = false := by simp; omega
      have Brs := Br3
      have q0 := Brs.out.cell 0
      have q1 := Brs.out.cell 1
      have q2 := Brs.out.cell 2
      have z0 := Brs.out.frozen 0
      have z1 := Brs.out.frozen 1
      have z2 := Brs.out.frozen 2
      have BF : Hid (Bk (((w3.setCell ⟨w.heap.size, 0, none⟩ (sV [])).setCell ⟨w.heap.size, 1, none⟩ (sV [])).setCell ⟨w.heap.size, 2, none⟩ (.bool false)) w.heap.size 88 #[sV [], sV [], .bool false]) :=
        Lib.hid (((Brs.out.set_ 0 (sV [])).set_ 1 (sV [])).set_ 2 (.bool false))
      have y2 := BF.out.cell 2
      have HFB : Hid (BR (((w3.setCell ⟨w.heap.size, 0, none⟩ (sV [])).setCell ⟨w.heap.size, 1, none⟩ (sV [])).setCell ⟨w.heap.size, 2, none⟩ (.bool false)) R r2 e2 A3 n3 c3) := Lib.hid (((Hb3.out.set_ hR _).set_ hR _).set_ hR _)
      have HFG : Hid (w.grownBy (((w3.setCell ⟨w.heap.size, 0, none⟩ (sV [])).setCell ⟨w.heap.size, 1, none⟩ (sV [])).setCell ⟨w.heap.size, 2, none⟩ (.bool false)) (some R)) :=
        Lib.hid (grownR_set (grownR_set (grownR_set Hg3.out (Nat.le_refl _) _) (Nat.le_refl _) _) (Nat.le_refl _) _)
      go_wp2
      have y0 := BF.out.cell 0
      have y1 := BF.out.cell 1
      clear q0 q1 q2 z0 z1 z2
      generalize hWF : ((w3.setCell ⟨w.heap.size, 0, none⟩ (sV [])).setCell ⟨w.heap.size, 1, none⟩ (sV [])).setCell ⟨w.heap.size, 2, none⟩ (.bool false) = WF at *
      clear hWF
      refine bodyPost_ret (by simp [results, Tryz.results51, go_sem, y0, y1, y2]; try rfl) rfl ?_
      unfold DecC
      rw [HD.out]
      exact ⟨rfl, ⟨_, _, _, HFB.out⟩, HFG.out⟩
end Go.Proofs.YtfepjgafamaegaaGreat

/- The program's Decode. -/
namespace Go.Proofs.YtfepjgafamaegaaGreat
open Go.RowKit

theorem nextB_dec (rem : List UInt8) (err : Nat) (m : Int) : (nextB rem err m).2.1.length ≤ rem.length := by
  unfold nextB
  split
  · exact Nat.le_refl _
  split
  · simp
  · simp only [List.length_drop]; omega
theorem nextU_dec (rem : List UInt8) (err : Nat) : (nextU rem err).2.1.length ≤ rem.length := by
  unfold nextU
  split
  · exact Nat.le_refl _
  split
  · simp
  · simp only [List.length_drop]; omega
theorem decC_len (rem : List UInt8) (err : Nat) : (decC rem err).2.1.length ≤ rem.length := by
  unfold decC
  have h1 := nextB_dec rem err 16
  have h2 := nextU_dec (nextB rem err 16).2.1 (nextB rem err 16).2.2
  have h3 := nextB_dec (nextU (nextB rem err 16).2.1 (nextB rem err 16).2.2).2.1 (nextU (nextB rem err 16).2.1 (nextB rem err 16).2.2).2.2 128
  split
  · simp only; omega
  split
  · simp only; omega
  · simp only; omega
def chCells (l : List Chg) : List Value := l.flatMap fun c => [sV c.key, sV c.val, .bool c.gone]
theorem chCells_len (l : List Chg) : (chCells l).length = l.length * 3 := by
  induction l with
  | nil => rfl
  | cons a r ih => unfold chCells at *; rw [List.flatMap_cons, List.length_append, ih]; simp; omega
theorem chCells_snoc (l : List Chg) (c : Chg) : chCells (l ++ [c]) = chCells l ++ [sV c.key, sV c.val, .bool c.gone] := by simp [chCells]
theorem chCells_at (l : List Chg) : ∀ (i : Nat) (h : i < l.length), (chCells l)[i * 3]? = some (sV l[i].key) ∧ (chCells l)[i * 3 + 1]? = some (sV l[i].val) ∧ (chCells l)[i * 3 + 2]? = some (.bool l[i].gone) := by
  induction l with
  | nil => intro i h; simp at h
  | cons a r ih =>
    intro i h
    have e : chCells (a :: r) = [sV a.key, sV a.val, .bool a.gone] ++ chCells r := by simp [chCells]
    rw [e]
    cases i with
    | zero => exact ⟨rfl, rfl, rfl⟩
    | succ j =>
      have hj : j < r.length := by simpa using h
      obtain ⟨h1, h2, h3⟩ := ih j hj
      have e1 : (j + 1) * 3 = j * 3 + 3 := by omega
      rw [e1]
      refine ⟨?_, ?_, ?_⟩
      · rw [List.getElem?_append_right (by simp)]; simpa using h1
      · rw [List.getElem?_append_right (by simp)]; simpa using h2
      · rw [List.getElem?_append_right (by simp)]; simpa using h3
/-- A row of changes that a call made. -/
def Chs (w : World) (base : Nat) (v : Value) (l : List Chg) : Prop := w.ownsRow base 88 3 v l.length (chCells l)
theorem Chs.nil (w : World) (base : Nat) : Chs w base (.slice none 0 0) [] := World.ownsRow_nil _ _ _ _
theorem Chs.rd {w : World} {base n c : Nat} {A : Option Addr} {l : List Chg} (h : Chs w base (.slice A n c) l) : ChRd w w.heap.size A n l := by
  rcases h.2 with ⟨hv, h0⟩ | ⟨g, cap, cur, hv, _, hh, h1, h2, h3, h4⟩
  · injection hv with e1 e2 e3
    subst e1 e2 e3
    exact ⟨h0, fun i hi => by omega⟩
  · injection hv with e1 e2 e3
    subst e1 e2 e3
    refine ⟨rfl, fun i hi => ?_⟩
    have hlt := (Array.getElem?_eq_some_iff.1 hh).1
    have hc : ∀ j u, (chCells l)[j]? = some u → w.cell? ⟨g, 0 + j, none⟩ = some u := fun j u hu => by
      rw [Nat.zero_add, cell_of_row w g j cur _ (0, 0) hh]
      have hj := (List.getElem?_eq_some_iff.1 hu).1
      rw [← h4, List.getElem?_take] at hu
      split at hu
      · simpa using hu
      · cases hu
    obtain ⟨k1, k2, k3⟩ := chCells_at l i hi
    exact ⟨g, 0, rfl, hlt, hc _ _ k1, by have := hc _ _ k2; rwa [← Nat.add_assoc] at this, by have := hc _ _ k3; rwa [← Nat.add_assoc] at this⟩
theorem Chs.below {w w' : World} {base : Nat} {v : Value} {l : List Chg} (h : Chs w base v l) (hb : Below w.heap.size w w') : Chs w' base v l := own_below h hb fun g hg => (h.lt g hg).2
theorem Chs.mono {w : World} {base base' : Nat} {v : Value} {l : List Chg} (h : Chs w base v l) (hb : base' ≤ base) : Chs w base' v l := own_mono h hb
theorem Tryz.infoChg : (Tryz.prog.info? 88).map (fun i => (i.zero, i.size, i.bytes)) = some (some (.agg #[.string ByteArray.empty, .string ByteArray.empty, .bool false]), 3, 40) := by kernel_rfl
theorem three_at (w : World) (x y z : Value) (t : TypeId) {g : Nat} (hg : g = w.heap.size) : ∀ a, (some ⟨g, 0, none⟩ : Option Addr) = some a → ∀ j u, [x, y, z][j]? = some u → (w.alloc (.cells #[x, y, z] t)).cell? (a.add j) = some u := by
  intro a ha j u hu
  subst hg
  obtain rfl := Option.some.inj ha
  rw [Addr.add_lit, Nat.zero_add, World.cell?_alloc_at _ _ _ _ rfl]
  match j, hu with
  | 0, hu => simpa using hu
  | 1, hu => simpa using hu
  | 2, hu => simpa using hu

set_option maxRecDepth 100000 in
set_option maxHeartbeats 4000000 in
theorem decode_any (A : Option Addr) (n c : Nat) (b : List UInt8) (w : World) (hn : n ≤ 1000000) (h : Rd w w.heap.size A n b) :
    Calls Tryz.prog 15 #[.slice A n c] w fun e w' => ∃ v, e = .returned (.tuple #[v, .int .i64 (decodeS b).2]) ∧ Chs w' w.heap.size v (decodeS b).1 ∧ Below w.heap.size w w' := by
  have hlen := h.1
  by_cases h1 : 1024 < n
  · have HE : Hid (decodeS b = ([], 50)) := by show _ = _; unfold decodeS; rw [if_pos (by omega)]
    have h1' : (1024 : Int) < n := by omega
    clear h hlen
    go_enter Tryz.func15, Tryz.ntmps15
    go_wp2
    go_ret2
    rw [HE.out]
    exact ⟨_, rfl, Chs.nil _ _, Below.refl _ _⟩
  · have h1' : ¬ (1024 : Int) < n := by omega
    have HN := Lib.hid (newR_any A n c b w (by omega) h)
    have HE : Hid (decodeS b = if 32 < (nextU b 0).1 then ([], 50) else if (decN (nextU b 0).2.1 (nextU b 0).2.2 (nextU b 0).1).2.2 ≠ 0 ∨ 0 < (decN (nextU b 0).2.1 (nextU b 0).2.2 (nextU b 0).1).2.1.length ∨ rightL (decN (nextU b 0).2.1 (nextU b 0).2.2 (nextU b 0).1).1 = false then ([], 50)
        else ((decN (nextU b 0).2.1 (nextU b 0).2.2 (nextU b 0).1).1, 0)) := by show _ = _; conv => lhs; unfold decodeS; rw [if_neg (by omega)]
    have hul : (nextU b 0).2.1.length ≤ b.length := by
      unfold nextU
      split
      · exact Nat.le_refl _
      split
      · simp
      · simp only [List.length_drop]; omega
    have hu64 := nextU_lt b
    clear h
    go_enter Tryz.func15, Tryz.ntmps15
    go_wp2_with fail
    refine HN.out.mono ?_
    rintro x w1 ⟨R, A1, c1, rfl, hR, hbr, hb1, -⟩
    clear HN
    have HU := Lib.hid (uint_meth R _ _ _ _ _ w1 hbr)
    have hRlt := hbr.blk.lt
    have HRw := Lib.hid hR
    generalize nextU b 0 = u at *
    obtain ⟨N, rem, e0⟩ := u
    have hul : rem.length ≤ b.length := hul
    have hu64 : N < 18446744073709551616 := hu64
    go_wp2_with fail
    refine HU.out.mono ?_
    rintro x w2 ⟨rfl, ⟨A2, n2, c2, hbr2⟩, hg2⟩
    have HB2 : Hid (Below w.heap.size w w2) := Lib.hid (hb1.grown hg2 hb1.size (fun k hk => by injection hk with hk; omega))
    have HR2 := Lib.hid hbr2
    clear HU hbr hb1 hg2 hbr2
    by_cases hN : 32 < N
    · have hN' : (32 : Int) < N := by omega
      have HEE : Hid (decodeS b = ([], 50)) := by show _ = _; rw [HE.out]; exact if_pos hN
      clear HE
      go_wp2
      go_ret2
      rw [HEE.out]
      exact ⟨_, rfl, Chs.nil _ _, HB2.out⟩
    · have hN' : ¬ (32 : Int) < N := by omega
      have HE : Hid (decodeS b = if (decN rem e0 N).2.2 ≠ 0 ∨ 0 < (decN rem e0 N).2.1.length ∨ rightL (decN rem e0 N).1 = false then ([], 50) else ((decN rem e0 N).1, 0)) := by show _ = _; rw [HE.out]; exact if_neg hN
      obtain ⟨i0, hi0, hz0, hz1, hz2⟩ := info_parts Tryz.infoChg
      have hrem : rem.length ≤ 1024 := by omega
      have hdl : ∀ k, (decN rem e0 k).2.1.length ≤ rem.length := by
        intro k
        induction k with
        | zero => exact Nat.le_refl _
        | succ k ih =>
          have : (decC (decN rem e0 k).2.1 (decN rem e0 k).2.2).2.1.length ≤ (decN rem e0 k).2.1.length := decC_len _ _
          exact Nat.le_trans this ih
      have hRw : R < w2.heap.size := HR2.out.blk.lt
      clear hul hlen
      go_wp2
      go_loopg [6, 17] N (fun g v i wr => ∃ (vv : Value) (k : Nat) (A' : Option Addr) (n' c' : Nat), v = vv ∧ i = .int .u64 k ∧ k + g = N ∧ Hid (Chs wr (R + 1) vv (decN rem e0 k).1) ∧ Hid (BR wr R (decN rem e0 k).2.1 (decN rem e0 k).2.2 A' n' c') ∧ Hid (Below w.heap.size w wr))
      case atStart => exact ⟨_, 0, _, _, _, rfl, rfl, by omega, Lib.hid (Chs.nil _ _), HR2, HB2⟩
      case round =>
        obtain ⟨vv, k, A', n', c', rfl, rfl, hk, Hc, Hr, Hb⟩ := hrel
        have hkl := decN_len rem e0 k
        by_cases hkn : k < N
        · have hkn' : (k : Int) < N := by omega
          have hrl := Hr.out.rd.1
          have HD := Lib.hid (decodeChange_any R A' n' c' (decN rem e0 k).2.2 (decN rem e0 k).2.1 wr (by have := hdl k; omega) Hr.out)
          have HNx : Hid (decN rem e0 (k + 1) = ((decN rem e0 k).1 ++ [(decC (decN rem e0 k).2.1 (decN rem e0 k).2.2).1], (decC (decN rem e0 k).2.1 (decN rem e0 k).2.2).2)) := Lib.hid rfl
          unfold DecC at HD
          generalize decC (decN rem e0 k).2.1 (decN rem e0 k).2.2 = dc at *
          generalize hds : decN rem e0 k = ds at *
          obtain ⟨dl, dr, de⟩ := ds
          obtain ⟨dch, dr2, de2⟩ := dc
          have hkl : dl.length = k := hkl
          have Hc : Hid (Chs wr (R + 1) _ dl) := Hc
          obtain ⟨Av, cv, rfl, hcv⟩ := own_shape Hc.out
          have hRwr := Hr.out.blk.lt
          clear hds
          go_wp2_with fail
          refine HD.out.mono ?_
          clear HD
          rintro x w3 ⟨rfl, ⟨A3, n3, c3, hbr3⟩, hg3⟩
          have hc3 : w3.ownsRow (R + 1) 88 3 (.slice Av k cv) k (chCells dl) := by
            have h0 : wr.ownsRow (R + 1) 88 3 (.slice Av k cv) k (chCells dl) := by have := Hc.out; unfold Chs at this; rwa [hkl] at this
            refine h0.kept hg3 ?_
            cases ho : (Value.slice Av k cv).ownBlock with
            | none => exact .inl rfl
            | some g => exact .inr (fun e => by injection e with e; have := own_block_ge h0 g ho; omega)
          have hz3 := hg3.size
          have hc3a := own_below hc3 ((Below.refl w3.heap.size w3).alloc (Nat.le_refl _) (.cells #[sV dch.key, sV dch.val, .bool dch.gone] 88)) (fun g hg => (hc3.lt g hg).2)
          have hb3a : Below (R + 1) w3 (w3.alloc (.cells #[sV dch.key, sV dch.val, .bool dch.gone] 88)) := (Below.refl _ _).alloc (by omega) _
          have hzb : R + 1 ≤ (w3.alloc (.cells #[sV dch.key, sV dch.val, .bool dch.gone] 88)).heap.size := by have := hb3a.size; omega
          have hbw3 : Below w.heap.size w w3 := Hb.out.grown hg3 Hb.out.size (fun g hg => by injection hg with hg; have := HB2.out.size; omega)
          have Hbr3 := Lib.hid hbr3
          clear hg3 hbr3 hc3
          go_wp2_with (at_builtin; refine wpList_append_app _ rfl _ _ 22 rfl (R + 1) 88 i0 (.agg #[.string ByteArray.empty, .string ByteArray.empty, .bool false]) 3 40 Tryz.underlying22 hi0 hz0 hz1 hz2 rfl _ _ _ rfl hc3a (some ⟨w3.heap.size, 0, none⟩) 1 1 [sV dch.key, sV dch.val, .bool dch.gone] rfl rfl (by intro e; cases e) (three_at _ _ _ _ _ rfl) (by intro u hu; simp at hu; rcases hu with rfl | rfl | rfl <;> rfl) (by unfold maxLen; omega) (by omega) hzb ?_)
          intro v4 w4 ha
          have hb4 : Below (R + 1) w3 w4 := ha.below hb3a hzb (own_block_ge hc3a)
          have Hr4 := Lib.hid (Hbr3.out.below hb4 (by omega))
          have Hc4 : Hid (Chs w4 (R + 1) v4 (dl ++ [dch])) := by
            show w4.ownsRow _ _ _ _ _ _
            have := ha.own
            rw [List.length_append, hkl, chCells_snoc]
            exact this
          have Hb4 : Hid (Below w.heap.size w w4) := Lib.hid (hbw3.trans (hb4.mono (by omega)))
          clear ha hb4 hb3a hbw3 hc3a
          go_wp2
          go_roundg (gk - 1)
          case measure => omega
          case rel => exact ⟨_, k + 1, _, _, _, rfl, by go_num, by omega, by rw [HNx.out]; exact Hc4, by rw [HNx.out]; exact Hr4, Hb4⟩
        · have hkN : k = N := by omega
          subst hkN
          have hrl := Hr.out.rd.1
          have Hxx := Lib.hid (hdl k)
          generalize decN rem e0 k = ds at *
          obtain ⟨dl, dr, de⟩ := ds
          have hkl : dl.length = k := hkl
          have hrl : dr.length = n' := hrl
          have Hc : Hid (Chs wr (R + 1) _ dl) := Hc
          have Hr : Hid (BR wr R dr de A' n' c') := Hr
          obtain ⟨Av, cv, rfl, hcv⟩ := own_shape Hc.out
          have HE : Hid (decodeS b = if de ≠ 0 ∨ 0 < dr.length ∨ rightL dl = false then ([], 50) else (dl, 0)) := HE
          have HC1 := Lib.hid (err_any R _ _ wr Hr.out.blk)
          have HC2 := Lib.hid (left_any R _ _ _ _ wr Hr.out.blk)
          have HC3 := Lib.hid (right_any Av dl.length cv dl wr (by omega) Hc.out.rd)
          rw [hkl] at HC3
          have Hc0 := Lib.hid Hc.out
          by_cases h5 : de = 0
          · subst h5
            have hne5 : (((0 : Nat) : Int) != 0) = false := rfl
            by_cases h6 : 0 < dr.length
            · have h6' : (0 : Int) < n' := by omega
              have HEE : Hid (decodeS b = ([], 50)) := by show _ = _; rw [HE.out, if_pos (.inr (.inl h6))]
              clear HE
              go_wp2_with fail
              refine HC1.out.mono ?_
              rintro x w' ⟨rfl, rfl⟩
              go_wp2_with fail
              refine HC2.out.mono ?_
              rintro x w' ⟨rfl, rfl⟩
              go_wp2
              go_ret2
              rw [HEE.out]
              exact ⟨_, rfl, Chs.nil _ _, Hb.out⟩
            · have h6' : ¬ (0 : Int) < n' := by omega
              cases h7 : rightL dl with
              | false =>
                have HEE : Hid (decodeS b = ([], 50)) := by show _ = _; rw [HE.out, if_pos (.inr (.inr h7))]
                have h8 : rightE dl = 2 := by unfold rightE; rw [h7]; rfl
                rw [h8] at HC3
                clear HE h7 h8
                go_wp2_with fail
                refine HC1.out.mono ?_
                rintro x w' ⟨rfl, rfl⟩
                go_wp2_with fail
                refine HC2.out.mono ?_
                rintro x w' ⟨rfl, rfl⟩
                go_wp2_with fail
                refine HC3.out.mono ?_
                rintro x w' ⟨rfl, hb4⟩
                have Hb4 := Lib.hid (below_then Hb.out hb4)
                clear hb4
                go_wp2
                go_ret2
                rw [HEE.out]
                exact ⟨_, rfl, Chs.nil _ _, Hb4.out⟩
              | true =>
                have HEE : Hid (decodeS b = (dl, 0)) := by show _ = _; rw [HE.out, if_neg (by rintro (h | h | h); exact absurd rfl h; exact h6 h; rw [h7] at h; cases h)]
                have h8 : rightE dl = 0 := by unfold rightE; rw [h7]; rfl
                rw [h8] at HC3
                clear HE h7 h8
                go_wp2_with fail
                refine HC1.out.mono ?_
                rintro x w' ⟨rfl, rfl⟩
                go_wp2_with fail
                refine HC2.out.mono ?_
                rintro x w' ⟨rfl, rfl⟩
                go_wp2_with fail
                refine HC3.out.mono ?_
                rintro x w' ⟨rfl, hb4⟩
                have Hb4 := Lib.hid (below_then Hb.out hb4)
                have Hc4 := Lib.hid ((Hc0.out.below hb4).mono (show w.heap.size ≤ R + 1 by have := HRw.out; omega))
                clear hb4
                go_wp2
                go_ret2
                rw [HEE.out]
                refine ⟨_, rfl, ?_, Hb4.out⟩
                have := Hc4.out
                rwa [hkl] at this
          · have h5' : ((de : Int) != 0) = true := by simp; omega
            have HEE : Hid (decodeS b = ([], 50)) := by show _ = _; rw [HE.out, if_pos (.inl h5)]
            clear HE
            go_wp2_with fail
            refine HC1.out.mono ?_
            rintro x w' ⟨rfl, rfl⟩
            go_wp2
            go_ret2
            rw [HEE.out]
            exact ⟨_, rfl, Chs.nil _ _, Hb.out⟩
end Go.Proofs.YtfepjgafamaegaaGreat

/- The program's log: Records. -/
namespace Go.Proofs.YtfepjgafamaegaaGreat
open Go.RowKit

theorem scan_frames (rs : List (List UInt8)) (h : ∀ r ∈ rs, r.length ≤ 1024) : scanF (framesF rs) = (rs.map (fun b => ((2, b) : Fr)), usedF rs) := by
  induction rs with
  | nil => exact scanF_err (e := 10) rfl
  | cons r rs ih =>
    have hg := getF_put (2, r) (framesF rs) (h r (List.mem_cons_self ..))
    rw [framesF_cons, scanF_ok hg, List.drop_left' (putF_len (2, r)), ih fun x hx => h x (List.mem_cons_of_mem _ hx), usedF_cons]
    rfl
/-- Lists that are told, each its own. -/
def ToldL (L : List (List UInt8)) (w : World) (e : Ending) (w' : World) : Prop := ∃ A c vals, e = .returned (.slice A L.length c) ∧ w'.ownsRow w.heap.size 23 1 (.slice A L.length c) L.length vals ∧ Fam w' w.heap.size vals L ∧ Below w.heap.size w w'

theorem frames_cells {w : World} {base n c : Nat} {A : Option Addr} {vals : List Value} {fs : List Fr} (h : Frames w base (.slice A n c) vals fs) (k : Nat) (hk : k < n) :
    ∃ g, A = some ⟨g, 0, none⟩ ∧ g < w.heap.size ∧ ∃ (kd : UInt8) (Ax : Option Addr) (nx cx : Nat), vals[k]? = some (.slice Ax nx cx) ∧ w.cell? ⟨g, k * 2, none⟩ = some (.int .u8 (kd.toNat : Int)) ∧ w.cell? ⟨g, k * 2 + 1, none⟩ = some (.slice Ax nx cx) := by
  have hlen := h.len
  obtain ⟨A0, c0, hv, hc1, hc2⟩ := own_shape h.row
  injection hv with e1 hnf e3
  obtain ⟨b, o, A', n', c', hA, hlt, hck, hc, _⟩ := h.rd.2 k (by omega)
  rcases h.row.2 with ⟨_, h0⟩ | ⟨g, cap, cur, hv0, hg, hh, _⟩
  · omega
  · have hA2 : A = some ⟨g, 0, none⟩ := by injection hv0
    subst hA2
    obtain ⟨q1, q2⟩ := frCells_at fs vals h.len k (by omega)
    have q1 := h.row.cells (g := g) rfl _ _ q1
    have q2 := h.row.cells (g := g) rfl _ _ q2
    rw [Addr.add_lit, Nat.zero_add] at q1 q2
    have hvk : vals[k]? = some (vals[k]'(by omega)) := List.getElem?_eq_getElem _
    have ho := h.fam.each k _ hvk
    obtain ⟨Ax, cx, hx, _⟩ := own_shape ho
    refine ⟨g, rfl, (Array.getElem?_eq_some_iff.1 hh).1, _, Ax, ((fs.map (·.2)).getD k []).length, cx, ?_, q1, ?_⟩
    · rw [hvk, hx]
    · rw [q2, hx]

set_option maxRecDepth 100000 in
set_option maxHeartbeats 4000000 in
theorem records_any (g gd : Nat) (d : Dk) (s : Lg) (H : Nat → Prop) (w : World) (h : PB w H g gd d s) : Calls Tryz.prog 62 #[.pointer (some ⟨g, 0, none⟩)] w (ToldL s.tellL w) := by
  obtain ⟨F, G, hp, hw, hFG, hFH, hGH, hH⟩ := h
  obtain ⟨i1, hi1, hy0, hy1, hy2⟩ := info_parts Tryz.infoBytes
  have hlen := hp.len
  have hbs : d.bytes ≤ 40000 := by unfold Dk.bytes Dk.half halfN; omega
  have hL : s.tellL.length ≤ 40000 := by
    unfold Lg.tellL
    cases hgone : s.gone with
    | true => simp
    | false => have := usedF_count s.recs; have := hw.ok.fits; simp; omega
  have hmain : ∃ A n c en, w.cell? ⟨g, 2, none⟩ = some (.slice A n c) ∧ w.cell? ⟨g, 3, none⟩ = some (.int .i64 (en : Nat)) ∧ en ≤ n ∧ n ≤ c ∧ c ≤ 9223372036854775807 ∧ (A = none ∧ n = 0 ∧ c = 0 ∨ ∃ ga, A = some ⟨ga, 0, none⟩) ∧
      ∀ W, Below w.heap.size w W → Calls Tryz.prog 93 #[.slice A en c] W fun e w' => ∃ Af cf vals, e = .returned (.tuple #[.slice Af s.tellL.length cf, .int .i64 (usedF s.tellL : Nat)]) ∧ Frames w' W.heap.size (.slice Af s.tellL.length cf) vals (s.tellL.map fun b => ((2, b) : Fr)) ∧ Below W.heap.size W w' := by
    have key : ∀ (A : Option Addr) (c : Nat) (L : List (List UInt8)) (W : World), usedF L ≤ c → usedF L ≤ 40000 → c ≤ 9223372036854775807 → (∀ r ∈ L, r.length ≤ 1024) → Rd W W.heap.size A (usedF L) (framesF L) →
        Calls Tryz.prog 93 #[.slice A (usedF L) c] W fun e w' => ∃ Af cf vals, e = .returned (.tuple #[.slice Af L.length cf, .int .i64 (usedF L : Nat)]) ∧ Frames w' W.heap.size (.slice Af L.length cf) vals (L.map fun b => ((2, b) : Fr)) ∧ Below W.heap.size W w' := fun A c L W h1 h2 h3 h4 h5 => by
      refine (frameScan_any A (usedF L) c (framesF L) W h1 (by omega) h3 h5).mono ?_
      rw [scan_frames L h4]
      rintro e w' ⟨v, vals, he, hf, hb⟩
      obtain ⟨Af, cf, rfl, _⟩ := own_shape hf.row
      simp only [List.length_map] at hf he
      exact ⟨Af, cf, vals, he, hf, hb⟩
    unfold Lg.tellL
    cases hgone : s.gone with
    | true =>
      have hb := hw.dead hgone
      exact ⟨none, 0, 0, 0, hb.cell 2, hb.cell 3, Nat.le_refl _, Nat.le_refl _, by omega, .inl ⟨rfl, rfl, rfl⟩, fun W hW => key none 0 [] W (Nat.le_refl _) (by decide) (by omega) (by simp) (Rd.nil _ _ _)⟩
    | false =>
      obtain ⟨ga, c, hga, hl⟩ := hw.live hgone
      have hll := hl.len
      have hok := hw.ok
      refine ⟨some ⟨ga, 0, none⟩, d.bytes, c, usedF s.recs, hl.c1 (o := 1) rfl, hl.c2 (o := 1) rfl, hok.fits, hll.2.1, hll.2.2, .inr ⟨ga, rfl⟩, fun W hW => ?_⟩
      refine key _ c s.recs W (by have := hok.fits; omega) (by have := hok.fits; omega) hll.2.2 hok.small ?_
      have := rd_part (hl.below hW).rd 0 (usedF s.recs) (by have := hok.fits; omega)
      rw [List.drop_zero, full_take] at this
      exact this
  obtain ⟨A, n, c, en, c2, c3, hen, hnc, hcm, hA, hsc⟩ := hmain
  have HSC := Lib.hid hsc
  clear hp hw hFG hFH hGH hH hsc hbs hlen
  generalize hLL : s.tellL = L at *
  generalize hNN : L.length = N at *
  have HNN := Lib.hid hNN
  have HLL := Lib.hid hLL
  clear hLL hNN
  rcases hA with ⟨rfl, rfl, rfl⟩ | ⟨ga, rfl⟩
  · obtain rfl : en = 0 := by omega
    go_enter Tryz.func62, Tryz.ntmps62
    go_wp2
    go_region_law (first | (go_simp; go_at_call 93; refine (HSC.out _ (Below.refl _ _).drew).mono ?_; rintro x w2 ⟨Af, cf, vals, rfl, hf, hb⟩))
    all_goals
      have HFC : Hid (∀ k, k < N → _) := fun k hk => frames_cells hf k hk
      have HV : Hid (vals.length = N ∧ Fam w2 w.heap.size vals L) := by
        have h1 := hf.len
        have h2 := hf.fam
        rw [List.length_map, HNN.out] at h1
        rw [List.map_map] at h2
        have : List.map ((fun x => x.2) ∘ fun b => ((2, b) : Fr)) L = L := by
          rw [show ((fun x : Fr => x.2) ∘ fun b => ((2, b) : Fr)) = id from rfl, List.map_id]
        rw [this] at h2
        exact ⟨h1, h2⟩
      have hwb : Below w.heap.size w w2 := (Below.refl w.heap.size w).drew.trans hb
      have HWB := Lib.hid hwb
      clear hf hb hwb HSC c2 c3
      go_wp2
      go_loopg [3, 27] N (fun gk v i wr => ∃ (k : Nat) (V : Value), v = V ∧ i = .int .i64 k ∧ k + gk = N ∧ Hid (wr.ownsRow w2.heap.size 23 1 V k (vals.take k)) ∧ Hid (Below w2.heap.size w2 wr))
      case atStart => exact ⟨0, _, rfl, rfl, by omega, World.ownsRow_nil _ _ _ _, Below.refl _ _⟩
      case round =>
        obtain ⟨k, V, rfl, rfl, hk, HVr, HB⟩ := hrel
        obtain ⟨Av, cv, rfl, hcv⟩ := own_shape HVr.out
        by_cases hkn : k < N
        · obtain ⟨gf, rfl, hlt, kd, Ax, nx, cx, hvk, W0, W1⟩ := HFC.out k hkn
          have r0 := (HB.out.cell (p := ⟨gf, k * 2, none⟩) hlt).trans W0
          have r1 := (HB.out.cell (p := ⟨gf, k * 2 + 1, none⟩) hlt).trans W1
          have ht : vals.take (k + 1) = vals.take k ++ [.slice Ax nx cx] := by
            rw [List.take_add_one, hvk]; rfl
          have Ht := Lib.hid ht
          have g1 : (k : Int) < (N : Int) := by omega
          have hwz := HWB.out.size
          have HW2 : Hid (∀ o, (wr.alloc o).ownsRow w2.heap.size 23 1 (.slice Av k cv) k (vals.take k)) := fun o => HVr.out.alloc o
          clear ht hvk HFC
          go_wp2_with (at_builtin; go_loud (refine wpList_append_app _ rfl _ _ 67 rfl w2.heap.size 23 i1 (.slice none 0 0) 1 24 Tryz.underlying67 hi1 hy0 hy1 hy2 rfl _ _ _ rfl ((HW2.out _).alloc _) (some ⟨wr.heap.size + 1, 0, none⟩) 1 1 [.slice Ax nx cx] rfl rfl (by intro e; cases e) (one_new _ _ _ (by simp)) (by intro u hu; simp at hu; subst hu; rfl) (by unfold maxLen; omega) (by omega) (by have := HB.out.size; simp; omega) ?_))
          intro v' w3 ha
          have HV3 : Hid (w3.ownsRow w2.heap.size 23 1 v' (k + 1) (vals.take (k + 1))) := Lib.hid (by rw [Ht.out]; exact ha.own)
          have hsz := HB.out.size
          have HB3 : Hid (Below w2.heap.size w2 w3) := by
            have hba := (HB.out.alloc hsz (.cells #[.int .u8 (kd.toNat : Int), .slice Ax nx cx] 167)).alloc (by simp; omega) (.cells #[.slice Ax nx cx] 23)
            exact ha.below hba (by simp; omega) (own_block_ge HVr.out)
          clear ha HVr HB r0 r1 HW2 hsz
          go_wp2
          go_roundg (gk - 1)
          case measure => omega
          case rel => exact ⟨k + 1, v', rfl, by go_num, by omega, HV3, HB3⟩
        · obtain rfl : k = N := by omega
          have hf : vals.take k = vals := List.take_of_length_le (by rw [HV.out.1]; exact Nat.le_refl _)
          rw [hf] at HVr
          have HFin := Lib.hid (HV.out.2.up HB.out)
          have HBf := Lib.hid (HWB.out.trans (HB.out.mono HWB.out.size))
          go_wp2
          go_ret
          refine (⟨Av, cv, vals, ?_, ?_, HFin.out, HBf.out⟩ : ToldL L w _ _)
          · rw [HNN.out]; rfl
          · rw [HNN.out]; exact own_mono HVr.out HWB.out.size
  · have henc : en ≤ c := by omega
    go_enter Tryz.func62, Tryz.ntmps62
    go_wp2
    go_region_law (first | (go_simp; go_at_call 93; refine (HSC.out _ (Below.refl _ _).drew).mono ?_; rintro x w2 ⟨Af, cf, vals, rfl, hf, hb⟩))
    all_goals
      have HFC : Hid (∀ k, k < N → _) := fun k hk => frames_cells hf k hk
      have HV : Hid (vals.length = N ∧ Fam w2 w.heap.size vals L) := by
        have h1 := hf.len
        have h2 := hf.fam
        rw [List.length_map, HNN.out] at h1
        rw [List.map_map] at h2
        have : List.map ((fun x => x.2) ∘ fun b => ((2, b) : Fr)) L = L := by
          rw [show ((fun x : Fr => x.2) ∘ fun b => ((2, b) : Fr)) = id from rfl, List.map_id]
        rw [this] at h2
        exact ⟨h1, h2⟩
      have hwb : Below w.heap.size w w2 := (Below.refl w.heap.size w).drew.trans hb
      have HWB := Lib.hid hwb
      clear hf hb hwb HSC c2 c3
      go_wp2
      go_loopg [3, 27] N (fun gk v i wr => ∃ (k : Nat) (V : Value), v = V ∧ i = .int .i64 k ∧ k + gk = N ∧ Hid (wr.ownsRow w2.heap.size 23 1 V k (vals.take k)) ∧ Hid (Below w2.heap.size w2 wr))
      case atStart => exact ⟨0, _, rfl, rfl, by omega, World.ownsRow_nil _ _ _ _, Below.refl _ _⟩
      case round =>
        obtain ⟨k, V, rfl, rfl, hk, HVr, HB⟩ := hrel
        obtain ⟨Av, cv, rfl, hcv⟩ := own_shape HVr.out
        by_cases hkn : k < N
        · obtain ⟨gf, rfl, hlt, kd, Ax, nx, cx, hvk, W0, W1⟩ := HFC.out k hkn
          have r0 := (HB.out.cell (p := ⟨gf, k * 2, none⟩) hlt).trans W0
          have r1 := (HB.out.cell (p := ⟨gf, k * 2 + 1, none⟩) hlt).trans W1
          have ht : vals.take (k + 1) = vals.take k ++ [.slice Ax nx cx] := by
            rw [List.take_add_one, hvk]; rfl
          have Ht := Lib.hid ht
          have g1 : (k : Int) < (N : Int) := by omega
          have hwz := HWB.out.size
          have HW2 : Hid (∀ o, (wr.alloc o).ownsRow w2.heap.size 23 1 (.slice Av k cv) k (vals.take k)) := fun o => HVr.out.alloc o
          clear ht hvk HFC
          go_wp2_with (at_builtin; go_loud (refine wpList_append_app _ rfl _ _ 67 rfl w2.heap.size 23 i1 (.slice none 0 0) 1 24 Tryz.underlying67 hi1 hy0 hy1 hy2 rfl _ _ _ rfl ((HW2.out _).alloc _) (some ⟨wr.heap.size + 1, 0, none⟩) 1 1 [.slice Ax nx cx] rfl rfl (by intro e; cases e) (one_new _ _ _ (by simp)) (by intro u hu; simp at hu; subst hu; rfl) (by unfold maxLen; omega) (by omega) (by have := HB.out.size; simp; omega) ?_))
          intro v' w3 ha
          have HV3 : Hid (w3.ownsRow w2.heap.size 23 1 v' (k + 1) (vals.take (k + 1))) := Lib.hid (by rw [Ht.out]; exact ha.own)
          have hsz := HB.out.size
          have HB3 : Hid (Below w2.heap.size w2 w3) := by
            have hba := (HB.out.alloc hsz (.cells #[.int .u8 (kd.toNat : Int), .slice Ax nx cx] 167)).alloc (by simp; omega) (.cells #[.slice Ax nx cx] 23)
            exact ha.below hba (by simp; omega) (own_block_ge HVr.out)
          clear ha HVr HB r0 r1 HW2 hsz
          go_wp2
          go_roundg (gk - 1)
          case measure => omega
          case rel => exact ⟨k + 1, v', rfl, by go_num, by omega, HV3, HB3⟩
        · obtain rfl : k = N := by omega
          have hf : vals.take k = vals := List.take_of_length_le (by rw [HV.out.1]; exact Nat.le_refl _)
          rw [hf] at HVr
          have HFin := Lib.hid (HV.out.2.up HB.out)
          have HBf := Lib.hid (HWB.out.trans (HB.out.mono HWB.out.size))
          go_wp2
          go_ret
          refine (⟨Av, cv, vals, ?_, ?_, HFin.out, HBf.out⟩ : ToldL L w _ _)
          · rw [HNN.out]; rfl
          · rw [HNN.out]; exact own_mono HVr.out HWB.out.size
end Go.Proofs.YtfepjgafamaegaaGreat

/- The program's log: the log of the next epoch, in its area alone. -/
namespace Go.Proofs.YtfepjgafamaegaaGreat
open Go.RowKit

theorem nextE_long {n e : Nat} {ls : List (List UInt8)} (h : longAny ls = true) : nextE n e ls = 3 := by
  unfold nextE
  rw [if_pos]
  simpa [longAny] using h
theorem nextE_not {n e : Nat} {ls : List (List UInt8)} (h : longAny ls = false) : nextE n e ls = if e + 1 = 4611686018427387904 ∨ n < usedF ls then 5 else 0 := by
  unfold nextE
  rw [if_neg]
  simpa [longAny] using h
theorem longAny_get {ls : List (List UInt8)} (h : longAny ls = false) : ∀ b ∈ ls, b.length ≤ 1024 := by
  intro b hb
  have := List.any_eq_false.1 h b hb
  simpa using this
/-- The next log, or the error. -/
def NextR (e n : Nat) (ls : List (List UInt8)) (w : World) (x : Ending) (w' : World) : Prop :=
  (nextE n e ls ≠ 0 ∧ x = .returned (.tuple #[.agg #[.int .u64 0, .slice none 0 0, .int .i64 0, .int .i64 0], .int .i64 (nextE n e ls)]) ∧ Below w.heap.size w w') ∨
  (nextE n e ls = 0 ∧ ∃ ga c, x = .returned (.tuple #[.agg #[.int .u64 (e + 1 : Nat), .slice (some ⟨ga, 0, none⟩) n c, .int .i64 (usedF ls : Nat), .int .i64 (ls.length : Nat)], .int .i64 0]) ∧
    w'.ownsRow w.heap.size 5 1 (.slice (some ⟨ga, 0, none⟩) n c) n (u8s (fullF n ls)) ∧ Below w.heap.size w w')

set_option maxRecDepth 100000 in
set_option maxHeartbeats 8000000 in
theorem next_meth (g o e n ca : Nat) (Aa : Option Addr) (A : Option Addr) (nl cl : Nat) (ls : List (List UInt8)) (w : World) (he : e < 4611686018427387904) (hn : n ≤ 40000) (hnl : nl ≤ 9223372036854775807)
    (h : Parts w w.heap.size A nl ls) (c0 : w.cell? ⟨g, o, none⟩ = some (.int .u64 e)) (c1 : w.cell? ⟨g, o + 1, none⟩ = some (.slice Aa n ca)) :
    Calls Tryz.prog 107 #[.pointer (some ⟨g, o, none⟩), .slice A nl cl] w (NextR e n ls w) := by
  obtain ⟨i0, hi0, hz0, hz1, hz2⟩ := info_parts Tryz.infoU8
  have hmk : ∀ (W : World), (Instr.makeSlice 23 (.int .i64 (n : Int)) (.int .i64 (n : Int))).run Tryz.prog W = .ok (.slice (some ⟨W.heap.size, 0, none⟩) n n) (W.alloc (.cells (u8s (zeros n)).toArray 5)) := fun W => by
    have h := run_make (P := Tryz.prog) W 23 5 i0 _ Tryz.underlying23 hi0 hz0 .i64 .i64 n n (by omega) (Int.le_refl _) (by rw [hz2]; omega) (by omega)
    rw [hz1] at h
    have hZ : madeCells (Value.int .u8 0).cells (n * 1) = (u8s (zeros n)).toArray := by
      apply Array.ext'
      have := madeBytes n
      rw [Nat.mul_one, show (Value.int .u8 0).cells = #[Value.int .u8 0] from rfl, this]
      rfl
    simp only [Int.toNat_natCast] at h
    rw [hZ] at h
    exact h
  clear hi0 hz0 hz1 hz2
  have hba := (Below.refl w.heap.size w).alloc (Nat.le_refl _) (.cells #[.int .u64 0, .slice none 0 0, .int .i64 0, .int .i64 0] 163)
  have hsz0 : (w.alloc (.cells #[.int .u64 0, .slice none 0 0, .int .i64 0, .int .i64 0] 163)).heap.size = w.heap.size + 1 := by simp
  have hP0 : Parts (w.alloc (.cells #[.int .u64 0, .slice none 0 0, .int .i64 0, .int .i64 0] 163)) w.heap.size A nl ls := h.below hba
  have hP1 : Parts (w.alloc (.cells #[.int .u64 0, .slice none 0 0, .int .i64 0, .int .i64 0] 163)) (w.alloc (.cells #[.int .u64 0, .slice none 0 0, .int .i64 0, .int .i64 0] 163)).heap.size A nl ls :=
    ⟨hP0.1, fun i hi => by obtain ⟨b, o, A', n', c', q1, q2, q3, q4, q5, q6⟩ := hP0.2 i hi; exact ⟨b, o, A', n', c', q1, by rw [hsz0]; omega, q3, q4, q5, q6.more (by rw [hsz0]; omega)⟩⟩
  have HCon := Lib.hid (contains_any A nl cl ls _ hnl hP1)
  have br := Bk.new w 163 #[.int .u64 0, .slice none 0 0, .int .i64 0, .int .i64 0]
  have d0 := (hba.cell (p := ⟨g, o, none⟩) (World.block_lt_of_cell? _ _ c0)).trans c0
  have d1 := (hba.cell (p := ⟨g, o + 1, none⟩) (World.block_lt_of_cell? _ _ c1)).trans c1
  have hll := h.1
  have Hba := Lib.hid hba
  have HP := Lib.hid hP1
  have Br := Lib.hid br
  have Hll := Lib.hid hll
  clear h hba hP0 hP1 br hsz0 c0 c1 hll
  cases hlong : longAny ls with
  | true =>
    have HE := Lib.hid (nextE_long (n := n) (e := e) hlong)
    rw [hlong] at HCon
    have r0 := Br.out.cell 0
    have r1 := Br.out.cell 1
    have r2 := Br.out.cell 2
    have r3 := Br.out.cell 3
    have f0 := Br.out.frozen 0
    have f1 := Br.out.frozen 1
    have f2 := Br.out.frozen 2
    have f3 := Br.out.frozen 3
    simp only [List.getElem?_toArray, List.getElem?_cons_zero, List.getElem?_cons_succ] at r0 r1 r2 r3
    clear d0 d1 hmk hlong HP
    go_enter Tryz.func107, Tryz.ntmps107
    go_wp2_with fail
    refine HCon.out.mono ?_
    rintro x w' ⟨rfl, rfl⟩
    clear HCon
    go_wp2
    go_returns
    exact (.inl ⟨by rw [HE.out]; decide, by rw [HE.out], Hba.out⟩ : NextR e n ls w _ _)
  | false =>
    have HNE := Lib.hid (nextE_not (n := n) (e := e) hlong)
    have Hsm := Lib.hid (longAny_get hlong)
    rw [hlong] at HCon
    by_cases hep : e + 1 = 4611686018427387904
    · have HE : Hid (nextE n e ls = 5) := by show _ = _; rw [HNE.out, if_pos (.inl hep)]
      have hepi : ((e : Int) + 1 == 4611686018427387904) = true := by simp; omega
      clear hmk hlong HP hep
      go_enter Tryz.func107, Tryz.ntmps107
      go_wp2_with fail
      refine HCon.out.mono ?_
      rintro x w' ⟨rfl, rfl⟩
      clear HCon
      go_wp2
      go_returns
      exact (.inl ⟨by rw [HE.out]; decide, by rw [HE.out], Hba.out⟩ : NextR e n ls w _ _)
    · have hepi : ((e : Int) + 1 == 4611686018427387904) = false := by simp; omega
      have HNE2 : Hid (nextE n e ls = if n < usedF ls then 5 else 0) := by
        show _ = _
        rw [HNE.out]
        by_cases hq : n < usedF ls
        · rw [if_pos (.inr hq), if_pos hq]
        · rw [if_neg (by omega), if_neg hq]
      have hwr : IntKind.u64.wrap ((e : Int) + 1) = (e : Int) + 1 := by rw [IntKind.wrap_u64]; omega
      clear hlong hep HNE
      go_enter Tryz.func107, Tryz.ntmps107
      go_wp2_with fail
      refine HCon.out.mono ?_
      rintro x w' ⟨rfl, rfl⟩
      clear HCon
      go_upto_region 5 with (fail)
      generalize w.alloc (.cells #[.int .u64 0, .slice none 0 0, .int .i64 0, .int .i64 0] 163) = W0 at *
      have HK : Hid (∀ W, Below W0.heap.size W0 W → W.cell? ⟨g, o, none⟩ = some (.int .u64 e) ∧ W.cell? ⟨g, o + 1, none⟩ = some (.slice Aa n ca) ∧ Below W0.heap.size W0 W) := fun W hb => ⟨(hb.cell (p := ⟨g, o, none⟩) (World.block_lt_of_cell? _ _ d0)).trans d0, (hb.cell (p := ⟨g, o + 1, none⟩) (World.block_lt_of_cell? _ _ d1)).trans d1, hb⟩
      have hbl : Bk ((W0.drew.alloc (.cells #[.int .u64 0, .slice none 0 0, .int .i64 0, .int .i64 0] 163)).alloc (.cells (u8s (zeros n)).toArray 5)) W0.heap.size 163 #[.int .u64 0, .slice none 0 0, .int .i64 0, .int .i64 0] := (Bk.new W0.drew _ _).below ((Below.refl _ _).alloc (Nat.le_refl _) _) (by simp)
      go_cut [6] (fun s w' => NewLog W0 (e + 1) n s w')
      case first =>
        go_region_held3 (fun w' => w'.cell? ⟨g, o, none⟩ = some (.int .u64 e) ∧ w'.cell? ⟨g, o + 1, none⟩ = some (.slice Aa n ca) ∧ Below W0.heap.size W0 w') (first | (refine HK.out _ ?_; (repeat' (first | assumption | exact Below.refl _ _ | exact Nat.le_refl _ | apply Below.drew | (refine Below.alloc ?_ ?_ _) | (refine Below.setCell ?_ ?_ _) | (simp; done) | (simp; omega))); done) | go_keep)
          (first | fail)
        all_goals
          rename_i hH
          obtain ⟨_, _, hbW⟩ := hH
          have hnb : n ≤ maxLen := by unfold maxLen; omega
        · have h := two_new W0 (u8s (zeros n)).toArray #[.int .u64 ((e : Int) + 1), .slice (some ⟨W0.heap.size, 0, none⟩) n n, .int .i64 0, .int .i64 0] 5 163
          have HF := Lib.hid (newlog_mk (e := e + 1) hnb hbW h.2 h.1 (by omega) (by omega) (by omega))
          clear h hbW
          go_wp2_with fail
          go_meet
          exact HF.out
        · have h := two_new W0 #[.int .u64 ((e : Int) + 1), .slice (some ⟨W0.heap.size + 1, 0, none⟩) n n, .int .i64 0, .int .i64 0] (u8s (zeros n)).toArray 163 5
          have HF := Lib.hid (newlog_mk (e := e + 1) hnb hbW h.1 h.2 (by omega) (by omega) (by omega))
          clear h hbW
          go_wp2_with fail
          go_meet
          exact HF.out
      case rest =>
        obtain ⟨g1, ga, rfl, hlg, hb0, hg1, hga⟩ := hcut
        have HR : Hid (∀ W, Below W0.heap.size W0 W → Bk W w.heap.size 163 #[.int .u64 0, .slice none 0 0, .int .i64 0, .int .i64 0]) := fun W hb => Br.out.below hb Br.out.lt
        have hrlt := Br.out.lt
        have HL0 : Hid (LgAt wc g1 163 [] [] (e + 1) ga n n (usedF (ls.take 0)) (ls.take 0).length (fullF n (ls.take 0)) ∧ Below W0.heap.size W0 wc) := by
          refine ⟨?_, hb0⟩
          have : fullF n (ls.take 0) = zeros n := by simp [fullF, framesF, usedF]
          rw [this]
          exact hlg
        clear hlg hb0 HK hmk d0 d1 hbl
        go_wp2
        go_loopg [36] nl (fun gk i wr => ∃ k : Nat, i = .int .i64 k ∧ k + gk = nl ∧ Hid (LgAt wr g1 163 [] [] (e + 1) ga n n (usedF (ls.take k)) (ls.take k).length (fullF n (ls.take k)) ∧ Below W0.heap.size W0 wr) ∧ usedF (ls.take k) ≤ n)
        case atStart => exact ⟨0, rfl, by omega, HL0, by rw [List.take_zero]; exact Nat.zero_le _⟩
        case round =>
          obtain ⟨k, rfl, hk, HRr, hun⟩ := hrel
          by_cases hkn : k < nl
          · have hkl : k < ls.length := by rw [Hll.out]; exact hkn
            obtain ⟨b, ob, A', n', c', rfl, hbw, hcell, hn', hc', hrd⟩ := (HP.out.below HRr.out.2).2 k hkl
            have hrd2 := hrd.more HRr.out.2.size
            have hrl := hrd.1
            have HAd := Lib.hid (add_meth g1 0 163 [] [] (e + 1) ga n n (ls.take k) A' n' c' ls[k] wr rfl hn hun hn' hc' hrd2 HRr.out.1)
            have hut := usedF_take ls k hkl
            have hle := usedF_take_le ls (k + 1)
            have htk : ls.take k ++ [ls[k]] = ls.take (k + 1) := (List.take_succ_eq_append_getElem hkl).symm
            have hsm := Hsm.out _ (List.getElem_mem hkl)
            rw [htk] at HAd
            have haE : addE n (ls.take k) ls[k] = if n < usedF (ls.take (k + 1)) then 5 else 0 := by
              unfold addE
              rw [if_neg (by omega), hut]
            rw [haE] at HAd
            have Hbr := Lib.hid HRr.out.2
            clear hrd hrd2 hrl hut haE htk hsm
            by_cases hfull : n < usedF (ls.take (k + 1))
            · rw [if_pos hfull] at HAd
              have HE : Hid (nextE n e ls = 5) := by show _ = _; rw [HNE2.out, if_pos (by omega)]
              clear HRr
              go_wp2_with fail
              refine HAd.out.mono ?_
              rintro x w3 ⟨rfl, hb3, _⟩
              have hb3 := Hbr.out.trans ((hb3 (by decide)).mono Hbr.out.size)
              have br3 := HR.out w3 hb3
              have Hb3 := Lib.hid hb3
              have r0 := br3.cell 0
              have r1 := br3.cell 1
              have r2 := br3.cell 2
              have r3 := br3.cell 3
              have f0 := br3.frozen 0
              have f1 := br3.frozen 1
              have f2 := br3.frozen 2
              have f3 := br3.frozen 3
              simp only [List.getElem?_toArray, List.getElem?_cons_zero, List.getElem?_cons_succ] at r0 r1 r2 r3
              have Hset := Lib.hid (bk_set4 br3 (.int .u64 0) (.slice none 0 0) (.int .i64 0) (.int .i64 0))
              clear hb3 br3 HAd hcell
              go_wp2
              have s0 := Hset.out.1.cell 0
              have s1 := Hset.out.1.cell 1
              have s2 := Hset.out.1.cell 2
              have s3 := Hset.out.1.cell 3
              simp only [List.getElem?_toArray, List.getElem?_cons_zero, List.getElem?_cons_succ] at s0 s1 s2 s3
              generalize ((((w3.setCell ⟨w.heap.size, 0, none⟩ (.int .u64 0)).setCell ⟨w.heap.size, 1, none⟩ (.slice none 0 0)).setCell ⟨w.heap.size, 2, none⟩ (.int .i64 0)).setCell ⟨w.heap.size, 3, none⟩ (.int .i64 0)) = W5 at *
              try simp only [Exit.inBlock, Exit.then]
              refine bodyPost_ret (by simp [results, Tryz.results107, go_sem, s0, s1, s2, s3]; try rfl) rfl ?_
              refine (.inl ⟨by rw [HE.out]; decide, by rw [HE.out], ?_⟩ : NextR e n ls w _ _)
              exact (Hba.out.trans (Hb3.out.mono Hba.out.size)).trans (Hset.out.2.below (fun k e => by omega) (by have := Hb3.out.size; omega))
            · rw [if_neg hfull] at HAd
              clear HRr
              go_wp2_with fail
              refine HAd.out.mono ?_
              rintro x w3 ⟨rfl, _, ha⟩
              obtain ⟨hl3, hk3⟩ := ha trivial
              have HN : Hid (LgAt w3 g1 163 [] [] (e + 1) ga n n (usedF (ls.take (k + 1))) (ls.take (k + 1)).length (fullF n (ls.take (k + 1))) ∧ Below W0.heap.size W0 w3) :=
                ⟨hl3, Hbr.out.trans (hk3.below (fun k e => by rcases e with rfl | rfl; exact hg1; exact hga) Hbr.out.size)⟩
              clear hl3 hk3 HAd hcell ha
              go_wp2
              go_roundg (gk - 1)
              case measure => omega
              case rel => exact ⟨k + 1, by go_num, by omega, HN, by omega⟩
          · obtain rfl : k = nl := by omega
            have hall : ls.take k = ls := List.take_of_length_le (by rw [Hll.out]; exact Nat.le_refl _)
            obtain ⟨hl4, hb4⟩ := HRr.out
            rw [hall] at hl4 hun
            have HE : Hid (nextE n e ls = 0) := by show _ = _; rw [HNE2.out, if_neg (by omega)]
            have c0 := hl4.c0 (o := 0) rfl
            have c1 := hl4.c1 (o := 0) rfl
            have c2 := hl4.c2 (o := 0) rfl
            have c3 := hl4.c3 (o := 0) rfl
            simp only [Nat.zero_add] at c1 c2 c3
            have br3 := HR.out wr hb4
            have r0 := br3.cell 0
            have r1 := br3.cell 1
            have r2 := br3.cell 2
            have r3 := br3.cell 3
            have f0 := br3.frozen 0
            have f1 := br3.frozen 1
            have f2 := br3.frozen 2
            have f3 := br3.frozen 3
            simp only [List.getElem?_toArray, List.getElem?_cons_zero, List.getElem?_cons_succ] at r0 r1 r2 r3
            have Hset := Lib.hid (bk_set4 br3 (.int .u64 ((e + 1 : Nat) : Int)) (.slice (some ⟨ga, 0, none⟩) n n) (.int .i64 (usedF ls : Nat)) (.int .i64 (ls.length : Nat)))
            have hcr : ¬ (ga = w.heap.size) := by omega
            have HRow : Hid (wr.ownsRow w.heap.size 5 1 (.slice (some ⟨ga, 0, none⟩) n n) n (u8s (fullF n ls)) ∧ Below W0.heap.size W0 wr) := ⟨own_base hl4.row (fun k e => by injection e with e; subst e; show w.heap.size ≤ ga; omega), hb4⟩
            clear hl4 hb4 HRr br3 HP hall
            obtain ⟨e1, he1⟩ : ∃ e1, e + 1 = e1 := ⟨_, rfl⟩
            rw [he1] at c0 Hset
            have He1 := Lib.hid he1
            clear he1
            obtain ⟨uu, huu⟩ : ∃ uu, usedF ls = uu := ⟨_, rfl⟩
            rw [huu] at c2 Hset
            have Huu := Lib.hid huu
            clear huu
            go_wp2
            have s0 := Hset.out.1.cell 0
            have s1 := Hset.out.1.cell 1
            have s2 := Hset.out.1.cell 2
            have s3 := Hset.out.1.cell 3
            simp only [List.getElem?_toArray, List.getElem?_cons_zero, List.getElem?_cons_succ] at s0 s1 s2 s3
            generalize ((((wr.setCell ⟨w.heap.size, 0, none⟩ (.int .u64 e1)).setCell ⟨w.heap.size, 1, none⟩ (.slice (some ⟨ga, 0, none⟩) n n)).setCell ⟨w.heap.size, 2, none⟩ (.int .i64 uu)).setCell ⟨w.heap.size, 3, none⟩ (.int .i64 (ls.length : Nat))) = W5 at *
            try simp only [Exit.inBlock, Exit.then]
            refine bodyPost_ret (by simp [results, Tryz.results107, go_sem, s0, s1, s2, s3]; try rfl) rfl ?_
            refine (.inr ⟨HE.out, ga, n, ?_, own_kp HRow.out.1 Hset.out.2 (fun k e => by injection e with e; subst e; exact hcr), ?_⟩ : NextR e n ls w _ _)
            · rw [He1.out, Huu.out]
            · exact (Hba.out.trans (HRow.out.2.mono Hba.out.size)).trans (Hset.out.2.below (fun k e => by omega) (by have := HRow.out.2.size; omega))
end Go.Proofs.YtfepjgafamaegaaGreat

/- The program's log: a new log is settled. -/
namespace Go.Proofs.YtfepjgafamaegaaGreat
open Go.RowKit

set_option maxRecDepth 100000 in
set_option maxHeartbeats 8000000 in
theorem settle_meth (g e ga c gd : Nat) (l : List (List UInt8)) (d : Dk) (F : Nat → Prop) (w : World) (h6 : 6 ≤ d.safe.length) (he : e < 18446744073709551616) (hwl : d.waits.length ≤ 800000000)
    (hl : LgAt w g 163 [] [] e ga d.bytes c (usedF l) l.length (fullF d.bytes l)) (h : PD w F gd d) (hg : ¬ F g) (hga : ¬ F ga) :
    Calls Tryz.prog 108 #[.pointer (some ⟨g, 0, none⟩), .pointer (some ⟨gd, 0, none⟩)] w (Laid w F gd (settleS d e l)) := by
  have hlen := h.len
  have hbs : d.bytes ≤ 40000 := by unfold Dk.bytes Dk.half halfN; omega
  have hHb : d.half ≤ 1023 := by unfold Dk.half halfN; omega
  have hlt := hl.lt
  have h1 := sectors_write g 0 163 [] [] e ga d.bytes c (usedF l) l.length 0 d.bytes d.half (fullF d.bytes l) gd d F w rfl rfl (Nat.zero_le _) (Nat.le_refl _) (by omega) (by omega) hl h hg hga
  have hH : (d.bytes + 31) / 32 - 0 / 32 = d.half := by unfold Dk.bytes; omega
  have hB : 2 + (e % 2) * d.half = d.base e := rfl
  rw [hH, hB] at h1
  have HC1 : Hid (Calls Tryz.prog 97 #[.pointer (some ⟨g, 0, none⟩), .int .i64 0, .int .i64 (d.bytes : Nat), .func (.func 98) #[.pointer (some ⟨gd, 0, none⟩)] #[]] w (Laid w F gd (layS (fullF d.bytes l) (d.base e) 0 d.half d))) := h1
  have c1 := hl.c1 (o := 0) rfl
  simp only [Nat.zero_add] at c1
  have HN : Hid (∀ F' w', Mv F F' w w' → LgAt w' g 163 [] [] e ga d.bytes c (usedF l) l.length (fullF d.bytes l) ∧ ¬ F' g ∧ ¬ F' ga) := fun F' w' hm => by
    refine ⟨hl.kp hm.kp hg hga, fun hf => ?_, fun hf => ?_⟩
    · rcases hm.new _ hf with h | h
      · exact hg h
      · omega
    · rcases hm.new _ hf with h | h
      · exact hga h
      · omega
  have hw1 := layS_waits (fullF d.bytes l) (d.base e) d.half 0 d
  have hS : settleS d e l = if (layS (fullF d.bytes l) (d.base e) 0 d.half d).1 ≠ 0 then layS (fullF d.bytes l) (d.base e) 0 d.half d
    else if (layS (fullF d.bytes l) (d.base e) 0 d.half d).2.sync.1 ≠ 0 then (layS (fullF d.bytes l) (d.base e) 0 d.half d).2.sync
    else if ((layS (fullF d.bytes l) (d.base e) 0 d.half d).2.sync.2.write ((e % 2 : Nat) : Int) (headB e)).1 ≠ 0 then (layS (fullF d.bytes l) (d.base e) 0 d.half d).2.sync.2.write ((e % 2 : Nat) : Int) (headB e)
    else ((layS (fullF d.bytes l) (d.base e) 0 d.half d).2.sync.2.write ((e % 2 : Nat) : Int) (headB e)).2.sync := rfl
  obtain ⟨⟨r1, d1⟩, hr1⟩ : ∃ r, layS (fullF d.bytes l) (d.base e) 0 d.half d = r := ⟨_, rfl⟩
  rw [hr1] at HC1 hw1 hS
  have HS := Lib.hid hS
  simp only at hw1
  clear h1 hH hB hl h hS hr1 hlt
  by_cases q1 : r1 = 0
  · subst q1
    have hw2 : d1.sync.2.waits.length ≤ 900000000 := by
      unfold Dk.sync
      split
      · simp
      · rw [d1.act_same.2]; omega
    obtain ⟨⟨r2, d2⟩, hr2⟩ : ∃ r, d1.sync = r := ⟨_, rfl⟩
    have Hr2 := Lib.hid hr2
    rw [hr2] at hw2
    simp only at hw2
    by_cases q2 : r2 = 0
    · subst q2
      have hw3 := dwrite_waits d2 ((e % 2 : Nat) : Int) (headB e)
      obtain ⟨⟨r3, d3⟩, hr3⟩ : ∃ r, d2.write ((e % 2 : Nat) : Int) (headB e) = r := ⟨_, rfl⟩
      have Hr3 := Lib.hid hr3
      rw [hr3] at hw3
      simp only at hw3
      have HSS : Hid (settleS d e l = if r3 ≠ 0 then (r3, d3) else d3.sync) := by
        show _ = _
        rw [HS.out]
        simp only [hr2, hr3]
        rfl
      clear hr2 hr3 HS
      go_enter Tryz.func108, Tryz.ntmps108
      go_wp2_with fail
      refine HC1.out.mono ?_
      rintro x w2 ⟨rfl, F2, hp2, hm2⟩
      have HSy := sync_any gd d1 F2 w2 (by simp only at hp2; omega) hp2
      rw [Hr2.out] at HSy
      have HSy := Lib.hid HSy
      have Hm2 := Lib.hid hm2
      clear hp2 hm2 HC1 c1
      go_wp2_with fail
      refine HSy.out.mono ?_
      rintro x w3 ⟨rfl, F3, hp3, hm3⟩
      have hm3' := Hm2.out.trans hm3
      obtain ⟨hl3, hg3, hga3⟩ := HN.out F3 w3 hm3'
      have c0 := hl3.c0 (o := 0) rfl
      have HSd := Lib.hid (side_meth g 0 e w3 c0)
      have HHd := Lib.hid (head_meth g e w3 he c0)
      have Hp3 := Lib.hid hp3
      have Hm3 := Lib.hid hm3'
      clear hp3 hm3 hm3' hl3 HSy Hm2 hg3 hga3 c0
      go_wp2_with fail
      refine HSd.out.mono ?_
      rintro x w' ⟨rfl, rfl⟩
      go_wp2_with fail
      refine HHd.out.mono ?_
      rintro x w4 ⟨Ah, ch, rfl, ho4, hb4⟩
      have hp4 := Hp3.out.below hb4
      have hap : ∀ ad, Ah = some ad → ¬ F3 ad.block := fun ad e hf => by
        subst e
        have h1 := ho4.lt ad.block rfl
        have h2 := Hp3.out.lt _ hf
        omega
      have HWr := write_any gd d2 F3 ((e % 2 : Nat) : Int) Ah 32 ch (headB e) w4 (by omega) (by omega) (Rd.of_own ho4) hap hp4
      rw [Hr3.out] at HWr
      have HWr := Lib.hid HWr
      have Hm4 := Lib.hid (Hm3.out.trans (Mv.of (Kp.of_below (F := F3) hb4)))
      clear ho4 hb4 hp4 hap HSd HHd Hp3 Hm3
      go_wp2_with fail
      refine HWr.out.mono ?_
      rintro x w5 ⟨rfl, F5, hp5, hm5⟩
      have Hm5 := Lib.hid (Hm4.out.trans hm5)
      by_cases q3 : r3 = 0
      · subst q3
        have HS2 := sync_any gd d3 F5 w5 (by omega) hp5
        obtain ⟨⟨r4, d4⟩, hr4⟩ : ∃ r, d3.sync = r := ⟨_, rfl⟩
        rw [hr4] at HS2
        have HS2 := Lib.hid HS2
        have Hr4 : Hid (settleS d e l = (r4, d4)) := by show _ = _; rw [HSS.out, if_neg (by simp), hr4]
        clear hp5 hm5 HWr Hm4 hr4
        go_wp2_with fail
        refine HS2.out.mono ?_
        rintro x w6 ⟨rfl, F6, hp6, hm6⟩
        have HF : Hid (∃ F', PD w6 F' gd d4 ∧ Mv F F' w w6) := ⟨F6, hp6, Hm5.out.trans hm6⟩
        clear hp6 hm6 HS2 Hm5
        go_wp2
        go_ret
        unfold Laid
        rw [Hr4.out]
        exact ⟨rfl, HF.out⟩
      · have hne : (r3 != 0) = true := by simpa using q3
        have Hr4 : Hid (settleS d e l = (r3, d3)) := by show _ = _; rw [HSS.out, if_pos q3]
        have HF : Hid (∃ F', PD w5 F' gd d3 ∧ Mv F F' w w5) := ⟨F5, hp5, Hm5.out⟩
        clear hp5 hm5 HWr Hm4 Hm5 q3
        go_wp2
        go_ret
        unfold Laid
        rw [Hr4.out]
        exact ⟨rfl, HF.out⟩
    · have hne : (r2 != 0) = true := by simpa using q2
      have Hr4 : Hid (settleS d e l = (r2, d2)) := by
        show _ = _
        rw [HS.out]
        simp only [hr2]
        rw [if_neg (by simp), if_pos q2]
      clear hr2 HS q2
      go_enter Tryz.func108, Tryz.ntmps108
      go_wp2_with fail
      refine HC1.out.mono ?_
      rintro x w2 ⟨rfl, F2, hp2, hm2⟩
      have HSy := sync_any gd d1 F2 w2 (by simp only at hp2; omega) hp2
      rw [Hr2.out] at HSy
      have HSy := Lib.hid HSy
      have Hm2 := Lib.hid hm2
      clear hp2 hm2 HC1 c1
      go_wp2_with fail
      refine HSy.out.mono ?_
      rintro x w3 ⟨rfl, F3, hp3, hm3⟩
      have HF : Hid (∃ F', PD w3 F' gd d2 ∧ Mv F F' w w3) := ⟨F3, hp3, Hm2.out.trans hm3⟩
      clear hp3 hm3 HSy Hm2
      go_wp2
      go_ret
      unfold Laid
      rw [Hr4.out]
      exact ⟨rfl, HF.out⟩
  · have hne : (r1 != 0) = true := by simpa using q1
    have Hr4 : Hid (settleS d e l = (r1, d1)) := by
      show _ = _
      rw [HS.out]
      exact if_pos q1
    clear HS q1
    go_enter Tryz.func108, Tryz.ntmps108
    go_wp2_with fail
    refine HC1.out.mono ?_
    rintro x w2 ⟨rfl, F2, hp2, hm2⟩
    have HF : Hid (∃ F', PD w2 F' gd d1 ∧ Mv F F' w w2) := ⟨F2, hp2, hm2⟩
    clear hp2 hm2 HC1 c1
    go_wp2
    go_ret
    unfold Laid
    rw [Hr4.out]
    exact ⟨rfl, HF.out⟩
end Go.Proofs.YtfepjgafamaegaaGreat

/- The program's log: Reset; and what a log that is not there answers. -/
namespace Go.Proofs.YtfepjgafamaegaaGreat
open Go.RowKit

theorem settle_len (d : Dk) (e : Nat) (l : List (List UInt8)) : (settleS d e l).2.safe.length = d.safe.length := by
  unfold settleS
  split
  · exact layS_len _ _ _ _ _
  split
  · rw [Dk.sync_len]; exact layS_len _ _ _ _ _
  split
  · rw [Dk.write_len, Dk.sync_len]; exact layS_len _ _ _ _ _
  · rw [Dk.sync_len, Dk.write_len, Dk.sync_len]; exact layS_len _ _ _ _ _
theorem reset_len (s : Lg) (d : Dk) (l : List (List UInt8)) : (s.reset d l).2.2.safe.length = d.safe.length := by
  unfold Lg.reset
  split
  · rfl
  split
  · rfl
  split <;> exact settle_len _ _ _
theorem nextE_zero {N e : Nat} {l : List (List UInt8)} (h : nextE N e l = 0) : (∀ r ∈ l, r.length ≤ 1024) ∧ e + 1 ≠ 4611686018427387904 ∧ usedF l ≤ N := by
  unfold nextE at h
  split at h
  · exact absurd h (by decide)
  rename_i h1
  split at h
  · exact absurd h (by decide)
  rename_i h2
  refine ⟨fun r hr => ?_, fun e => h2 (.inl e), ?_⟩
  · rcases Nat.lt_or_ge 1024 r.length with h | h
    · exact absurd ⟨r, hr, h⟩ h1
    · exact h
  · rcases Nat.lt_or_ge N (usedF l) with h | h
    · exact absurd (.inr h) h2
    · exact h
theorem reset_ok {s : Lg} {d : Dk} {l : List (List UInt8)} (h : s.Ok d.bytes) : (s.reset d l).2.1.Ok d.bytes := by
  unfold Lg.reset
  split
  · exact h
  split
  · exact h
  rename_i h1
  have h1 : nextE d.bytes s.epoch l = 0 := Classical.byContradiction h1
  obtain ⟨q1, q2, q3⟩ := nextE_zero h1
  split
  · exact ⟨q1, q3, Nat.lt_of_le_of_ne h.epoch q2, Nat.le_refl _⟩
  · exact ⟨h.small, h.fits, h.epoch, h.safe⟩
theorem bk_set5 {w : World} {g : Nat} {t : TypeId} {p a b c d e : Value} (h : Bk w g t #[p, a, b, c, d, e]) (x y z u v : Value) :
    Bk (((((w.setCell ⟨g, 1, none⟩ x).setCell ⟨g, 2, none⟩ y).setCell ⟨g, 3, none⟩ z).setCell ⟨g, 4, none⟩ u).setCell ⟨g, 5, none⟩ v) g t #[p, x, y, z, u, v] ∧
    Kp (· = g) w (((((w.setCell ⟨g, 1, none⟩ x).setCell ⟨g, 2, none⟩ y).setCell ⟨g, 3, none⟩ z).setCell ⟨g, 4, none⟩ u).setCell ⟨g, 5, none⟩ v) := by
  have hk : ∀ (W : World) (i : Nat) (v : Value), Kp (· = g) W (W.setCell ⟨g, i, none⟩ v) := fun W i v => Kp.set_ (F := (· = g)) (p := ⟨g, i, none⟩) rfl v
  exact ⟨((((h.set_ 1 x).set_ 2 y).set_ 3 z).set_ 4 u).set_ 5 v, ((((hk w 1 _).trans (hk _ 2 _)).trans (hk _ 3 _)).trans (hk _ 4 _)).trans (hk _ 5 _)⟩

set_option maxRecDepth 100000 in
set_option maxHeartbeats 8000000 in
theorem reset_any (g gd : Nat) (d : Dk) (s : Lg) (H : Nat → Prop) (A : Option Addr) (nl cl : Nat) (l : List (List UInt8)) (w : World) (hwl : d.waits.length ≤ 800000000) (h6 : 6 ≤ d.safe.length)
    (hnl : nl ≤ 9223372036854775807) (hls : Parts w w.heap.size A nl l) (h : PB w H g gd d s) :
    Calls Tryz.prog 75 #[.pointer (some ⟨g, 0, none⟩), .slice A nl cl] w (Acted w H g gd (s.reset d l)) := by
  have h0 := h
  obtain ⟨F, G, hp, hw, hFG, hFH, hGH, hH⟩ := h
  have hok := hw.ok
  cases hgone : s.gone with
  | true =>
    have hbk := hw.dead hgone
    have c0 := hbk.cell 0
    simp only [List.getElem?_toArray, List.getElem?_cons_zero] at c0
    have HC := Lib.hid (ready_gone g w c0)
    have HR : Hid (s.reset d l = (6, s, d)) := by show _ = _; unfold Lg.reset; rw [if_pos hgone]
    have HF : Hid (∃ H', PB w H' g gd d s ∧ Mv H H' w w) := ⟨H, h0, Mv.refl _ _⟩
    clear h0 hp hw hbk c0 hok hgone hls
    go_enter Tryz.func75, Tryz.ntmps75
    go_wp2_with fail
    refine HC.out.mono ?_
    rintro x w' ⟨rfl, rfl⟩
    go_wp2
    go_ret
    unfold Acted
    rw [HR.out]
    exact ⟨rfl, HF.out⟩
  | false =>
    obtain ⟨ga, c, hga, hl⟩ := hw.live hgone
    have hlen := hp.len
    have hbs : d.bytes ≤ 40000 := by unfold Dk.bytes Dk.half halfN; omega
    have c0 : w.cell? ⟨g, 0, none⟩ = some (.pointer (some ⟨gd, 0, none⟩)) := hl.blk.cell 0
    have c1 : w.cell? ⟨g, 1, none⟩ = _ := hl.c0 (o := 1) rfl
    have c2 : w.cell? ⟨g, 2, none⟩ = _ := hl.c1 (o := 1) rfl
    have HC := Lib.hid (ready_meth g gd w c0)
    have HN := Lib.hid (next_meth g 1 s.epoch d.bytes c _ A nl cl l w hok.epoch hbs hnl hls c1 c2)
    have hre : s.reset d l = if nextE d.bytes s.epoch l ≠ 0 then (nextE d.bytes s.epoch l, s, d)
      else if (settleS d (s.epoch + 1) l).1 = 0 then (0, { epoch := s.epoch + 1, recs := l, safe := l.length, gone := false }, (settleS d (s.epoch + 1) l).2)
      else ((settleS d (s.epoch + 1) l).1, { s with gone := true }, (settleS d (s.epoch + 1) l).2) := by
      unfold Lg.reset
      rw [if_neg (by simp [hgone])]
    have hok2 := reset_ok (l := l) hok
    have HB0 : Hid (∀ w', Below w.heap.size w w' → ∃ H', PB w' H' g gd d s ∧ Mv H H' w w') := fun w' hb => ⟨H, h0.below hb, Mv.of (Kp.of_below hb)⟩
    have hgF : ¬ F g := fun hf => hFG _ hf hw.self
    have hgaF : ¬ F ga := fun hf => hFG _ hf hga
    have hby : (settleS d (s.epoch + 1) l).2.bytes = d.bytes := bytes_of (settle_len _ _ _)
    by_cases hn : nextE d.bytes s.epoch l = 0
    · rw [if_neg (fun h => h hn)] at hre
      obtain ⟨q1, q2, q3⟩ := nextE_zero hn
      have hep := hok.epoch
      have hHE : s.epoch + 1 < 18446744073709551616 := by omega
      have HST : Hid (∀ W gl ga2 c2, Below w.heap.size w W → w.heap.size ≤ gl → w.heap.size ≤ ga2 → LgAt W gl 163 [] [] (s.epoch + 1) ga2 d.bytes c2 (usedF l) l.length (fullF d.bytes l) →
          Calls Tryz.prog 108 #[.pointer (some ⟨gl, 0, none⟩), .pointer (some ⟨gd, 0, none⟩)] W fun x w4 => x = .returned (.int .i64 (settleS d (s.epoch + 1) l).1) ∧
            ∃ F', PD w4 F' gd (settleS d (s.epoch + 1) l).2 ∧ LgAt w4 gl 163 [] [] (s.epoch + 1) ga2 d.bytes c2 (usedF l) l.length (fullF d.bytes l) ∧
              LgAt w4 g 165 [.pointer (some ⟨gd, 0, none⟩)] [.int .i64 s.safe] s.epoch ga d.bytes c (usedF s.recs) s.recs.length (fullF d.bytes s.recs) ∧ Kp F w w4 ∧ (∀ k, F' k → F k ∨ w.heap.size ≤ k) ∧ ∀ k, F' k → ¬ (k = g ∨ k = ga ∨ k = gl ∨ k = ga2)) := fun W gl ga2 c2 hb hgl hga2 hlg => by
        have hFl : ∀ k, w.heap.size ≤ k → ¬ F k := fun k hk hf => by have := hp.lt k hf; omega
        refine (settle_meth gl (s.epoch + 1) ga2 c2 gd l d F W h6 hHE hwl hlg (hp.below hb) (hFl _ hgl) (hFl _ hga2)).mono ?_
        rintro x w4 ⟨hx, F', hp4, hm4⟩
        have hlW := hlg.lt
        have hlw := hl.lt
        have hbs := hb.size
        refine ⟨hx, F', hp4, hlg.kp hm4.kp (hFl _ hgl) (hFl _ hga2), (hl.below hb).kp hm4.kp hgF hgaF, (Kp.of_below hb).trans hm4.kp, fun k hf => (hm4.new k hf).imp id fun h => by omega, fun k hf e => ?_⟩
        rcases hm4.new k hf with h | h
        · rcases e with rfl | rfl | rfl | rfl
          · exact hgF h
          · exact hgaF h
          · exact hFl _ hgl h
          · exact hFl _ hga2 h
        · omega
      have HFG : Hid ((∀ k, F k → H k) ∧ (∀ k, G k → H k) ∧ (∀ k, H k → k < w.heap.size) ∧ G ga ∧ G g ∧ (settleS d (s.epoch + 1) l).2.bytes = d.bytes ∧ s.gone = false) := ⟨hFH, hGH, hH, hga, hw.self, hby, hgone⟩
      have Hn := Lib.hid hn
      have Hre := Lib.hid hre
      have Hok2 := Lib.hid hok2
      have hglt := hl.lt
      clear h0 hp hw hl hok hok2 hls hFG hFH hGH hH hga hgF hgaF hgone hby hn hre q1 q2 q3 c1 c2 HB0 hep hHE
      obtain ⟨r, hr⟩ : ∃ r, (settleS d (s.epoch + 1) l).1 = r := ⟨_, rfl⟩
      rw [hr] at HST Hre
      clear hr
      obtain ⟨e1, he1⟩ : ∃ e1, s.epoch + 1 = e1 := ⟨_, rfl⟩
      obtain ⟨u1, hu1⟩ : ∃ u1, usedF l = u1 := ⟨_, rfl⟩
      obtain ⟨k1, hk1⟩ : ∃ k1, l.length = k1 := ⟨_, rfl⟩
      have HX : Hid (NextR s.epoch d.bytes l w = fun x w' => ∃ ga2 c2, x = .returned (.tuple #[.agg #[.int .u64 e1, .slice (some ⟨ga2, 0, none⟩) d.bytes c2, .int .i64 u1, .int .i64 k1], .int .i64 0]) ∧
          w'.ownsRow w.heap.size 5 1 (.slice (some ⟨ga2, 0, none⟩) d.bytes c2) d.bytes (u8s (fullF d.bytes l)) ∧ Below w.heap.size w w') := by
        show _ = _
        funext x w'
        apply propext
        unfold NextR
        rw [Hn.out, he1, hu1, hk1]
        constructor
        · rintro (h | h)
          · exact absurd rfl h.1
          · exact h.2
        · exact fun h => .inr ⟨rfl, h⟩
      rw [HX.out] at HN
      clear HX Hn
      have He1 := Lib.hid he1
      have Hu1 := Lib.hid hu1
      have Hk1 := Lib.hid hk1
      rw [he1, hu1, hk1] at HST
      clear he1 hu1 hk1
      go_enter Tryz.func75, Tryz.ntmps75
      go_wp2_with fail
      refine HC.out.mono ?_
      rintro x w' ⟨rfl, rfl⟩
      go_wp2_with fail
      refine HN.out.mono ?_
      rintro x w2 ⟨ga2, c2, rfl, hrow, hb2⟩
      have hgalt := hrow.lt ga2 rfl
      have hba := (Below.refl w2.heap.size w2).alloc (Nat.le_refl _) (.cells #[.int .u64 e1, .slice (some ⟨ga2, 0, none⟩) d.bytes c2, .int .i64 (u1 : Nat), .int .i64 (k1 : Nat)] 163)
      have hlg : LgAt (w2.alloc (.cells #[.int .u64 e1, .slice (some ⟨ga2, 0, none⟩) d.bytes c2, .int .i64 (u1 : Nat), .int .i64 (k1 : Nat)] 163)) w2.heap.size 163 [] [] e1 ga2 d.bytes c2 u1 k1 (fullF d.bytes l) :=
        ⟨Bk.new w2 _ _, own_below (own_mono hrow (Nat.zero_le _)) hba (fun k e => by injection e with e; subst e; exact hgalt.2), by omega⟩
      have hbW := hb2.trans (hba.mono hb2.size)
      have HS := Lib.hid (HST.out _ w2.heap.size ga2 c2 hbW hb2.size hgalt.1 hlg)
      have d0 := (hbW.cell (p := ⟨g, 0, none⟩) hglt.1).trans c0
      have HB2 := Lib.hid hb2
      have Hga := Lib.hid hgalt
      clear hrow hb2 hgalt hba hlg HST HN HC c0 hbW
      go_wp2_with fail
      refine HS.out.mono ?_
      rintro x w4 ⟨rfl, F', hp4, hll, hl4, hk4, hF4, hd4⟩
      have l0 := hll.c0 (o := 0) rfl
      have l1 := hll.c1 (o := 0) rfl
      have l2 := hll.c2 (o := 0) rfl
      have l3 := hll.c3 (o := 0) rfl
      simp only [Nat.zero_add] at l1 l2 l3
      have hb4 : Bk w4 g 165 #[.pointer (some ⟨gd, 0, none⟩), .int .u64 s.epoch, .slice (some ⟨ga, 0, none⟩) d.bytes c, .int .i64 (usedF s.recs : Nat), .int .i64 (s.recs.length : Nat), .int .i64 (s.safe : Nat)] := hl4.blk
      have Hgl2 : Hid (g ≠ ga2 ∧ g ≠ w2.heap.size ∧ w.heap.size ≤ ga2) := ⟨by have := Hga.out.1; have := hglt.1; omega, by have := HB2.out.size; have := hglt.1; omega, Hga.out.1⟩
      by_cases hr0 : r = 0
      · subst hr0
        have HR : Hid (s.reset d l = (0, { epoch := s.epoch + 1, recs := l, safe := l.length, gone := false }, (settleS d (s.epoch + 1) l).2)) := Hre.out.trans (if_pos rfl)
        have f1 := hb4.frozen 1
        have f2 := hb4.frozen 2
        have f3 := hb4.frozen 3
        have f4 := hb4.frozen 4
        have f5 := hb4.frozen 5
        have m1 := hb4.cell 1
        have m2 := hb4.cell 2
        have m3 := hb4.cell 3
        have m4 := hb4.cell 4
        have m5 := hb4.cell 5
        simp only [List.getElem?_toArray, List.getElem?_cons_zero, List.getElem?_cons_succ] at m1 m2 m3 m4 m5
        have hset := bk_set5 hb4 (.int .u64 e1) (.slice (some ⟨ga2, 0, none⟩) d.bytes c2) (.int .i64 (u1 : Nat)) (.int .i64 (k1 : Nat)) (.int .i64 (k1 : Nat))
        have HF : Hid (∃ H', PB (((((w4.setCell ⟨g, 1, none⟩ (.int .u64 e1)).setCell ⟨g, 2, none⟩ (.slice (some ⟨ga2, 0, none⟩) d.bytes c2)).setCell ⟨g, 3, none⟩ (.int .i64 (u1 : Nat))).setCell ⟨g, 4, none⟩ (.int .i64 (k1 : Nat))).setCell ⟨g, 5, none⟩ (.int .i64 (k1 : Nat))) H' g gd (settleS d (s.epoch + 1) l).2 { epoch := s.epoch + 1, recs := l, safe := l.length, gone := false } ∧
            Mv H H' w (((((w4.setCell ⟨g, 1, none⟩ (.int .u64 e1)).setCell ⟨g, 2, none⟩ (.slice (some ⟨ga2, 0, none⟩) d.bytes c2)).setCell ⟨g, 3, none⟩ (.int .i64 (u1 : Nat))).setCell ⟨g, 4, none⟩ (.int .i64 (k1 : Nat))).setCell ⟨g, 5, none⟩ (.int .i64 (k1 : Nat)))) := by
          obtain ⟨hb5, hk5⟩ := hset
          obtain ⟨g2, g3, g4, g5, g6, g7, g8⟩ := HFG.out
          have hok5 := Hok2.out
          rw [HR.out] at hok5
          rw [← He1.out] at hp4
          generalize (((((w4.setCell ⟨g, 1, none⟩ (.int .u64 e1)).setCell ⟨g, 2, none⟩ (.slice (some ⟨ga2, 0, none⟩) d.bytes c2)).setCell ⟨g, 3, none⟩ (.int .i64 (u1 : Nat))).setCell ⟨g, 4, none⟩ (.int .i64 (k1 : Nat))).setCell ⟨g, 5, none⟩ (.int .i64 (k1 : Nat))) = W5 at *
          have hrow := own_kp hll.row hk5 (fun k e e2 => by injection e with e; subst e; exact Hgl2.out.1 e2.symm)
          refine pb_step g2 g3 (hp4.kp hk5 (fun k hf e => hd4 k hf (.inl e))) (G' := fun k => k = g ∨ k = ga2) ⟨.inl rfl, fun k e => ?_, by rw [g7]; exact hok5, fun _ => ⟨ga2, c2, .inr rfl, by
            rw [g7]
            refine ⟨?_, hrow, Hgl2.out.1⟩
            rw [He1.out]
            show Bk W5 g _ ([Value.pointer (some ⟨gd, 0, none⟩)] ++ (lgC e1 (some ⟨ga2, 0, none⟩) d.bytes c2 (usedF l) l.length ++ [Value.int .i64 (l.length : Nat)])).toArray
            rw [Hu1.out, Hk1.out]
            exact hb5⟩, fun e => by cases e⟩ (fun k hf e => hd4 k hf (e.elim .inl fun e => .inr (.inr (.inr e)))) ((hk4.mono (fun k e => .inl e)).trans (hk5.mono (fun k e => .inr (by rw [e]; exact g6)))) hF4 (fun k e => ?_) g4
          · rcases e with rfl | rfl
            · exact hb5.lt
            · exact (hrow.lt _ rfl).2
          · rcases e with rfl | rfl
            · exact .inl g6
            · exact .inr Hgl2.out.2.2
        clear hp4 hll hl4 hk4 hF4 hd4 hb4 hset HS d0 hglt
        go_wp2
        go_ret
        unfold Acted
        rw [HR.out]
        exact ⟨rfl, HF.out⟩
      · have HR : Hid (s.reset d l = (r, { s with gone := true }, (settleS d (s.epoch + 1) l).2)) := Hre.out.trans (if_neg hr0)
        have hne : (r != 0) = true := by simpa using hr0
        have HE := Lib.hid (note_err g _ _ _ _ _ _ r w4 hr0 hb4)
        rw [← He1.out] at hp4
        have HF : Hid (∀ w5, Bk w5 g 165 goneC → Kp (· = g) w4 w5 → ∃ H', PB w5 H' g gd (settleS d (s.epoch + 1) l).2 { s with gone := true } ∧ Mv H H' w w5) := fun w5 hb5 hk5 => by
          obtain ⟨g2, g3, g4, g5, g6, g7, g8⟩ := HFG.out
          have hok5 := Hok2.out
          rw [HR.out] at hok5
          refine pb_step g2 g3 (hp4.kp hk5 (fun k hf e => hd4 k hf (.inl e))) (G' := fun k => k = g) ⟨rfl, fun k e => ?_, by rw [g7]; exact hok5, fun e => (by cases e), fun _ => hb5⟩ (fun k hf e => hd4 k hf (.inl e)) ((hk4.mono (fun k e => .inl e)).trans (hk5.mono (fun k e => .inr (by rw [e]; exact g6)))) hF4 (fun k e => ?_) g4
          · subst e; exact hb5.lt
          · subst e; exact .inl g6
        clear hp4 hll hl4 hk4 hF4 hd4 hb4 HS d0 hglt hr0
        go_wp2_with fail
        refine HE.out.mono ?_
        rintro x w5 ⟨rfl, hb5, hk5⟩
        have HF2 := Lib.hid (HF.out w5 hb5 hk5)
        clear hb5 hk5 HE HF
        go_wp2
        go_ret
        unfold Acted
        rw [HR.out]
        exact ⟨rfl, HF2.out⟩
    · rw [if_pos hn] at hre
      have Hn := Lib.hid hn
      have Hre := Lib.hid hre
      obtain ⟨r, hr⟩ : ∃ r, nextE d.bytes s.epoch l = r := ⟨_, rfl⟩
      have hne : (r != 0) = true := by rw [← hr]; simpa using hn
      have HX : Hid (NextR s.epoch d.bytes l w = fun x w' => x = .returned (.tuple #[.agg #[.int .u64 0, .slice none 0 0, .int .i64 0, .int .i64 0], .int .i64 r]) ∧ Below w.heap.size w w') := by
        show _ = _
        funext x w'
        apply propext
        unfold NextR
        rw [hr]
        constructor
        · rintro (h | h)
          · exact h.2
          · exact absurd (hr.trans h.1) hn
        · exact fun h => .inl ⟨by rw [← hr]; exact hn, h⟩
      rw [HX.out] at HN
      rw [hr] at Hre
      clear HX Hn hr h0 hp hw hl hok hok2 hls hFG hFH hGH hH hga hgF hgaF hgone hby hn hre c1 c2
      go_enter Tryz.func75, Tryz.ntmps75
      go_wp2_with fail
      refine HC.out.mono ?_
      rintro x w' ⟨rfl, rfl⟩
      go_wp2_with fail
      refine HN.out.mono ?_
      rintro x w2 ⟨rfl, hb2⟩
      have HF := Lib.hid (HB0.out _ (hb2.alloc hb2.size (.cells #[.int .u64 0, .slice none 0 0, .int .i64 0, .int .i64 0] 163)))
      clear hb2 HN HC HB0
      go_wp2
      go_ret
      unfold Acted
      rw [Hre.out]
      exact ⟨rfl, HF.out⟩

set_option maxRecDepth 100000 in
set_option maxHeartbeats 400000 in
theorem append_nil (A : Option Addr) (n c : Nat) (w : World) : Calls Tryz.prog 65 #[.pointer none, .slice A n c] w fun e w' => e = .returned (.int .i64 1) ∧ w = w' := by
  have HC := Lib.hid (ready_nil w)
  go_enter Tryz.func65, Tryz.ntmps65
  go_wp2_with fail
  refine HC.out.mono ?_
  rintro x w' ⟨rfl, rfl⟩
  go_wp2
  go_ret
  exact ⟨rfl, rfl⟩
set_option maxRecDepth 100000 in
set_option maxHeartbeats 400000 in
theorem reset_nil (A : Option Addr) (n c : Nat) (w : World) : Calls Tryz.prog 75 #[.pointer none, .slice A n c] w fun e w' => e = .returned (.int .i64 1) ∧ w = w' := by
  have HC := Lib.hid (ready_nil w)
  go_enter Tryz.func75, Tryz.ntmps75
  go_wp2_with fail
  refine HC.out.mono ?_
  rintro x w' ⟨rfl, rfl⟩
  go_wp2
  go_ret
  exact ⟨rfl, rfl⟩
set_option maxRecDepth 100000 in
set_option maxHeartbeats 400000 in
theorem syncW_nil (w : World) : Calls Tryz.prog 70 #[.pointer none] w fun e w' => e = .returned (.int .i64 1) ∧ w = w' := by
  have HC := Lib.hid (ready_nil w)
  go_enter Tryz.func70, Tryz.ntmps70
  go_wp2_with fail
  refine HC.out.mono ?_
  rintro x w' ⟨rfl, rfl⟩
  go_wp2
  go_ret
  exact ⟨rfl, rfl⟩
end Go.Proofs.YtfepjgafamaegaaGreat

/- The document's Decode. -/
namespace Go.Proofs.YtfepjgafamaegaaGreat
open Go.RowKit

set_option maxRecDepth 100000 in
set_option maxHeartbeats 4000000 in
theorem refDecode_any (A : Option Addr) (n c : Nat) (b : List UInt8) (w : World) (hc : n ≤ c) (hm : c ≤ 9223372036854775807) (hn : n ≤ 1000000) (h : Rd w w.heap.size A n b) :
    Calls Tryz.prog 17 #[.slice A n c] w fun e w' => ∃ v, e = .returned (.tuple #[v, .int .i64 (decodeS b).2]) ∧ Chs w' w.heap.size v (decodeS b).1 ∧ Below w.heap.size w w' := by
  have hlen := h.1
  have HU := Lib.hid (refUint_any A n c w.heap.size 0 b w hc hm h)
  have HNo : Hid ((∀ l, encodeS l ≠ (b, 0)) → decodeS b = ([], 50)) := Lib.hid decode_none
  have HH := Lib.hid h
  have hu := uintAt_shift b 0 (by omega) (by omega)
  rw [List.drop_zero] at hu
  have HL := Lib.hid hlen
  by_cases hbad : (uintAt b 0).2.2 ≠ 0 ∨ 32 < (uintAt b 0).1
  · have HEE := Lib.hid (HNo.out (Mt.bad hbad))
    generalize uintAt b 0 = u at *
    obtain ⟨u1, u2, u3⟩ := u
    have hbad : u3 ≠ 0 ∨ 32 < u1 := hbad
    clear h hlen hu HNo
    by_cases h3 : u3 = 0
    · subst h3
      have h1 : (32 : Int) < u1 := by omega
      go_enter Tryz.func17, Tryz.ntmps17
      go_wp2_with fail
      refine HU.out.mono ?_
      rintro x w' ⟨rfl, rfl⟩
      go_wp2
      go_ret2
      rw [HEE.out]
      exact ⟨_, rfl, Chs.nil _ _, Below.refl _ _⟩
    · have h1 : (u3 != 0) = true := by simpa using h3
      go_enter Tryz.func17, Tryz.ntmps17
      go_wp2_with fail
      refine HU.out.mono ?_
      rintro x w' ⟨rfl, rfl⟩
      go_wp2
      go_ret2
      rw [HEE.out]
      exact ⟨_, rfl, Chs.nil _ _, Below.refl _ _⟩
  · rcases hu with ⟨N, p0, -, hu, hp1, hp2, -⟩ | ⟨e, -, hu, he, -⟩
    · rw [Nat.zero_add] at hu hp2
      have hu : uintAt b 0 = ((N : Int), (p0 : Int), 0) := hu
      rw [hu] at hbad HU
      have hN : ¬ (32 : Int) < (N : Int) := fun h => hbad (.inr h)
      have HM0 := Lib.hid (Mt.start hu)
      have hwi : IntKind.i64.wrap (N : Int) = N := by rw [IntKind.wrap_i64]; omega
      obtain ⟨i0, hi0, hz0, hz1, hz2⟩ := info_parts Tryz.infoChg
      have HBy : Hid (∀ W (p : Nat) (m : Int), 0 ≤ m → m ≤ 1000 → Below w.heap.size w W → Calls Tryz.prog 57 #[.slice A n c, .int .i64 p, .int .i64 m] W fun e w' => ∃ A1 n1 c1, e = .returned (.tuple #[.slice A1 n1 c1, .int .i64 (txtAt b p m).2.1, .int .i64 (txtAt b p m).2.2]) ∧
          (∀ W2, Below w'.heap.size w' W2 → (convert 23 9 (.slice A1 n1 c1)).run Tryz.prog W2 = .ok (sV (txtAt b p m).1) W2) ∧ Below W.heap.size W w') := by
        refine Lib.hid fun W p m h0 h1 hb => (refBytes_any A n c p m b W hc (by omega) hm (by omega) (by omega) ((HH.out.below hb).more hb.size)).mono ?_
        rintro e w' ⟨s, rfl, ho, hb2⟩
        obtain ⟨A1, c1, rfl, _⟩ := own_shape ho
        exact ⟨A1, _, c1, rfl, fun W2 hb => ((Rd.of_own ho).up hb).str Tryz.underlying23 Tryz.underlying5 Tryz.underlying9 c1, hb2⟩
      have HCell : Hid (∀ W (j : Nat) (hj : j < b.length), Below w.heap.size w W → ∃ bb o, A = some ⟨bb, o, none⟩ ∧ W.cell? ⟨bb, o + j, none⟩ = some (.int .u8 (b[j].toNat : Int)) ∧ W.drew.cell? ⟨bb, o + j, none⟩ = some (.int .u8 (b[j].toNat : Int))) := by
        refine Lib.hid fun W j hj hb => ?_
        obtain ⟨bb, o, he, _, hcell⟩ := (HH.out.below hb).2 (by omega)
        exact ⟨bb, o, he, hcell j hj, hcell j hj⟩
      have HEn : Hid (∀ W A n c (l : List Chg), n ≤ c → c ≤ 9223372036854775807 → ChRd W W.heap.size A n l → Calls Tryz.prog 16 #[.slice A n c] W fun e w' => ∃ A1 n1 c1, e = .returned (.tuple #[.slice A1 n1 c1, .int .i64 (encodeS l).2]) ∧ (convert 23 9 (.slice A1 n1 c1)).run Tryz.prog w' = .ok (sV (encodeS l).1) w' ∧ Below W.heap.size W w') := by
        refine Lib.hid fun W A n c l h0 h1 hr => (refEncode_any A n c l W h0 h1 hr).mono ?_
        rintro e w' ⟨s, rfl, ho, hb2⟩
        obtain ⟨A1, c1, rfl, _⟩ := own_shape ho
        exact ⟨A1, _, c1, rfl, (Rd.of_own ho).str Tryz.underlying23 Tryz.underlying5 Tryz.underlying9 c1, hb2⟩
      clear h hlen hu hbad
      go_enter Tryz.func17, Tryz.ntmps17
      go_wp2_with fail
      refine HU.out.mono ?_
      rintro x w' ⟨rfl, rfl⟩
      clear HU
      go_wp2
      go_loopg [5, 7, 8] N (fun g a v i wr => ∃ (vv : Value) (k p : Nat) (dl : List Chg), a = .int .i64 p ∧ v = vv ∧ i = .int .i64 k ∧ k + g = N ∧ p ≤ n ∧ dl.length = k ∧ Hid (Mt b N p k dl) ∧ Hid (Chs wr w.heap.size vv dl) ∧ Hid (Below w.heap.size w wr))
      case atStart => exact ⟨_, 0, p0, [], rfl, rfl, rfl, by omega, by rw [← HL.out]; exact hp2, rfl, HM0, Lib.hid (Chs.nil _ _), Lib.hid (Below.refl _ _)⟩
      case round =>
        obtain ⟨vv, k, p, dl, rfl, rfl, rfl, hk, hp, hdl, HM, Hc, Hb⟩ := hrel
        obtain ⟨Av, cv, rfl, hcv⟩ := own_shape Hc.out
        by_cases hkn : k < N
        · have hkn' : (k : Int) < N := by omega
          have HB1 := HBy.out wr p 16 (by omega) (by omega) Hb.out
          rcases txtAt_shift b p 16 (by rw [HL.out]; omega) (by rw [HL.out]; exact hp) with ⟨t, m, -, ht, hm1, hm2, -⟩ | ⟨e, -, ht, he, -⟩
          · rw [ht] at HB1
            have HB1 := Lib.hid HB1
            have Ht := Lib.hid ht
            have hm2 : p + m ≤ n := by rw [← HL.out]; exact hm2
            have HF2 : Hid (b.length ≤ p + m ∨ (∃ x, b[p + m]? = some x ∧ 1 < x.toNat) → decodeS b = ([], 50)) := Lib.hid fun hh => HNo.out (HM.out.fail2 hkn (by rw [HL.out]; exact hp) ht hh)
            clear ht
            by_cases hto : n ≤ p + m
            · have HEE := Lib.hid (HF2.out (.inl (by rw [HL.out]; exact hto)))
              have hto' : (n : Int) ≤ ((p + m : Nat) : Int) := by omega
              go_wp2_with fail
              refine HB1.out.mono ?_
              rintro x w3 ⟨A1, n1, c1, rfl, -, hb3⟩
              have Hb3 := Lib.hid (below_then Hb.out hb3)
              clear hb3 HB1
              go_wp2
              go_ret2
              rw [HEE.out]
              exact ⟨_, rfl, Chs.nil _ _, Hb3.out⟩
            · have hto' : ¬ (n : Int) ≤ ((p + m : Nat) : Int) := by omega
              have hj : p + m < b.length := by rw [HL.out]; omega
              have hbx : b[p + m]? = some b[p + m] := List.getElem?_eq_getElem hj
              obtain ⟨bb, o, hA, _, _⟩ := HCell.out wr (p + m) hj Hb.out
              subst hA
              have HC2 : Hid (∀ W, Below w.heap.size w W → W.cell? ⟨bb, o + (p + m), none⟩ = some (.int .u8 (b[p + m].toNat : Int)) ∧ W.drew.cell? ⟨bb, o + (p + m), none⟩ = some (.int .u8 (b[p + m].toNat : Int))) := by
                refine Lib.hid fun W hb => ?_
                obtain ⟨bb', o', he, h1, h2⟩ := HCell.out W (p + m) hj hb
                injection he with he
                injection he with he1 he2
                subst he1 he2
                exact ⟨h1, h2⟩
              generalize b[p + m] = x at *
              have hi1 : (0 : Int) ≤ ((p + m : Nat) : Int) := by omega
              have hi2 : ((p + m : Nat) : Int) < (n : Int) := by omega
              have hq : (((p + m : Nat) : Int)).toNat = p + m := by omega
              by_cases hx : 1 < x.toNat
              · have HEE := Lib.hid (HF2.out (.inr ⟨x, hbx, hx⟩))
                have hx' : (1 : Int) < (x.toNat : Int) := by omega
                clear hbx HF2
                generalize hpm : p + m = q at *
                go_wp2_with fail
                refine HB1.out.mono ?_
                rintro y w3 ⟨A1, n1, c1, rfl, -, hb3⟩
                have Hb3 := Lib.hid (below_then Hb.out hb3)
                obtain ⟨c0, _⟩ := HC2.out w3 Hb3.out
                clear hb3 HB1
                go_wp2
                go_ret2
                rw [HEE.out]
                exact ⟨_, rfl, Chs.nil _ _, Hb3.out⟩
              · have hx' : ¬ (1 : Int) < (x.toNat : Int) := by omega
                have Hbx := Lib.hid hbx
                clear hbx HF2
                generalize hpm : p + m = q at *
                have hwq : IntKind.i64.wrap ((q : Int) + 1) = ((q + 1 : Nat) : Int) := by rw [IntKind.wrap_i64]; omega
                by_cases hx1 : x.toNat = 1
                · have hxe : ((x.toNat : Int) == 1) = true := by rw [hx1]; rfl
                  have HMn := Lib.hid (HM.out.gone hkn (by rw [HL.out]; exact hp) Ht.out (by rw [Hbx.out]; congr 1; exact UInt8.toNat_inj.1 (by rw [hx1]; rfl)))
                  go_wp2_with fail
                  refine HB1.out.mono ?_
                  rintro y w3 ⟨A1, n1, c1, rfl, kc3, hb3⟩
                  have Hb3 := Lib.hid (below_then Hb.out hb3)
                  have Hc3 := Lib.hid (Hc.out.below hb3)
                  obtain ⟨c0, c0d⟩ := HC2.out w3 Hb3.out
                  clear hb3 HB1
                  go_upto_region 11 with (fail)
                  have HK : Hid (∀ W, Below w3.heap.size w3 W → W.cell? ⟨bb, o + q, none⟩ = some (.int .u8 (x.toNat : Int)) ∧ (convert 23 9 (.slice A1 n1 c1)).run Tryz.prog W = .ok (sV t) W ∧ Below w3.heap.size w3 W) := Lib.hid fun W hb => ⟨(HC2.out W (below_then Hb3.out hb)).1, kc3 W hb, hb⟩
                  clear kc3 c0 c0d
                  go_cut [12] (fun s w' => ∃ W g, W = w' ∧ s = .pointer (some ⟨g, 0, none⟩) ∧ Bk w' g 88 #[sV t, .string ⟨#[]⟩, .bool true] ∧ w3.heap.size ≤ g ∧ Below w3.heap.size w3 w')
                  case first =>
                    go_region_held3 (fun w' => w'.cell? ⟨bb, o + q, none⟩ = some (.int .u8 (x.toNat : Int)) ∧ (convert 23 9 (.slice A1 n1 c1)).run Tryz.prog w' = .ok (sV t) w' ∧ Below w3.heap.size w3 w') (first | (refine HK.out _ ?_; (repeat' (first | assumption | exact Below.refl _ _ | exact Nat.le_refl _ | apply Below.drew | (refine Below.alloc ?_ ?_ _) | (refine Below.setCell ?_ ?_ _) | (simp; done) | (simp; omega))); done) | go_keep)
                      (first | fail)
                    all_goals
                      have hbn := Bk.new w3 88 #[sV t, .string ⟨#[]⟩, .bool true]
                      go_wp2_with fail
                      go_meet
                      exact ⟨_, _, rfl, rfl, hbn, Nat.le_refl _, ((Below.refl _ _).alloc (Nat.le_refl _) _).drew⟩
                  case rest =>
                    obtain ⟨W4, g, rfl, rfl, hbk, hg, hb4⟩ := hcut
                    have Hb4 := Lib.hid (below_then Hb3.out hb4)
                    have Hc4 := Lib.hid (Hc3.out.below hb4)
                    have Hbk := Lib.hid hbk
                    clear hb4 hbk HK
                    have k0 := Hbk.out.cell 0
                    have k1 := Hbk.out.cell 1
                    have k2 := Hbk.out.cell 2
                    have hcc : W4.ownsRow w.heap.size 88 3 (.slice Av k cv) k (chCells dl) := by have := Hc4.out; unfold Chs at this; rwa [hdl] at this
                    have hca := own_below hcc ((Below.refl W4.heap.size W4).alloc (Nat.le_refl _) (.cells #[sV t, sV [], .bool true] 88)) (fun g hg => (hcc.lt g hg).2)
                    have hba : Below w.heap.size w (W4.alloc (.cells #[sV t, sV [], .bool true] 88)) := Hb4.out.alloc Hb4.out.size _
                    clear hcc
                    go_wp2_with (at_builtin; refine wpList_append_app _ rfl _ _ 22 rfl w.heap.size 88 i0 (.agg #[.string ByteArray.empty, .string ByteArray.empty, .bool false]) 3 40 Tryz.underlying22 hi0 hz0 hz1 hz2 rfl _ _ _ rfl hca (some ⟨W4.heap.size, 0, none⟩) 1 1 [sV t, sV [], .bool true] rfl rfl (by intro e; cases e) (three_at _ _ _ _ _ rfl) (by intro u hu; simp at hu; rcases hu with rfl | rfl | rfl <;> rfl) (by unfold maxLen; omega) (by omega) hba.size ?_)
                    intro v9 w9 ha
                    have HB9 := Lib.hid (ha.below hba hba.size (own_block_ge hca))
                    have HC9 : Hid (Chs w9 w.heap.size v9 (dl ++ [⟨t, [], true⟩])) := by
                      show w9.ownsRow _ _ _ _ _ _
                      have := ha.own
                      rw [List.length_append, hdl, chCells_snoc]
                      exact this
                    clear ha hba hca
                    go_wp2
                    go_roundg (gk - 1)
                    case measure => omega
                    case rel => exact ⟨_, k + 1, q + 1, _, by go_num, rfl, by go_num, by omega, by omega, by simp [hdl], HMn, HC9, HB9⟩
                · have hx0 : x.toNat = 0 := by omega
                  have hxe : ((x.toNat : Int) == 1) = false := by rw [hx0]; rfl
                  have hb0 : b[q]? = some 0 := by rw [Hbx.out]; congr 1; exact UInt8.toNat_inj.1 (by rw [hx0]; rfl)
                  have HF3 : Hid ((txtAt b ((q + 1 : Nat) : Int) 128).2.2 ≠ 0 → decodeS b = ([], 50)) := Lib.hid fun hh => HNo.out (HM.out.fail3 hkn (by rw [HL.out]; exact hp) Ht.out hb0 hh)
                  have HMv : Hid (∀ (v : List UInt8) (up : Nat), txtAt b ((q + 1 : Nat) : Int) 128 = (v, (up : Int), 0) → Mt b N up (k + 1) (dl ++ [⟨t, v, false⟩])) := Lib.hid fun v up hh => HM.out.live hkn (by rw [HL.out]; exact hp) Ht.out hb0 hh
                  have hsh := txtAt_shift b (q + 1) 128 (by rw [HL.out]; omega) (by rw [HL.out]; omega)
                  have Hsh := Lib.hid hsh
                  clear hb0 hsh
                  go_wp2_with fail
                  refine HB1.out.mono ?_
                  rintro y w3 ⟨A1, n1, c1, rfl, kc3, hb3⟩
                  have Hb3 := Lib.hid (below_then Hb.out hb3)
                  have Hc3 := Lib.hid (Hc.out.below hb3)
                  obtain ⟨c0, c0d⟩ := HC2.out w3 Hb3.out
                  clear hb3 HB1
                  go_upto_region 11 with (fail)
                  have HK : Hid (∀ W, Below w3.heap.size w3 W → W.cell? ⟨bb, o + q, none⟩ = some (.int .u8 (x.toNat : Int)) ∧ (convert 23 9 (.slice A1 n1 c1)).run Tryz.prog W = .ok (sV t) W ∧ Below w3.heap.size w3 W) := Lib.hid fun W hb => ⟨(HC2.out W (below_then Hb3.out hb)).1, kc3 W hb, hb⟩
                  clear kc3 c0 c0d
                  go_cut [12] (fun s w' => ∃ W g, W = w' ∧ s = .pointer (some ⟨g, 0, none⟩) ∧ Bk w' g 88 #[sV t, .string ⟨#[]⟩, .bool false] ∧ w3.heap.size ≤ g ∧ Below w3.heap.size w3 w')
                  case first =>
                    go_region_held3 (fun w' => w'.cell? ⟨bb, o + q, none⟩ = some (.int .u8 (x.toNat : Int)) ∧ (convert 23 9 (.slice A1 n1 c1)).run Tryz.prog w' = .ok (sV t) w' ∧ Below w3.heap.size w3 w') (first | (refine HK.out _ ?_; (repeat' (first | assumption | exact Below.refl _ _ | exact Nat.le_refl _ | apply Below.drew | (refine Below.alloc ?_ ?_ _) | (refine Below.setCell ?_ ?_ _) | (simp; done) | (simp; omega))); done) | go_keep)
                      (first | fail)
                    all_goals
                      have hbn := Bk.new w3 88 #[sV t, .string ⟨#[]⟩, .bool false]
                      go_wp2_with fail
                      go_meet
                      exact ⟨_, _, rfl, rfl, hbn, Nat.le_refl _, ((Below.refl _ _).alloc (Nat.le_refl _) _).drew⟩
                  case rest =>
                    obtain ⟨W4, g, rfl, rfl, hbk, hg, hb4⟩ := hcut
                    have Hb4 := Lib.hid (below_then Hb3.out hb4)
                    have Hc4 := Lib.hid (Hc3.out.below hb4)
                    have Hbk := Lib.hid hbk
                    clear hb4 hbk HK
                    have k2 := Hbk.out.cell 2
                    have HB2 := HBy.out W4 (q + 1) 128 (by omega) (by omega) Hb4.out
                    rcases Hsh.out with ⟨v, m2, -, htv, -, hm4, -⟩ | ⟨e, -, htv, he, -⟩
                    · have hm4 : q + 1 + m2 ≤ n := by rw [← HL.out]; exact hm4
                      have HMn := Lib.hid (HMv.out v (q + 1 + m2) htv)
                      rw [htv] at HB2
                      have HB2 := Lib.hid HB2
                      clear htv Hsh HMv HF3
                      go_wp2_with fail
                      refine HB2.out.mono ?_
                      rintro y w5 ⟨A2, n2, c2, rfl, kc5, hb5⟩
                      have Hb5 := Lib.hid (below_then Hb4.out hb5)
                      have Hc5 := Lib.hid (Hc4.out.below hb5)
                      have Hbk5 := Lib.hid (Hbk.out.below hb5 Hbk.out.lt)
                      have kc := kc5 _ (Below.refl _ _)
                      clear hb5 kc5 HB2
                      have f1 := Hbk5.out.frozen 1
                      have k1 : w5.cell? ⟨g, 1, none⟩ = some (.string ⟨#[]⟩) := Hbk5.out.cell 1
                      have Bs : Hid (Bk (w5.setCell ⟨g, 1, none⟩ (sV v)) g 88 #[sV t, sV v, .bool false]) := Lib.hid (Hbk5.out.set_ 1 (sV v))
                      have s0 := Bs.out.cell 0
                      have s1 := Bs.out.cell 1
                      have s2 := Bs.out.cell 2
                      have Hb6 : Hid (Below w.heap.size w (w5.setCell ⟨g, 1, none⟩ (sV v))) := Lib.hid (Hb5.out.setCell (by show w.heap.size ≤ g; have := Hb3.out.size; omega) _)
                      have Hc6 : Hid (Chs (w5.setCell ⟨g, 1, none⟩ (sV v)) w.heap.size (.slice Av dl.length cv) dl) := Lib.hid (own_below Hc5.out ((Below.refl w3.heap.size _).setCell (by show w3.heap.size ≤ g; exact hg) _) (fun g hg => (Hc3.out.lt g hg).2))
                      go_upto_region 19 with (fail)
                      generalize w5.setCell ⟨g, 1, none⟩ (sV v) = W6 at *
                      have hcc : W6.ownsRow w.heap.size 88 3 (.slice Av k cv) k (chCells dl) := by have := Hc6.out; unfold Chs at this; rwa [hdl] at this
                      have hca := own_below hcc ((Below.refl W6.heap.size W6).alloc (Nat.le_refl _) (.cells #[sV t, sV v, .bool false] 88)) (fun g hg => (hcc.lt g hg).2)
                      have hba : Below w.heap.size w (W6.alloc (.cells #[sV t, sV v, .bool false] 88)) := Hb6.out.alloc Hb6.out.size _
                      clear hcc
                      go_wp2_with (at_builtin; refine wpList_append_app _ rfl _ _ 22 rfl w.heap.size 88 i0 (.agg #[.string ByteArray.empty, .string ByteArray.empty, .bool false]) 3 40 Tryz.underlying22 hi0 hz0 hz1 hz2 rfl _ _ _ rfl hca (some ⟨W6.heap.size, 0, none⟩) 1 1 [sV t, sV v, .bool false] rfl rfl (by intro e; cases e) (three_at _ _ _ _ _ rfl) (by intro u hu; simp at hu; rcases hu with rfl | rfl | rfl <;> rfl) (by unfold maxLen; omega) (by omega) hba.size ?_)
                      intro v9 w9 ha
                      have HB9 := Lib.hid (ha.below hba hba.size (own_block_ge hca))
                      have HC9 : Hid (Chs w9 w.heap.size v9 (dl ++ [⟨t, v, false⟩])) := by
                        show w9.ownsRow _ _ _ _ _ _
                        have := ha.own
                        rw [List.length_append, hdl, chCells_snoc]
                        exact this
                      clear ha hba hca
                      go_wp2
                      go_roundg (gk - 1)
                      case measure => omega
                      case rel => exact ⟨_, k + 1, q + 1 + m2, _, by go_num, rfl, by go_num, by omega, by omega, by simp [hdl], HMn, HC9, HB9⟩
                    · have HEE := Lib.hid (HF3.out (by rw [htv]; show (e : Int) ≠ 0; omega))
                      rw [htv] at HB2
                      have HB2 := Lib.hid HB2
                      have he' : ((e : Int) != 0) = true := by simp; omega
                      clear htv Hsh HMv HF3
                      go_wp2_with fail
                      refine HB2.out.mono ?_
                      rintro y w5 ⟨A2, n2, c2, rfl, -, hb5⟩
                      have Hb5 := Lib.hid (below_then Hb4.out hb5)
                      clear hb5 HB2
                      go_wp2
                      go_ret2
                      rw [HEE.out]
                      exact ⟨_, rfl, Chs.nil _ _, Hb5.out⟩
          · rw [ht] at HB1
            have HB1 := Lib.hid HB1
            have HEE := Lib.hid (HNo.out (HM.out.fail1 hkn (by rw [HL.out]; exact hp) (by rw [ht]; show (e : Int) ≠ 0; omega)))
            have he' : ((e : Int) != 0) = true := by simp; omega
            clear ht
            go_wp2_with fail
            refine HB1.out.mono ?_
            rintro x w3 ⟨A1, n1, c1, rfl, -, hb3⟩
            have Hb3 := Lib.hid (below_then Hb.out hb3)
            clear hb3 HB1
            go_wp2
            go_ret2
            rw [HEE.out]
            exact ⟨_, rfl, Chs.nil _ _, Hb3.out⟩
        · have hkN : k = N := by omega
          subst hkN
          have HE1 := HEn.out wr Av dl.length cv dl hcv.1 (by have := hcv.2; unfold maxLen at this; omega) Hc.out.rd
          rw [hdl] at HE1
          have HDo : Hid (encodeS dl ≠ (b, 0) → decodeS b = ([], 50)) := Lib.hid fun hh => HNo.out (HM.out.done hh)
          have HYe : Hid (encodeS dl = (b, 0) → decodeS b = (dl, 0)) := Lib.hid decode_of
          have HSt : Hid (∀ W, Below w.heap.size w W → (convert 23 9 (.slice A n c)).run Tryz.prog W = .ok (sV b) W) := Lib.hid fun W hb => (HH.out.below hb).str Tryz.underlying23 Tryz.underlying5 Tryz.underlying9 c
          generalize encodeS dl = ee at *
          obtain ⟨e1, e2⟩ := ee
          have HE1 := Lib.hid HE1
          by_cases he2 : e2 = 0
          · subst he2
            by_cases he1 : e1 = b
            · have hcmp : (e1 == b) = true := by simpa using he1
              have HEE := Lib.hid (HYe.out (by rw [he1]))
              clear he1
              go_wp2_with fail
              refine HE1.out.mono ?_
              rintro y w5 ⟨A2, n2, c2, rfl, kc, hb5⟩
              have Hb5 := Lib.hid (below_then Hb.out hb5)
              have Hc5 := Lib.hid (Hc.out.below hb5)
              have kb := HSt.out _ Hb5.out
              clear hb5 HE1
              go_wp2
              go_ret2
              rw [HEE.out]
              refine ⟨_, rfl, ?_, Hb5.out⟩
              have := Hc5.out
              rwa [hdl] at this
            · have hcmp : (e1 == b) = false := by simpa using he1
              have HEE := Lib.hid (HDo.out (by intro h; exact he1 (Prod.mk.inj h).1))
              clear he1
              go_wp2_with fail
              refine HE1.out.mono ?_
              rintro y w5 ⟨A2, n2, c2, rfl, kc, hb5⟩
              have Hb5 := Lib.hid (below_then Hb.out hb5)
              have kb := HSt.out _ Hb5.out
              clear hb5 HE1
              go_wp2
              go_ret2
              rw [HEE.out]
              exact ⟨_, rfl, Chs.nil _ _, Hb5.out⟩
          · have he3 : (e2 != 0) = true := by simpa using he2
            have HEE := Lib.hid (HDo.out (by intro h; exact he2 (Prod.mk.inj h).2))
            clear he2
            go_wp2_with fail
            refine HE1.out.mono ?_
            rintro y w5 ⟨A2, n2, c2, rfl, kc, hb5⟩
            have Hb5 := Lib.hid (below_then Hb.out hb5)
            clear hb5 HE1
            go_wp2
            go_ret2
            rw [HEE.out]
            exact ⟨_, rfl, Chs.nil _ _, Hb5.out⟩
    · exfalso
      have hu : uintAt b 0 = (0, 0, (e : Int)) := hu
      rw [hu] at hbad
      have : ((e : Nat) : Int) ≠ 0 := by omega
      exact hbad (.inl this)
end Go.Proofs.YtfepjgafamaegaaGreat

/- The document's log: its object, and what is asked of it. -/
namespace Go.Proofs.YtfepjgafamaegaaGreat
open Go.RowKit

/-- A row of rows of bytes, all in the blocks G. -/
structure LstV (w : World) (G : Nat → Prop) (v : Value) (vals : List Value) (ls : List (List UInt8)) : Prop where
  row : w.ownsRow 0 23 1 v vals.length vals
  inG : ∀ k, v.ownBlock = some k → G k
  len : vals.length = ls.length
  each : ∀ (i : Nat) (x : Value), vals[i]? = some x → ∃ A n c, x = .slice A n c ∧ w.ownsRow 0 5 1 (.slice A n c) n (u8s (ls.getD i [])) ∧ ∀ k, Value.ownBlock (.slice A n c) = some k → G k
section
variable {w w' : World} {G G' K : Nat → Prop} {v v' : Value} {vals : List Value} {ls : List (List UInt8)}
theorem own_ne2 {w : World} {b b' e e' s s' n n' : Nat} {v v' : Value} {xs xs' : List Value} (h : w.ownsRow b e s v n xs) (h' : w.ownsRow b' e' s' v' n' xs') (hne : e ≠ e') : ∀ k, v.ownBlock = some k → v'.ownBlock ≠ some k := fun k hk hk' => by
  rcases h.2 with ⟨rfl, _⟩ | ⟨g, cap, cur, rfl, _, hh, _⟩
  · simp [Value.ownBlock] at hk
  · rcases h'.2 with ⟨rfl, _⟩ | ⟨g', cap', cur', rfl, _, hh', _⟩
    · simp [Value.ownBlock] at hk'
    · have e1 : g = k := by simpa [Value.ownBlock] using hk
      have e2 : g' = k := by simpa [Value.ownBlock] using hk'
      subst e1 e2
      rw [hh] at hh'
      injection hh' with hh'
      injection hh' with _ hh' _
      exact hne hh'
theorem LstV.nil (w : World) (G : Nat → Prop) : LstV w G (.slice none 0 0) [] [] := ⟨World.ownsRow_nil _ _ _ _, by intro k hk; simp [Value.ownBlock] at hk, rfl, by intro i x h; simp at h⟩
theorem LstV.mono (h : LstV w G v vals ls) (hG : ∀ k, G k → G' k) : LstV w G' v vals ls :=
  ⟨h.row, fun k e => hG k (h.inG k e), h.len, fun i x hx => by obtain ⟨A, n, c, e, ho, hg⟩ := h.each i x hx; exact ⟨A, n, c, e, ho, fun k e => hG k (hg k e)⟩⟩
theorem LstV.kp (h : LstV w G v vals ls) (hk : Kp K w w') (hd : ∀ k, G k → ¬ K k) : LstV w' G v vals ls :=
  ⟨own_kp h.row hk fun k e => hd k (h.inG k e), h.inG, h.len, fun i x hx => by
    obtain ⟨A, n, c, e, ho, hg⟩ := h.each i x hx
    exact ⟨A, n, c, e, own_kp ho hk fun k e => hd k (hg k e), hg⟩⟩
theorem LstV.below (h : LstV w G v vals ls) (hb : Below w.heap.size w w') : LstV w' G v vals ls :=
  ⟨own_below h.row hb fun k e => (h.row.lt k e).2, h.inG, h.len, fun i x hx => by
    obtain ⟨A, n, c, e, ho, hg⟩ := h.each i x hx
    exact ⟨A, n, c, e, own_below ho hb fun k e => (ho.lt k e).2, hg⟩⟩
/-- A block that is none of rows of bytes, or of rows of these, may turn. -/
theorem LstV.set_ {g : Nat} (h : LstV w G v vals ls) (hk : Kp (· = g) w w') (h1 : v.ownBlock ≠ some g) (h2 : ∀ (cs : Array Value), w.heap[g]? ≠ some (.cells cs 5)) : LstV w' G v vals ls :=
  ⟨own_kp h.row hk fun k e e2 => h1 (by rw [e, e2]), h.inG, h.len, fun i x hx => by
    obtain ⟨A, n, c, e, ho, hg⟩ := h.each i x hx
    refine ⟨A, n, c, e, own_kp ho hk fun k e e2 => ?_, hg⟩
    rcases ho.2 with ⟨q, _⟩ | ⟨g', cap', cur', q, _, hh', _⟩
    · rw [q] at e; simp [Value.ownBlock] at e
    · rw [q] at e
      have e1 : g' = k := by simpa [Value.ownBlock] using e
      exact h2 cur' (by rw [← e2, ← e1]; exact hh')⟩
/-- One more. -/
theorem LstV.push {A : Option Addr} {n c : Nat} {l : List UInt8} (h : LstV w G v vals ls) (ho : w.ownsRow 0 5 1 (.slice A n c) n (u8s l)) (hx : ∀ k, Value.ownBlock (.slice A n c) = some k → G' k) (hG : ∀ k, G k → G' k) (hn : G' w.heap.size)
    (ha : App w w' 0 23 1 v v' vals.length 1 vals [.slice A n c]) : LstV w' G' v' (vals ++ [.slice A n c]) (ls ++ [l]) := by
  have hk : Kp (fun k => v.ownBlock = some k) w w' := Kp.of_row ha.grow fun g e => e
  have keep : ∀ A n c l, w.ownsRow 0 5 1 (.slice A n c) n (u8s l) → w'.ownsRow 0 5 1 (.slice A n c) n (u8s l) := fun A n c l hh => own_kp hh hk (fun k e e2 => own_ne2 hh h.row (by decide) k e e2)
  refine ⟨?_, fun k e => ?_, by rw [List.length_append, List.length_append, h.len]; rfl, fun i x hx2 => ?_⟩
  · rw [List.length_append]
    exact ha.own
  · rcases ha.block with h1 | h1
    · rw [h1] at e; exact hG k (h.inG k e)
    · rw [h1] at e
      injection e with e
      subst e
      exact hn
  · by_cases hi : i < vals.length
    · rw [List.getElem?_append_left hi] at hx2
      obtain ⟨A', n', c', e, h2, h3⟩ := h.each i x hx2
      have e2 : (ls ++ [l]).getD i [] = ls.getD i [] := by simp [List.getD, List.getElem?_append_left (show i < ls.length by rw [← h.len]; exact hi)]
      rw [e2]
      exact ⟨A', n', c', e, keep _ _ _ _ h2, fun k e => hG k (h3 k e)⟩
    · have hi2 : i = vals.length := by
        have := (List.getElem?_eq_some_iff.1 hx2).1
        rw [List.length_append, List.length_singleton] at this
        omega
      subst hi2
      rw [List.getElem?_append_right (Nat.le_refl _), Nat.sub_self] at hx2
      have e : x = .slice A n c := by simpa using hx2.symm
      have e2 : (ls ++ [l]).getD vals.length [] = l := by rw [h.len]; simp [List.getD]
      rw [e2]
      exact ⟨A, n, c, e, keep _ _ _ _ ho, hx⟩
/-- As an argument. -/
theorem LstV.parts (h : LstV w G v vals ls) : ∃ A c, v = .slice A ls.length c ∧ ls.length ≤ c ∧ c ≤ maxLen ∧ Parts w w.heap.size A ls.length ls := by
  obtain ⟨A, c, rfl, h1, h2⟩ := own_shape h.row
  rw [h.len] at h1
  refine ⟨A, c, by rw [h.len], h1, h2, rfl, fun i hi => ?_⟩
  have hiv : i < vals.length := by rw [h.len]; exact hi
  obtain ⟨A', n', c', e, ho, _⟩ := h.each i _ (List.getElem?_eq_getElem hiv)
  have hrow := h.row
  rcases hrow.2 with ⟨_, h0⟩ | ⟨g, cap, cur, hv, _, hh, _⟩
  · omega
  · have hA : A = some ⟨g, 0, none⟩ := by injection hv
    subst hA
    have hc := hrow.cells (g := g) rfl i _ (by rw [List.getElem?_eq_getElem hiv])
    rw [Addr.add_lit, e] at hc
    obtain ⟨A2, c2, e2, q1, q2⟩ := own_shape ho
    injection e2 with e3 _ e4
    subst e3 e4
    have eg : ls.getD i [] = ls[i] := by simp [List.getD, hi]
    rw [eg] at ho
    exact ⟨g, 0, A', n', c', rfl, (Array.getElem?_eq_some_iff.1 hh).1, hc, q1, by unfold maxLen at q2; omega, Rd.of_own ho⟩
end

/-- Block g is the log s of the document, on the disk at M. -/
structure RWl (w : World) (G : Nat → Prop) (g M n : Nat) (s : Lg) (v : Value) (vals : List Value) : Prop where
  self : G g
  lt : ∀ k, G k → k < w.heap.size
  ok : s.Ok n
  blk : Bk w g 69 #[.pointer (some ⟨M, 0, none⟩), .int .u64 s.epoch, v, .int .i64 s.safe, .bool s.gone]
  lst : LstV w G v vals s.recs
  ne : v.ownBlock ≠ some g
theorem RWl.kp {w w' : World} {G K : Nat → Prop} {g M n : Nat} {s : Lg} {v : Value} {vals : List Value} (h : RWl w G g M n s v vals) (hk : Kp K w w') (hd : ∀ k, G k → ¬ K k) : RWl w' G g M n s v vals :=
  ⟨h.self, fun k hk2 => Nat.lt_of_lt_of_le (h.lt k hk2) hk.size, h.ok, h.blk.kp hk (hd _ h.self), h.lst.kp hk hd, h.ne⟩
theorem RWl.below {w w' : World} {G : Nat → Prop} {g M n : Nat} {s : Lg} {v : Value} {vals : List Value} (h : RWl w G g M n s v vals) (hb : Below w.heap.size w w') : RWl w' G g M n s v vals := h.kp (K := fun _ => False) (Kp.of_below hb) fun _ _ h => h
theorem bk_heap {w : World} {g : Nat} {t : TypeId} {cs : Array Value} (h : Bk w g t cs) : w.heap[g]? = some (.cells cs t) := by
  unfold Bk at h
  exact h
/-- The document's disk at M, and a log on it at g. -/
def RB (w : World) (H : Nat → Prop) (g M : Nat) (d : Dk) (s : Lg) : Prop :=
  ∃ F G v vals, RD w F M d ∧ RWl w G g M d.bytes s v vals ∧ (∀ k, F k → ¬ G k) ∧ (∀ k, F k → H k) ∧ (∀ k, G k → H k) ∧ (∀ k, H k → k < w.heap.size) ∧ (s.gone = false → d.down = false)
theorem RB.kp {w w' : World} {H K : Nat → Prop} {g M : Nat} {d : Dk} {s : Lg} (h : RB w H g M d s) (hk : Kp K w w') (hd : ∀ k, H k → ¬ K k) : RB w' H g M d s := by
  obtain ⟨F, G, v, vals, h1, h2, h3, h4, h5, h6, h7⟩ := h
  exact ⟨F, G, v, vals, h1.kp hk (fun k e => hd k (h4 k e)), h2.kp hk (fun k e => hd k (h5 k e)), h3, h4, h5, fun k e => Nat.lt_of_lt_of_le (h6 k e) hk.size, h7⟩
theorem RB.below {w w' : World} {H : Nat → Prop} {g M : Nat} {d : Dk} {s : Lg} (h : RB w H g M d s) (hb : Below w.heap.size w w') : RB w' H g M d s := h.kp (K := fun _ => False) (Kp.of_below hb) fun _ _ h => h

set_option maxRecDepth 100000 in
set_option maxHeartbeats 1000000 in
/-- Is the power gone? -/
theorem rgone_meth (g M : Nat) (d : Dk) (s : Lg) (v : Value) (w : World) (hd : s.gone = false → d.down = false) (hb : Bk w g 69 #[.pointer (some ⟨M, 0, none⟩), .int .u64 s.epoch, v, .int .i64 s.safe, .bool s.gone])
    (hdn : w.cell? ⟨M, 3, none⟩ = some (.bool d.down)) :
    Calls Tryz.prog 31 #[.pointer (some ⟨g, 0, none⟩)] w fun x w' => x = .returned (.bool s.gone) ∧ Bk w' g 69 #[.pointer (some ⟨M, 0, none⟩), .int .u64 s.epoch, v, .int .i64 s.safe, .bool s.gone] ∧ Kp (· = g) w w' := by
  have c0 := hb.cell 0
  have c4 := hb.cell 4
  have f4 := hb.frozen 4
  simp only [List.getElem?_toArray, List.getElem?_cons_zero, List.getElem?_cons_succ] at c0 c4
  have HS : Hid (∀ z, Bk (w.setCell ⟨g, 4, none⟩ z) g 69 #[.pointer (some ⟨M, 0, none⟩), .int .u64 s.epoch, v, .int .i64 s.safe, z] ∧ Kp (· = g) w (w.setCell ⟨g, 4, none⟩ z)) := fun z => ⟨hb.set_ 4 z, Kp.set_ (F := (· = g)) (p := ⟨g, 4, none⟩) rfl z⟩
  clear hb
  cases hg : s.gone with
  | true =>
    rw [hg] at c4
    have HF := Lib.hid (HS.out (.bool true))
    clear hg hd HS
    go_enter Tryz.func31, Tryz.ntmps31
    go_wp2
    go_ret
    exact ⟨rfl, HF.out⟩
  | false =>
    rw [hg] at c4
    rw [hd hg] at hdn
    have HF := Lib.hid (HS.out (.bool false))
    clear hg hd HS
    go_enter Tryz.func31, Tryz.ntmps31
    go_wp2
    go_ret
    exact ⟨rfl, HF.out⟩

set_option maxRecDepth 100000 in
set_option maxHeartbeats 1000000 in
theorem rused_meth (g N : Nat) (G : Nat → Prop) (ls : List (List UInt8)) (v : Value) (vals : List Value) (w : World) (hN : N ≤ 40000) (hu : usedF ls ≤ N) (hs : ∀ r ∈ ls, r.length ≤ 1024) (hl : LstV w G v vals ls) (c2 : w.cell? ⟨g, 2, none⟩ = some v) :
    Calls Tryz.prog 101 #[.pointer (some ⟨g, 0, none⟩)] w fun x w' => x = .returned (.int .i64 (usedF ls : Nat)) ∧ Below w.heap.size w w' := by
  obtain ⟨A, c, rfl, h1, h2, hp⟩ := hl.parts
  have HC := Lib.hid (rframes_any A ls.length c ls w (by have := usedF_count ls; omega) hp)
  have hfa := framesA_ok hs (show usedF ls ≤ 65536 by omega)
  have HX : Hid (FramesR ls w = fun e w' => ∃ A c, e = .returned (.tuple #[.slice A (usedF ls) c, .int .i64 0]) ∧ w'.ownsRow w.heap.size 5 1 (.slice A (usedF ls) c) (usedF ls) (u8s (framesF ls)) ∧ Below w.heap.size w w') := by
    show _ = _
    unfold FramesR
    rw [hfa]
    rfl
  rw [HX.out] at HC
  clear hl hp HX hfa hs h1 h2
  generalize ls.length = nl at *
  generalize usedF ls = u at *
  go_enter Tryz.func101, Tryz.ntmps101
  go_wp2_with fail
  refine HC.out.mono ?_
  rintro x w2 ⟨A', c', rfl, ho, hb⟩
  have Hb := Lib.hid hb
  clear ho hb HC
  go_wp2
  go_ret
  exact ⟨rfl, Hb.out⟩
end Go.Proofs.YtfepjgafamaegaaGreat

/- The document's log: its room, an area's bytes with records, sectors are laid. -/
namespace Go.Proofs.YtfepjgafamaegaaGreat
open Go.RowKit

set_option maxRecDepth 100000 in
set_option maxHeartbeats 1000000 in
theorem rroom_meth (g M : Nat) (d : Dk) (F G : Nat → Prop) (ls : List (List UInt8)) (v : Value) (vals : List Value) (w : World) (h6 : 6 ≤ d.safe.length) (hu : usedF ls ≤ d.bytes) (hs : ∀ r ∈ ls, r.length ≤ 1024) (hl : LstV w G v vals ls) (h : RD w F M d)
    (c0 : w.cell? ⟨g, 0, none⟩ = some (.pointer (some ⟨M, 0, none⟩))) (c2 : w.cell? ⟨g, 2, none⟩ = some v) :
    Calls Tryz.prog 100 #[.pointer (some ⟨g, 0, none⟩)] w fun x w' => x = .returned (.int .i64 ((d.bytes - usedF ls : Nat) : Int)) ∧ Below w.heap.size w w' := by
  have hlen := h.len
  have hbs : d.bytes ≤ 40000 := by unfold Dk.bytes Dk.half halfN; omega
  have HH : Hid (∀ W, Below w.heap.size w W → Calls Tryz.prog 122 #[.pointer (some ⟨M, 0, none⟩)] W fun x w' => x = .returned (.int .i64 d.half) ∧ W = w') := fun W hW => rhalf_meth M d F W h6 (h.below hW)
  have HU : Hid (∀ W, Below w.heap.size w W → Calls Tryz.prog 101 #[.pointer (some ⟨g, 0, none⟩)] W fun x w' => x = .returned (.int .i64 (usedF ls : Nat)) ∧ Below W.heap.size W w') := fun W hW =>
    rused_meth g d.bytes G ls v vals W hbs hu hs (hl.below hW) ((hW.cell (p := ⟨g, 2, none⟩) (World.block_lt_of_cell? _ _ c2)).trans c2)
  have hbe : d.bytes = d.half * 32 := rfl
  have hh : d.half ≤ 1024 := by unfold Dk.half halfN; omega
  have Hbe := Lib.hid hbe
  rw [hbe] at hu
  clear h hl c2 hs hbs hbe hlen h6
  generalize d.bytes = N at *
  generalize d.half = HH0 at *
  generalize usedF ls = u at *
  go_enter Tryz.func100, Tryz.ntmps100
  go_wp2_with fail
  refine (HH.out _ (Below.refl _ _)).mono ?_
  rintro x w' ⟨rfl, rfl⟩
  have HU1 := Lib.hid (HU.out _ (Below.refl _ _))
  clear HH HU c0
  go_wp2_with fail
  refine HU1.out.mono ?_
  rintro x w2 ⟨rfl, hb⟩
  have Hb := Lib.hid hb
  clear hb HU1
  go_wp2
  go_ret
  refine ⟨?_, Hb.out⟩
  rw [Hbe.out]
  rw [show ((HH0 * 32 - u : Nat) : Int) = 32 * (HH0 : Int) - (u : Int) by omega]
  try rfl

set_option maxRecDepth 100000 in
set_option maxHeartbeats 1000000 in
theorem rfull_meth (g M : Nat) (d : Dk) (F : Nat → Prop) (A : Option Addr) (n c : Nat) (ls : List (List UInt8)) (w : World) (h6 : 6 ≤ d.safe.length) (hn : n ≤ 9223372036854775807) (hu : usedF ls ≤ d.bytes) (hs : ∀ r ∈ ls, r.length ≤ 1024) (hp : Parts w w.heap.size A n ls) (h : RD w F M d)
    (c0 : w.cell? ⟨g, 0, none⟩ = some (.pointer (some ⟨M, 0, none⟩))) :
    Calls Tryz.prog 102 #[.pointer (some ⟨g, 0, none⟩), .slice A n c] w (RowB (fullF d.bytes ls) w) := by
  obtain ⟨i0, hi0, hz0, hz1, hz2⟩ := info_parts Tryz.infoU8
  have hlen := h.len
  have hbs : d.bytes ≤ 40000 := by unfold Dk.bytes Dk.half halfN; omega
  have HH : Hid (∀ W, Below w.heap.size w W → Calls Tryz.prog 122 #[.pointer (some ⟨M, 0, none⟩)] W fun x w' => x = .returned (.int .i64 d.half) ∧ W = w') := fun W hW => rhalf_meth M d F W h6 (h.below hW)
  have HC0 : Hid (∀ W, Below w.heap.size w W → W.cell? ⟨g, 0, none⟩ = some (.pointer (some ⟨M, 0, none⟩))) := fun W hW => (hW.cell (p := ⟨g, 0, none⟩) (World.block_lt_of_cell? _ _ c0)).trans c0
  have HC := Lib.hid (rframes_any A n c ls w hn hp)
  have hfa := framesA_ok hs (show usedF ls ≤ 65536 by omega)
  have HX : Hid (FramesR ls w = fun e w' => ∃ A c, e = .returned (.tuple #[.slice A (usedF ls) c, .int .i64 0]) ∧ w'.ownsRow w.heap.size 5 1 (.slice A (usedF ls) c) (usedF ls) (u8s (framesF ls)) ∧ Below w.heap.size w w') := by
    show _ = _
    unfold FramesR
    rw [hfa]
    rfl
  rw [HX.out] at HC
  have HF : Hid (fullF d.bytes ls = framesF ls ++ zeros (d.bytes - usedF ls) ∧ (fullF d.bytes ls).length = d.bytes) := ⟨rfl, full_len _ _ hu⟩
  have hbe : d.bytes = d.half * 32 := rfl
  have hh : d.half ≤ 1024 := by unfold Dk.half halfN; omega
  have HN : Hid (∀ k, framesF ls ++ zeros (k + 1) = (framesF ls ++ zeros k) ++ [0]) := fun k => by
    rw [List.append_assoc]
    congr 1
    exact List.replicate_succ'
  rw [hbe] at HF hu hbs ⊢
  clear h hp c0 hs hbe hlen h6 HX hfa
  generalize d.half = H0 at *
  generalize usedF ls = u at *
  obtain ⟨Nn, hNn⟩ : ∃ Nn, H0 * 32 = Nn := ⟨_, rfl⟩
  rw [hNn] at HF hu hbs ⊢
  have hNi : (32 : Int) * (H0 : Int) = (Nn : Int) := by omega
  have HNi := Lib.hid hNi
  have hHb : (H0 : Int) ≤ 1024 := by omega
  clear hNi
  go_enter Tryz.func102, Tryz.ntmps102
  go_wp2_with fail
  refine HC.out.mono ?_
  rintro x w2 ⟨A', c', rfl, ho, hb⟩
  have HS : Hid (w2.ownsRow w.heap.size 5 1 (.slice A' u c') u (u8s (framesF ls ++ zeros 0)) ∧ Below w.heap.size w w2) := ⟨by rw [show zeros 0 = [] from rfl, List.append_nil]; exact ho, hb⟩
  clear ho hb HC
  go_wp2
  go_loopg [5] (Nn - u) (fun gk v wr => ∃ k : Nat, k + gk = Nn - u ∧ Hid (wr.ownsRow w.heap.size 5 1 v (u + k) (u8s (framesF ls ++ zeros k)) ∧ Below w.heap.size w wr))
  case atStart => exact ⟨0, by omega, HS⟩
  case round =>
    obtain ⟨k, hk, HR⟩ := hrel
    obtain ⟨hown, hb⟩ := HR.out
    have e0 := HC0.out _ hb
    have HC1 := Lib.hid (HH.out _ hb)
    obtain ⟨Av, cv, rfl, _⟩ := own_shape hown
    by_cases hkn : u + k < Nn
    · have hci : ((u : Int) + (k : Int) < 32 * (H0 : Int)) := by have := HNi.out; omega
      have Hown := Lib.hid hown
      have Hb := Lib.hid hb
      have HNk := Lib.hid (HN.out k)
      clear hown hb HR
      go_wp2_with fail
      refine HC1.out.mono ?_
      rintro x w' ⟨rfl, rfl⟩
      clear e0 HC1 hci HC0 HH
      go_wp2_with (at_builtin; go_loud (refine wpList_append_app _ rfl _ _ 23 rfl w.heap.size 5 i0 (.int .u8 0) 1 1 Tryz.underlying23 hi0 hz0 hz1 hz2 rfl _ _ _ rfl (Hown.out.alloc _) (some ⟨wr.heap.size, 0, none⟩) 1 1 [Value.int .u8 0] rfl rfl (by intro h; cases h) (cell_new1 _ _ _) (by intro u hu; simp at hu; subst hu; rfl) (by unfold maxLen; omega) (by omega) (by have := Hb.out.size; simp; omega) ?_))
      intro v' w1 ha
      have hb1 := ha.below (Hb.out.alloc Hb.out.size _) (by have := Hb.out.size; simp; omega) (own_block_ge Hown.out)
      have HF2 : Hid (w1.ownsRow w.heap.size 5 1 v' (u + (k + 1)) (u8s (framesF ls ++ zeros (k + 1))) ∧ Below w.heap.size w w1) := by
        refine ⟨?_, hb1⟩
        rw [HNk.out, u8s_append]
        exact ha.own
      clear ha hb1 Hown Hb
      go_wp2
      go_roundg (gk - 1)
      case measure => omega
      case rel => exact ⟨k + 1, by omega, HF2.out⟩
    · have hci : ¬ ((u : Int) + (k : Int) < 32 * (H0 : Int)) := by have := HNi.out; omega
      have hkk : k = Nn - u := by omega
      have HFin : Hid (wr.ownsRow w.heap.size 5 1 (.slice Av Nn cv) Nn (u8s (fullF Nn ls)) ∧ Below w.heap.size w wr) := by
        refine ⟨?_, hb⟩
        rw [HF.out.1, ← hkk]
        rw [show u + k = Nn by omega] at hown
        exact hown
      have HFL := Lib.hid HF.out.2
      rw [show u + k = Nn by omega] at *
      clear hown hb HR hkn
      go_wp2_with fail
      refine HC1.out.mono ?_
      rintro x w' ⟨rfl, rfl⟩
      trace_state
      go_wp2
      go_ret
      refine (⟨Av, cv, ?_, ?_, HFin.out.2⟩ : RowB _ w _ _)
      · rw [HFL.out]; rfl
      · rw [HFL.out]; exact HFin.out.1
end Go.Proofs.YtfepjgafamaegaaGreat
