/- Of the proofs of layer 4, merged: PWal4, PWal5, PWal11. -/
import Derived.Test.YtfepjgafamaegaaGreatMPWal
import Derived.Test.YtfepjgafamaegaaGreatM1RWal2
import Derived.Deep.RegionHeld3
import Derived.Test.YtfepjgafamaegaaGreatMFrameP
import Derived.Test.YtfepjgafamaegaaGreatMKnown2
import Derived.StillTailTactics

/- The program's log: an area is read. -/
namespace Go.Proofs.YtfepjgafamaegaaGreat
open Go.RowKit

/-- What a sector is read into. -/
def Read1 (ga q : Nat) (s : List UInt8) (w : World) (e : Ending) (w' : World) : Prop := e = .returned (.int .i64 0) ∧ ∃ w1, Below w.heap.size w w1 ∧ w' = w1.setCells ga q (u8s s)
set_option maxRecDepth 100000 in
set_option maxHeartbeats 1000000 in
theorem load1_any (gb gd ga q cc i : Nat) (x : Int) (d : Dk) (F : Nat → Prop) (w : World) (hx : x = (i : Int)) (hd : d.down = false) (hi : i < d.safe.length) (ht : w.there ga q 32)
    (hb : w.cell? ⟨gb, 0, none⟩ = some (.pointer (some ⟨gd, 0, none⟩))) (h : PD w F gd d) :
    Calls Tryz.prog 142 #[.int .i64 x, .slice (some ⟨ga, q, none⟩) 32 cc, .pointer (some ⟨gb, 0, none⟩)] w (Read1 ga q (d.sec i) w) := by
  subst hx
  have HC := Lib.hid (psec_meth gd d F i w hd hi h)
  have hsl : (u8s (d.sec i)).length = 32 := by rw [u8s_len]; exact Dk.sec_len h.ok hi
  have Hsl := Lib.hid hsl
  generalize d.sec i = s at *
  clear h hsl
  go_enter Tryz.func142, Tryz.ntmps142
  go_wp2_with fail
  refine HC.out.mono ?_
  rintro e w1 ⟨A, c, rfl, hr, hc1, hc2, hb1⟩
  have ht1 : w1.there ga q 32 := there_kp ht (Kp.of_below (F := fun _ => False) hb1) id
  obtain ⟨bs, os, rfl, _⟩ := hr.2 (by omega)
  have hsrc := Lib.hid (hr.cells _ rfl)
  have Hb1 := Lib.hid hb1
  have Ht1 := Lib.hid ht1
  clear hr hb1 ht1 ht HC hb
  go_wp2_with ((refine wpList_copy_mid rfl _ _ 23 23 rfl 5 Tryz.underlying23 Tryz.sizeU8 ga q 32 cc ⟨bs, os, none⟩ 32 c rfl rfl (u8s s) Hsl.out hsrc.out (by rw [Hsl.out]; exact Ht1.out) (u8s_one s) ?_))
  go_wp2
  go_ret
  exact (⟨rfl, w1, Hb1.out, rfl⟩ : Read1 ga q s w _ _)

def Loaded (w : World) (g : Nat) (t : TypeId) (pre post : List Value) (e ga n c en cn : Nat) (area : List UInt8) (x : Ending) (w' : World) : Prop := x = .returned (.int .i64 0) ∧ LgAt w' g t pre post e ga n c en cn area ∧ Kp (· = ga) w w'
theorem lay_next (a s : List UInt8) (m n : Nat) (ha : a.length = m * 32) (hs : s.length = 32) (hm : (m + 1) * 32 ≤ n) :
    (a ++ zeros (n - m * 32)).take (m * 32) ++ (s ++ (a ++ zeros (n - m * 32)).drop (m * 32 + s.length)) = (a ++ s) ++ zeros (n - (m + 1) * 32) := by
  have hd : (a ++ zeros (n - m * 32)).drop (m * 32 + 32) = zeros (n - (m + 1) * 32) := by
    rw [← List.drop_drop, List.drop_left' ha]
    unfold zeros
    rw [List.drop_replicate]
    congr 1
    omega
  rw [List.take_left' ha, hs, hd, List.append_assoc]
theorem zeros_cells (n : Nat) : u8s (zeros n) = List.replicate n (.int .u8 0) := by simp [u8s, zeros]

set_option maxRecDepth 100000 in
set_option maxHeartbeats 2000000 in
theorem sectors_load (g : Nat) (e ga c H : Nat) (gb gd : Nat) (d : Dk) (F : Nat → Prop) (w : World)
    (hH : H = d.half) (h6 : 6 ≤ d.safe.length) (hd : d.down = false)
    (hl : LgAt w g 163 [] [] e ga (H * 32) c 0 0 (zeros (H * 32))) (h : PD w F gd d) (hga : ¬ F ga) (hb : w.cell? ⟨gb, 0, none⟩ = some (.pointer (some ⟨gd, 0, none⟩))) (hgb : gb ≠ ga) :
    Calls Tryz.prog 97 #[.pointer (some ⟨g, 0, none⟩), .int .i64 0, .int .i64 ((H * 32 : Nat) : Int), .func (.func 142) #[] #[.pointer (some ⟨gb, 0, none⟩)]] w
      (Loaded w g 163 [] [] e ga (H * 32) c 0 0 (d.area e)) := by
  have hlen := hl.len
  obtain ⟨hb1, hb2, hb3⟩ := Dk.base_le h6 e
  have hs2048 := h.len
  have hok := h.ok
  have hHb : H ≤ 1024 := by rw [hH]; unfold Dk.half halfN; omega
  have hBH : d.base e = 2 + (e % 2) * H := by rw [hH]; rfl
  have hae : d.area e = secsFrom d (d.base e) H := by rw [hH]; rfl
  rw [← hH] at hb2
  rw [hae]
  obtain ⟨B, hB, hB3⟩ : ∃ B, d.base e = B ∧ (B = 2 ∧ e % 2 = 0 ∨ B = 2 + H ∧ e % 2 = 1) := ⟨_, rfl, by
    rw [hBH]
    rcases Nat.mod_two_eq_zero_or_one e with h2 | h2 <;> rw [h2] <;> omega⟩
  rw [hB] at hb1 hb2 ⊢
  have HP : Hid (∀ w', Kp (· = ga) w w' → PD w' F gd d ∧ w'.cell? ⟨gb, 0, none⟩ = some (.pointer (some ⟨gd, 0, none⟩))) := fun w' hk => ⟨h.kp hk fun k hf e => hga (e ▸ hf), cell_kp hb hk hgb⟩
  have HC : Hid (∀ q, Calls Tryz.prog 128 #[.pointer (some ⟨g, 0, none⟩)] (w.drewN q) fun x w' => x = .returned (.int .i64 ((e % 2 : Nat) : Int)) ∧ w' = w.drewN q) := fun q => (side_meth g 0 e (w.drewN q) (hl.c0 rfl)).mono fun _ _ ⟨h1, h2⟩ => ⟨h1, h2.symm⟩
  have HR1 : Hid (∀ w' m (x : Int), Kp (· = ga) w w' → w'.there ga (m * 32) 32 → (m + 1) * 32 ≤ H * 32 → x = ((B + m : Nat) : Int) →
      Calls Tryz.prog 142 #[.int .i64 x, .slice (some ⟨ga, m * 32, none⟩) ((m + 1) * 32 - m * 32) (c - m * 32), .pointer (some ⟨gb, 0, none⟩)] w' (Read1 ga (m * 32) (d.sec (B + m)) w')) := fun w' m x hk ht hmn hx => by
    obtain ⟨h1, h2⟩ := HP.out w' hk
    rw [show (m + 1) * 32 - m * 32 = 32 by omega]
    exact load1_any gb gd ga (m * 32) _ (B + m) x d F w' hx hd (by omega) ht h2 h1
  have HS : Hid (∀ m, m < H → (secsFrom d B m).length = m * 32 ∧ (d.sec (B + m)).length = 32) := fun m hm => ⟨secsFrom_len hok _ _ (by omega), Dk.sec_len hok (by omega)⟩
  have HL0 : Hid (LgAt w g 163 [] [] e ga (H * 32) c 0 0 (secsFrom d B 0 ++ zeros (H * 32 - 0 * 32))) := by
    have : secsFrom d B 0 ++ zeros (H * 32 - 0 * 32) = zeros (H * 32) := by simp [secsFrom]
    rw [this]; exact hl
  have c1 := hl.c1 (o := 0) rfl
  have hcap : H * 32 ≤ c ∧ c ≤ 9223372036854775807 := ⟨hlen.2.1, hlen.2.2⟩
  clear hl h hlen hok hae hBH hB hH hs2048
  rcases hB3 with ⟨hB3, h2⟩ | ⟨hB3, h2⟩
  all_goals
    rw [h2] at HC
    have HB3 := Lib.hid hB3
    clear h2 hB3
    go_enter Tryz.func97, Tryz.ntmps97
    go_wp2_with fail
    go_quiet ((go_at_call 128; exact Calls.quiet_of_same (HC.out _)))
    go_wp2
    clear HC
    go_loopg [10] H (fun gk i wr => ∃ m : Nat, i = .int .i64 m ∧ m + gk = H ∧ Hid (LgAt wr g 163 [] [] e ga (H * 32) c 0 0 (secsFrom d B m ++ zeros (H * 32 - m * 32)) ∧ Kp (· = ga) w wr))
    case atStart => exact ⟨0, rfl, by omega, ⟨HL0.out.kp (F := fun _ => False) (Kp.drewN _ w _) id id, Kp.drewN _ w _⟩⟩
    case round =>
      obtain ⟨m, rfl, hk, HR⟩ := hrel
      obtain ⟨hl1, hk1⟩ := HR.out
      by_cases hkn : m < H
      · have c1 := hl1.c1 (o := 0) rfl
        have hmto : (m : Int) * 32 < (H : Int) * 32 := by omega
        have hmb : m + 1 ≤ H := by omega
        have HC1 := Lib.hid (fun x hx => HR1.out wr m x hk1 (own_there hl1.row _ _ (by omega)) (by omega) hx)
        have Hl1 := Lib.hid hl1
        have Hk1 := Lib.hid hk1
        have Hs := Lib.hid (HS.out m hkn)
        clear hl1 hk1 HR
        go_wp2_with fail
        refine (HC1.out _ (by have := HB3.out; omega)).mono ?_
        rintro x w2 ⟨rfl, w1, hb1', rfl⟩
        have hlay := (Hl1.out.below hb1').lay (m * 32) (d.sec (B + m)) (by rw [Hs.out.2]; omega)
        rw [lay_next _ _ m (H * 32) Hs.out.1 Hs.out.2 (by omega)] at hlay
        have HFin : Hid (LgAt (w1.setCells ga (m * 32) (u8s (d.sec (B + m)))) g 163 [] [] e ga (H * 32) c 0 0 (secsFrom d B (m + 1) ++ zeros (H * 32 - (m + 1) * 32)) ∧ Kp (· = ga) w (w1.setCells ga (m * 32) (u8s (d.sec (B + m))))) :=
          ⟨hlay, (Hk1.out.trans (Kp.of_below hb1')).trans (Kp.sets (F := fun x => x = ga) rfl _ _ _)⟩
        generalize w1.setCells ga (m * 32) (u8s (d.sec (B + m))) = w3 at *
        clear hlay hb1' HC1
        go_wp2
        go_roundg (gk - 1)
        case measure => omega
        case rel => exact ⟨m + 1, by go_num, by omega, HFin.out⟩
      · obtain rfl : m = H := by omega
        have hz : secsFrom d B m ++ zeros (m * 32 - m * 32) = secsFrom d B m := by simp [zeros]
        rw [hz] at hl1
        have HFin := Lib.hid (And.intro hl1 hk1)
        have hmb : (m : Int) ≤ 1024 := by omega
        clear hl1 hk1 HR hz
        go_wp2
        go_ret
        exact (⟨rfl, HFin.out⟩ : Loaded w g _ _ _ _ _ _ _ _ _ _ _ _)
end Go.Proofs.YtfepjgafamaegaaGreat

/- The program's log: the records of an area; a log is loaded. -/
namespace Go.Proofs.YtfepjgafamaegaaGreat
open Go.RowKit

set_option maxRecDepth 100000 in
set_option maxHeartbeats 2000000 in
theorem find_meth (g e ga n c : Nat) (area : List UInt8) (w : World) (hn : n ≤ 40000) (hl : LgAt w g 163 [] [] e ga n c 0 0 area) :
    Calls Tryz.prog 144 #[.pointer (some ⟨g, 0, none⟩)] w fun x w' => x = .returned (.tuple #[]) ∧ LgAt w' g 163 [] [] e ga n c (findR area).2 (findR area).1.length area ∧ Kp (· = g) w w' := by
  have hlen := hl.len
  have hl0 := Lib.hid hl
  have Hal := Lib.hid hlen.1
  have hcap : n ≤ c ∧ c ≤ 9223372036854775807 := ⟨hlen.2.1, hlen.2.2⟩
  clear hl hlen
  go_enter Tryz.func144, Tryz.ntmps144
  go_wp2
  go_loopg [] n (fun gk wr => ∃ (k : Nat) (rs : List (List UInt8)), k + gk = n ∧ 10 * rs.length ≤ k ∧ Hid (findR area = (rs ++ (findR (area.drop k)).1, k + (findR (area.drop k)).2)) ∧ Hid (LgAt wr g 163 [] [] e ga n c k rs.length area ∧ Kp (· = g) w wr))
  case atStart => exact ⟨0, [], by omega, by simp, Lib.hid (by simp), ⟨hl0.out, Kp.refl _ w⟩⟩
  case round =>
    obtain ⟨k, rs, hk, hrs, Hs, HR⟩ := hrel
    obtain ⟨hl1, hk1⟩ := HR.out
    have c1 := hl1.c1 (o := 0) rfl
    have c2 := hl1.c2 (o := 0) rfl
    have c3 := hl1.c3 (o := 0) rfl
    have f2 := hl1.blk.frozen 2
    have f3 := hl1.blk.frozen 3
    simp only [Nat.zero_add] at c1 c2 c3
    have HC : Hid (∀ W, Below wr.heap.size wr W → Calls Tryz.prog 125 #[.slice (some ⟨ga, 0, none⟩) n c, .int .i64 (k : Int)] W _) := fun W hb => frameGet_any (some ⟨ga, 0, none⟩) n c k area W hcap.1 (by omega) hcap.2 (hl1.below hb).rd
    have HK : Hid (∀ w', Below wr.heap.size wr w' → w'.cell? ⟨g, 1, none⟩ = some (.slice (some ⟨ga, 0, none⟩) n c) ∧ w'.cell? ⟨g, 2, none⟩ = some (.int .i64 (k : Int)) ∧ Below wr.heap.size wr w') := fun w' hb => by
      have hh := hl1.below hb
      have k1 := hh.c1 (o := 0) rfl
      have k2 := hh.c2 (o := 0) rfl
      simp only [Nat.zero_add] at k1 k2
      exact ⟨k1, k2, hb⟩
    have HB : Hid (∀ w', Below wr.heap.size wr w' → LgAt w' g 163 [] [] e ga n c k rs.length area ∧ Kp (· = g) w w') := fun w' hb => ⟨hl1.below hb, hk1.trans (Kp.of_below hb)⟩
    have hkn : k ≤ n := by omega
    clear hl1 hk1 HR
    cases hg : getF (area.drop k) with
    | error er =>
      rw [getA_err (by rw [Hal.out]; omega) hg] at HC
      have he := getF_err hg
      have hne : ((er : Int) != 0) = true := by simp; omega
      have Hn := Lib.hid (findR_err hg)
      have HBe : Hid (∀ w', Below wr.heap.size wr w' → LgAt w' g 163 [] [] e ga n c (findR area).2 (findR area).1.length area ∧ Kp (· = g) w w') := fun w' hb => by
        have := HB.out w' hb
        rw [Hs.out, Hn.out]
        simpa using this
      clear hg HB
      go_wp2_with fail
      go_region_held3 (fun w' => w'.cell? ⟨g, 1, none⟩ = some (.slice (some ⟨ga, 0, none⟩) n c) ∧ w'.cell? ⟨g, 2, none⟩ = some (.int .i64 (k : Int)) ∧ Below wr.heap.size wr w') (first | exact HK.out _ (Below.refl _ _).drew | exact HK.out _ ((Below.refl _ _).alloc (Nat.le_refl _) _).drew | exact HK.out _ (by assumption) | exact HK.out _ (hb2.alloc hb2.size _) | exact HK.out _ ((hb2.setCell (Nat.le_refl _) _).setCell (Nat.le_refl _) _) | go_keep)
        (first
          | (go_at_call 125; refine (HC.out _ (by first | assumption | exact (Below.refl _ _).drew | exact ((Below.refl _ _).alloc (Nat.le_refl _) _).drew)).mono ?_; rintro x w2 ⟨v, rfl, ho, hb⟩; obtain ⟨Av, cv, rfl, _⟩ := own_shape ho; have hb2 : Below wr.heap.size wr w2 := below_then (by first | assumption | exact (Below.refl _ _).drew | exact ((Below.refl _ _).alloc (Nat.le_refl _) _).drew) hb; have hk2 := HK.out w2 hb2; have hbk : Bk w2 wr.heap.size 167 #[.int .u8 0, .slice none 0 0] := (show Bk (World.drew (wr.alloc (.cells #[.int .u8 0, .slice none 0 0] 167))) wr.heap.size 167 #[.int .u8 0, .slice none 0 0] from Bk.new wr _ _).below hb (by simp [World.drew]); have n0 := hbk.cell 0; have n1 := hbk.cell 1; have m0 := hbk.frozen 0; have m1 := hbk.frozen 1; simp only [List.getElem?_toArray, List.getElem?_cons_zero, List.getElem?_cons_succ] at n0 n1)
          | (go_at_call 125; refine (HC.out _ (by first | assumption | exact (Below.refl _ _).drew | exact ((Below.refl _ _).alloc (Nat.le_refl _) _).drew)).mono ?_; rintro x w2 ⟨v, rfl, ho, hb⟩; obtain ⟨Av, cv, rfl, _⟩ := own_shape ho; have hb2 : Below wr.heap.size wr w2 := below_then (by first | assumption | exact (Below.refl _ _).drew | exact ((Below.refl _ _).alloc (Nat.le_refl _) _).drew) hb; have hk2 := HK.out w2 hb2))
      all_goals
        rename_i hH
        obtain ⟨_, _, hbW⟩ := hH
        have HF := Lib.hid (HBe.out _ hbW)
        clear hbW HBe HK HC
        go_wp2
        try simp only [Exit.inBlock, Exit.then]
        refine bodyPost_ret (results_none rfl _ _ _) rfl ?_
        exact ⟨rfl, HF.out⟩
    | ok fk =>
      obtain ⟨f, m⟩ := fk
      have hfm := getF_le hg
      rw [List.length_drop, Hal.out] at hfm
      rw [getA_ok (by rw [Hal.out]; omega) hg] at HC
      have hu8 := f.1.toNat_lt
      by_cases hk2 : f.1 = 2
      · have hnx := findR_ok hg hk2
        have Hn := Lib.hid hnx
        have hq : (f.1.toNat : Int) = 2 := by rw [hk2]; rfl
        rw [hq] at HC
        have HBo : Hid (∀ w', Below wr.heap.size wr w' → LgAt ((w'.setCell ⟨g, 2, none⟩ (.int .i64 ((k + m : Nat) : Int))).setCell ⟨g, 3, none⟩ (.int .i64 (((rs ++ [f.2]).length : Nat) : Int))) g 163 [] [] e ga n c (k + m) (rs ++ [f.2]).length area ∧ Kp (· = g) w ((w'.setCell ⟨g, 2, none⟩ (.int .i64 ((k + m : Nat) : Int))).setCell ⟨g, 3, none⟩ (.int .i64 (((rs ++ [f.2]).length : Nat) : Int)))) := fun w' hb => by
          obtain ⟨h1, h2⟩ := HB.out w' hb
          have h3 := (h1.set2 (o := 0) rfl (k + m)).set3 (o := 0) rfl (rs ++ [f.2]).length
          simp only [Nat.zero_add] at h3
          exact ⟨h3, (h2.trans (Kp.set_ (F := (· = g)) (p := ⟨g, 2, none⟩) rfl _)).trans (Kp.set_ (F := (· = g)) (p := ⟨g, 3, none⟩) rfl _)⟩
        have hlen1 : (rs ++ [f.2]).length = rs.length + 1 := by simp
        have Hl1 := Lib.hid hlen1
        clear hg hnx hk2 hq hlen1
        go_wp2_with fail
        go_region_held3 (fun w' => w'.cell? ⟨g, 1, none⟩ = some (.slice (some ⟨ga, 0, none⟩) n c) ∧ w'.cell? ⟨g, 2, none⟩ = some (.int .i64 (k : Int)) ∧ Below wr.heap.size wr w') (first | exact HK.out _ (Below.refl _ _).drew | exact HK.out _ ((Below.refl _ _).alloc (Nat.le_refl _) _).drew | exact HK.out _ (by assumption) | exact HK.out _ (hb2.alloc hb2.size _) | exact HK.out _ ((hb2.setCell (Nat.le_refl _) _).setCell (Nat.le_refl _) _) | go_keep)
          (first
            | (go_at_call 125; refine (HC.out _ (by first | assumption | exact (Below.refl _ _).drew | exact ((Below.refl _ _).alloc (Nat.le_refl _) _).drew)).mono ?_; rintro x w2 ⟨v, rfl, ho, hb⟩; obtain ⟨Av, cv, rfl, _⟩ := own_shape ho; have hb2 : Below wr.heap.size wr w2 := below_then (by first | assumption | exact (Below.refl _ _).drew | exact ((Below.refl _ _).alloc (Nat.le_refl _) _).drew) hb; have hk2 := HK.out w2 hb2; have hbk : Bk w2 wr.heap.size 167 #[.int .u8 0, .slice none 0 0] := (show Bk (World.drew (wr.alloc (.cells #[.int .u8 0, .slice none 0 0] 167))) wr.heap.size 167 #[.int .u8 0, .slice none 0 0] from Bk.new wr _ _).below hb (by simp [World.drew]); have n0 := hbk.cell 0; have n1 := hbk.cell 1; have m0 := hbk.frozen 0; have m1 := hbk.frozen 1; simp only [List.getElem?_toArray, List.getElem?_cons_zero, List.getElem?_cons_succ] at n0 n1)
            | (go_at_call 125; refine (HC.out _ (by first | assumption | exact (Below.refl _ _).drew | exact ((Below.refl _ _).alloc (Nat.le_refl _) _).drew)).mono ?_; rintro x w2 ⟨v, rfl, ho, hb⟩; obtain ⟨Av, cv, rfl, _⟩ := own_shape ho; have hb2 : Below wr.heap.size wr w2 := below_then (by first | assumption | exact (Below.refl _ _).drew | exact ((Below.refl _ _).alloc (Nat.le_refl _) _).drew) hb; have hk2 := HK.out w2 hb2))
        all_goals
          rename_i hH
          obtain ⟨_, _, hbW⟩ := hH
          have hh := (HB.out _ hbW).1
          have c3 := hh.c3 (o := 0) rfl
          have c2 := hh.c2 (o := 0) rfl
          have f2 := hh.blk.frozen 2
          have f3 := hh.blk.frozen 3
          simp only [Nat.zero_add] at c3 c2
          have HF := Lib.hid (HBo.out _ hbW)
          rw [Hl1.out, show ((k + m : Nat) : Int) = (k : Int) + (10 + (f.2.length : Int)) by omega, show ((rs.length + 1 : Nat) : Int) = (rs.length : Int) + 1 by omega] at HF
          clear hh hbW HB HBo HK HC
          go_wp2
          go_roundg (gk - m)
          case measure => omega
          case rel => exact ⟨k + m, rs ++ [f.2], by omega, by rw [List.length_append]; simp; omega, Lib.hid (by rw [Hs.out, Hn.out, List.drop_drop, List.append_assoc]; simp [Nat.add_assoc]), by rw [Hl1.out]; exact HF.out⟩
      · have hne : ((f.1.toNat : Int) != 2) = true := by
          simp
          intro h
          apply hk2
          apply UInt8.toNat_inj.1
          show f.1.toNat = 2
          omega
        have Hn := Lib.hid (findR_kind hg hk2)
        have HBe : Hid (∀ w', Below wr.heap.size wr w' → LgAt w' g 163 [] [] e ga n c (findR area).2 (findR area).1.length area ∧ Kp (· = g) w w') := fun w' hb => by
          have := HB.out w' hb
          rw [Hs.out, Hn.out]
          simpa using this
        clear hg HB hk2
        go_wp2_with fail
        go_region_held3 (fun w' => w'.cell? ⟨g, 1, none⟩ = some (.slice (some ⟨ga, 0, none⟩) n c) ∧ w'.cell? ⟨g, 2, none⟩ = some (.int .i64 (k : Int)) ∧ Below wr.heap.size wr w') (first | exact HK.out _ (Below.refl _ _).drew | exact HK.out _ ((Below.refl _ _).alloc (Nat.le_refl _) _).drew | exact HK.out _ (by assumption) | exact HK.out _ (hb2.alloc hb2.size _) | exact HK.out _ ((hb2.setCell (Nat.le_refl _) _).setCell (Nat.le_refl _) _) | go_keep)
          (first
            | (go_at_call 125; refine (HC.out _ (by first | assumption | exact (Below.refl _ _).drew | exact ((Below.refl _ _).alloc (Nat.le_refl _) _).drew)).mono ?_; rintro x w2 ⟨v, rfl, ho, hb⟩; obtain ⟨Av, cv, rfl, _⟩ := own_shape ho; have hb2 : Below wr.heap.size wr w2 := below_then (by first | assumption | exact (Below.refl _ _).drew | exact ((Below.refl _ _).alloc (Nat.le_refl _) _).drew) hb; have hk2 := HK.out w2 hb2; have hbk : Bk w2 wr.heap.size 167 #[.int .u8 0, .slice none 0 0] := (show Bk (World.drew (wr.alloc (.cells #[.int .u8 0, .slice none 0 0] 167))) wr.heap.size 167 #[.int .u8 0, .slice none 0 0] from Bk.new wr _ _).below hb (by simp [World.drew]); have n0 := hbk.cell 0; have n1 := hbk.cell 1; have m0 := hbk.frozen 0; have m1 := hbk.frozen 1; simp only [List.getElem?_toArray, List.getElem?_cons_zero, List.getElem?_cons_succ] at n0 n1)
            | (go_at_call 125; refine (HC.out _ (by first | assumption | exact (Below.refl _ _).drew | exact ((Below.refl _ _).alloc (Nat.le_refl _) _).drew)).mono ?_; rintro x w2 ⟨v, rfl, ho, hb⟩; obtain ⟨Av, cv, rfl, _⟩ := own_shape ho; have hb2 : Below wr.heap.size wr w2 := below_then (by first | assumption | exact (Below.refl _ _).drew | exact ((Below.refl _ _).alloc (Nat.le_refl _) _).drew) hb; have hk2 := HK.out w2 hb2))
        all_goals
          rename_i hH
          obtain ⟨_, _, hbW⟩ := hH
          have HF := Lib.hid (HBe.out _ hbW)
          clear hbW HBe HK HC
          go_wp2
          try simp only [Exit.inBlock, Exit.then]
          refine bodyPost_ret (results_none rfl _ _ _) rfl ?_
          exact ⟨rfl, HF.out⟩
end Go.Proofs.YtfepjgafamaegaaGreat

/- The program's log: one record more, in the area alone. -/
namespace Go.Proofs.YtfepjgafamaegaaGreat
open Go.RowKit

theorem full_push (N : Nat) (rs : List (List UInt8)) (b : List UInt8) :
    (fullF N rs).take (usedF rs) ++ (putF (2, b) ++ (fullF N rs).drop (usedF rs + (putF (2, b)).length)) = fullF N (rs ++ [b]) := by
  rw [full_take]
  unfold fullF
  have hd : (framesF rs ++ zeros (N - usedF rs)).drop (usedF rs) = zeros (N - usedF rs) := List.drop_left' rfl
  rw [framesF_app, framesF_one, usedF_app, usedF_one, ← List.drop_drop, hd, putF_len, List.append_assoc]
  congr 2
  unfold zeros
  rw [List.drop_replicate]
  simp only
  congr 1
  omega

/-- A record more, or the error. -/
def addE (N : Nat) (rs : List (List UInt8)) (b : List UInt8) : Int := if 1024 < b.length then 3 else if N < usedF rs + (10 + b.length) then 5 else 0
set_option maxRecDepth 100000 in
set_option maxHeartbeats 4000000 in
theorem add_meth (g o : Nat) (t : TypeId) (pre post : List Value) (e ga n c : Nat) (rs : List (List UInt8)) (A : Option Addr) (nb cb : Nat) (b : List UInt8) (w : World) (ho : pre.length = o) (hn : n ≤ 40000) (hu : usedF rs ≤ n)
    (hcb : nb ≤ cb) (hcm : cb ≤ 9223372036854775807) (hb : Rd w w.heap.size A nb b) (hl : LgAt w g t pre post e ga n c (usedF rs) rs.length (fullF n rs)) :
    Calls Tryz.prog 95 #[.pointer (some ⟨g, o, none⟩), .slice A nb cb] w fun x w' => x = .returned (.int .i64 (addE n rs b)) ∧
      (addE n rs b ≠ 0 → Below w.heap.size w w') ∧ (addE n rs b = 0 → LgAt w' g t pre post e ga n c (usedF (rs ++ [b])) (rs ++ [b]).length (fullF n (rs ++ [b])) ∧ Kp (fun k => k = g ∨ k = ga) w w') := by
  have hbl := hb.1
  have hlen := hl.len
  have hcnt := usedF_count rs
  unfold addE
  rw [hbl]
  by_cases h1 : 1024 < nb
  · have HC := Lib.hid (framePut_long 2 A nb cb w h1 (by omega))
    rw [if_pos h1]
    clear hb hl
    go_enter Tryz.func95, Tryz.ntmps95
    go_wp2_with fail
    refine HC.out.mono ?_
    rintro x w' ⟨rfl, rfl⟩
    go_wp2
    go_ret
    exact ⟨rfl, fun _ => Below.refl _ _, fun h => absurd h (by decide)⟩
  · rw [if_neg h1]
    have HC := Lib.hid (framePut_ok 2 A nb cb b w (by omega) hcb hcm hb)
    have HL : Hid (∀ W, Below w.heap.size w W → LgAt W g t pre post e ga n c (usedF rs) rs.length (fullF n rs)) := fun W hb => hl.below hb
    have HRm : Hid (∀ W, Below w.heap.size w W → Calls Tryz.prog 127 #[.pointer (some ⟨g, o, none⟩)] W fun x w' => x = .returned (.int .i64 ((n - usedF rs : Nat) : Int)) ∧ Below W.heap.size W w') := fun W hW => room_meth g o _ n c (usedF rs) W (by omega) hu ((hl.below hW).c1 ho) ((hl.below hW).c2 ho)
    have hfp : usedF rs + (10 + nb) ≤ n → (fullF n rs).take (usedF rs) ++ (putF (2, b) ++ (fullF n rs).drop (usedF rs + (putF (2, b)).length)) = fullF n (rs ++ [b]) := fun _ => full_push n rs b
    have Hfp := Lib.hid hfp
    have hu2 : usedF (rs ++ [b]) = usedF rs + (10 + nb) := by rw [usedF_app, usedF_one, hbl]
    have Hu2 := Lib.hid hu2
    have hl2 : (rs ++ [b]).length = rs.length + 1 := by simp
    have Hl2 := Lib.hid hl2
    have hpl : (putF (2, b)).length = 10 + nb := by rw [putF_len, hbl]
    have Hpl := Lib.hid hpl
    have hltg := Lib.hid hl.lt
    clear hb hl hfp hu2 hl2 hpl
    generalize hUU : usedF rs = u at *
    generalize hRR : rs.length = rl at *
    have HUU := Lib.hid hUU
    have HRR := Lib.hid hRR
    clear hUU hRR
    by_cases h2 : n < u + (10 + nb)
    · rw [if_pos h2]
      go_enter Tryz.func95, Tryz.ntmps95
      go_wp2_with fail
      refine HC.out.mono ?_
      rintro x w2 ⟨v, rfl, ho2, hb2⟩
      obtain ⟨Af, cf, rfl, _⟩ := own_shape ho2
      have HR2 := Lib.hid (HRm.out w2 hb2)
      have Hb2 := Lib.hid hb2
      clear ho2 hb2 HC
      have hcmp : ((n - u : Nat) : Int) < 10 + (nb : Int) := by omega
      go_wp2_with fail
      refine HR2.out.mono ?_
      rintro x w3 ⟨rfl, hb3⟩
      have Hb3 := Lib.hid (below_then Hb2.out hb3)
      clear hb3 HR2
      go_wp2
      go_ret
      exact ⟨rfl, fun _ => Hb3.out, fun h => absurd h (by decide)⟩
    · rw [if_neg h2]
      go_enter Tryz.func95, Tryz.ntmps95
      go_wp2_with fail
      refine HC.out.mono ?_
      rintro x w2 ⟨v, rfl, ho2, hb2⟩
      obtain ⟨Af, cf, rfl, _⟩ := own_shape ho2
      have HR2 := Lib.hid (HRm.out w2 hb2)
      have Hb2 := Lib.hid hb2
      have Ho2 := Lib.hid ho2
      clear ho2 hb2 HC
      have hcmp : 10 + (nb : Int) ≤ ((n - u : Nat) : Int) := by omega
      go_wp2_with fail
      refine HR2.out.mono ?_
      rintro x w3 ⟨rfl, hb3⟩
      have Hb3 := Lib.hid (below_then Hb2.out hb3)
      have hl3 := HL.out w3 Hb3.out
      have c1 := hl3.c1 ho
      have c2 := hl3.c2 ho
      have hrd := (Rd.of_own Ho2.out).up hb3
      obtain ⟨bf, of, rfl, hbf, _⟩ := hrd.2 (by omega)
      have HL3 := Lib.hid hl3
      have Hrd := Lib.hid hrd
      clear hb3 HR2 hl3 hrd
      have hr : 10 + nb ≤ n - u := by omega
      have hcu : ¬ c = u := by omega
      have hwr : IntKind.i64.wrap ((u : Int) + (10 + (nb : Int))) = (u : Int) + (10 + (nb : Int)) := by rw [IntKind.wrap_i64]; omega
      have HL3d := HL3.out.below (w' := w3.drew) (Below.refl _ _).drew
      have hlay := HL3d.lay u (putF (2, b)) (by rw [Hpl.out]; omega)
      rw [Hfp.out (by omega)] at hlay
      have HL4 := Lib.hid hlay
      have HK4 : Hid (Kp (fun k => k = g ∨ k = ga) w (w3.drew.setCells ga u (u8s (putF (2, b))))) := ((Kp.of_below Hb3.out).trans (Kp.drew _ _)).trans (Kp.sets (F := fun k => k = g ∨ k = ga) (.inr rfl) _ _ _)
      have hsrc := Lib.hid (Hrd.out.cells _ rfl)
      have hul : Hid ((u8s (putF (2, b))).length = 10 + nb) := (u8s_len _).trans Hpl.out
      have hth : Hid (w3.drew.there ga u (10 + nb)) := own_there HL3d.row u (10 + nb) (by omega)
      have hmin : Hid (10 + nb = Nat.min (10 + nb) (n - u)) := (Nat.min_eq_left hr).symm
      clear HL3d hlay
      go_wp2
      go_region_law ((refine step_copy_mid rfl _ _ 23 23 rfl 5 Tryz.underlying23 Tryz.sizeU8 ga u (n - u) (c - u) ⟨bf, of, none⟩ (10 + nb) cf rfl rfl (u8s (putF (2, b))) (by rw [hul.out]; exact hmin.out) hsrc.out (by rw [hul.out]; exact hth.out) (u8s_one _) ?_); (rw [hul.out]); (have k2 := HL4.out.c2 ho); (have k1 := HL4.out.c1 ho); (have kf := HL4.out.blk.frozen (o + 2)))
      all_goals
        have hl5 := HL4.out.set2 ho (u + (10 + nb))
        have hf5 := (hl5.set3 ho (rl + 1))
        have c3 := hl5.c3 ho
        have f3 := hl5.blk.frozen (o + 3)
        have hk5 := (HK4.out.trans (Kp.set_ (F := fun k => k = g ∨ k = ga) (p := ⟨g, o + 2, none⟩) (.inl rfl) (.int .i64 ((u + (10 + nb) : Nat) : Int)))).trans (Kp.set_ (F := fun k => k = g ∨ k = ga) (p := ⟨g, o + 3, none⟩) (.inl rfl) (.int .i64 ((rl + 1 : Nat) : Int)))
        have HF : Hid (_ ∧ _) := And.intro hf5 hk5
        rw [show ((rl + 1 : Nat) : Int) = (rl : Int) + 1 by omega, show ((u + (10 + nb) : Nat) : Int) = (u : Int) + (10 + (nb : Int)) by omega] at HF
        rw [show ((u + (10 + nb) : Nat) : Int) = (u : Int) + (10 + (nb : Int)) by omega] at c3 f3
        clear hl5 hf5 hk5 k1 k2 kf HL4 HK4 hsrc hul hth hmin HL3 Hrd
        generalize w3.drew.setCells ga u (u8s (putF (2, b))) = W4 at *
        go_wp2
        go_ret
        refine ⟨rfl, fun h => absurd rfl h, fun _ => ?_⟩
        rw [Hu2.out, Hl2.out]
        exact HF.out
end Go.Proofs.YtfepjgafamaegaaGreat
