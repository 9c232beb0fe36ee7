/- DiskTwice: a disk that has crashed is sure: a crash, a sync and a crash more change nothing of what is read. Of every row of acts and all numbers: no condition. -/
import Derived.Test.YtmjffikdaejffaaDTold
import Derived.Test.YtmjffikdaejffaaDActs
import Derived.Test.YtmjffikdaejffaaSame
import Derived.Test.YtmjffikdaejffaaLawDiskArms
import Derived.Deep.RegionLaw
namespace Go.Proofs.Ytmjffikdaejffaa
open Go.ChangeShapes Go.WideShapes Go.ChangeAt Go.RowKit

/-- A disk on which all is sure. -/
def calm (S : List (List UInt8)) : Dk := ⟨S, [], -1, false⟩
theorem calm_crash (S : List (List UInt8)) (ks : List Int) : (calm S).crash ks = calm S := by unfold calm Dk.crash; simp [crashS_nil]
theorem calm_sync (S : List (List UInt8)) : (calm S).sync = (0, calm S) := rfl
theorem calm_read (S : List (List UInt8)) (i : Nat) (h : i < S.length) : (calm S).read (i : Int) = (S.getD i [], 0) := by
  unfold Dk.read
  rw [if_neg (by simp [calm])]
  first
    | (rw [if_neg (by simp [calm]; omega)]; simp [calm, seen_nil])
    | (rw [if_pos (by simp [calm]; omega)]; simp [calm, seen_nil])
theorem crash_calm (d : Dk) (ks : List Int) : d.crash ks = calm (crashS d.safe d.waits ks) := rfl
theorem take_more (S : List (List UInt8)) (j : Nat) (h : j < S.length) : S.take j ++ [S.getD j []] = S.take (j + 1) := by
  rw [List.take_add_one]
  simp [List.getD, h]

/-- Read of a calm disk: the sector's bytes, the reader's own. -/
def ReadH (w : World) (F : Nat → Prop) (l : List UInt8) (e : Ending) (w' : World) : Prop := ∃ A n c, e = .returned (.tuple #[.slice A n c, .int .i64 0]) ∧ Held w' F A n c l ∧ Below w.heap.size w w'
theorem calm_read_any (g : Nat) (S : List (List UInt8)) (F : Nat → Prop) (j : Nat) (hj : j < S.length) (W w : World) (h : Mine W w F g (calm S)) :
    Calls Try.prog 18 #[.pointer (some ⟨g, 0, none⟩), .int .i64 (j : Int)] w (ReadH w F (S.getD j [])) := by
  have hr := read_meth g (calm S) F (j : Int) w h.1
  rw [calm_read S j hj] at hr
  refine hr.mono ?_
  rintro e w' ⟨A, c, rfl, ho, hb⟩
  exact ⟨A, _, c, rfl, Held.make (e := h.1.lt) ho, hb⟩
theorem rdi_apart {W w : World} {F : Nat → Prop} {g n : Nat} {d : Dk} {A : Option Addr} {l : List Int} (h : Mine W w F g d) (hk : RdI W W.heap.size A n l) : RdI w w.heap.size A n l ∧ (0 < n → ∀ ad, A = some ad → ¬ F ad.block) :=
  ⟨(hk.below h.2.2).more h.2.2.size, fun hn ad e hf => by
    obtain ⟨b, o, e2, hlt, _⟩ := hk.2.2 hn
    rw [e2] at e
    injection e with e
    subst e
    have := h.2.1 b hf
    omega⟩
theorem calm_crash_any (g : Nat) (S : List (List UInt8)) (F : Nat → Prop) (A : Option Addr) (n c : Nat) (ks : List Int) (W w : World) (hn : n ≤ 9223372036854775807) (hk : RdI W W.heap.size A n ks) (h : Mine W w F g (calm S)) :
    Calls Try.prog 17 #[.pointer (some ⟨g, 0, none⟩), .slice A n c] w fun e w' => e = .returned (.tuple #[]) ∧ ∃ F', PD w' F' g (calm S) ∧ Mv F F' w w' := by
  have hr := crash_any g (calm S) F A n c ks w hn (by show 0 ≤ 1000000000; omega) (rdi_apart h hk).1 (rdi_apart h hk).2 h.1
  rw [calm_crash] at hr
  exact hr
theorem calm_sync_any (g : Nat) (S : List (List UInt8)) (F : Nat → Prop) (W w : World) (h : Mine W w F g (calm S)) :
    Calls Try.prog 16 #[.pointer (some ⟨g, 0, none⟩)] w fun e w' => e = .returned (.int .i64 0) ∧ ∃ F', PD w' F' g (calm S) ∧ Mv F F' w w' := by
  have hr := sync_any g (calm S) F w (by show 0 ≤ 1000000000; omega) h.1
  rw [calm_sync] at hr
  exact hr

set_option maxRecDepth 100000 in
set_option maxHeartbeats 8000000 in
theorem diskTwice_walk (A : Option Addr) (m c : Nat) (f : Nat → Ac) (AK : Option Addr) (nk ck : Nat) (lk : List Int) (AG : Option Addr) (ng cg : Nat) (lg : List Int) (W : World) (_hc : m ≤ c) (_hm : c ≤ 9223372036854775807) (hf : Acts3 W W.heap.size A m f)
    (hk : RdI W W.heap.size AK nk lk) (hnk : nk ≤ 9223372036854775807) (hg : RdI W W.heap.size AG ng lg) (hng : ng ≤ 9223372036854775807) :
    Calls Try.prog 8 #[.slice A m c, .slice AK nk ck, .slice AG ng cg] W fun e w' => e = .returned (.bool true) ∧ Below W.heap.size W w' := by
  have Hf := Lib.hid hf
  have HK := Lib.hid hk
  have HG := Lib.hid hg
  clear hf hk hg
  go_enter Try.func8, Try.ntmps8
  go_wp2_with fail
  refine (new_any 4 W (by omega) (by omega)).mono ?_
  rintro e w0 ⟨g, F0, rfl, hp0, hge0, hb0⟩
  have M0 : Hid (Mine W w0 F0 g (Dk.new 4)) := ⟨hp0, hge0, hb0⟩
  clear hp0 hge0 hb0
  go_wp2
  go_loopg [9] m (fun k i wr => ∃ j : Nat, i = .int .i64 j ∧ j + k = m ∧ j ≤ 60 ∧ Hid (∃ F d, Mine W wr F g d ∧ d.safe.length = 4 ∧ d.waits.length ≤ j))
  case atStart => exact ⟨0, rfl, by omega, by omega, ⟨_, _, M0.out, rfl, by simp [Dk.new]⟩⟩
  case round =>
    clear M0
    obtain ⟨j, rfl, hk, hj60, HR⟩ := hrel
    obtain ⟨F, d, hmine, hsl, hwl⟩ := HR.out
    have HM := Lib.hid hmine
    have Hsl := Lib.hid hsl
    have Hwl := Lib.hid hwl
    clear hmine hsl hwl HR
    by_cases hj : j < m ∧ j < 60
    · obtain ⟨hj1, hj2⟩ := hj
      obtain ⟨b, o, rfl, hb, hact⟩ := Hf.out (by omega)
      obtain ⟨_, t0, t1, t2, _, _⟩ := hact j hj1
      obtain ⟨a4, ha4, hmod⟩ := mod4 (f j).at_
      have T0 : Hid (∀ w2, Below W.heap.size W w2 → w2.cell? ⟨b, o + j * 5, none⟩ = some (.int .i64 (f j).kind)) := fun w2 hb2 => (hb2.cell (p := ⟨b, o + j * 5, none⟩) hb).trans t0
      have T1 : Hid (∀ w2, Below W.heap.size W w2 → w2.cell? ⟨b, o + j * 5 + 1, none⟩ = some (.int .i64 (f j).at_)) := fun w2 hb2 => (hb2.cell (p := ⟨b, o + j * 5 + 1, none⟩) hb).trans t1
      have u1 := T1.out wr HM.out.2.2
      have u2 : wr.cell? ⟨b, o + j * 5 + 2, none⟩ = some (.int .u8 ((f j).fill.toNat : Int)) := (HM.out.2.2.cell (p := ⟨b, o + j * 5 + 2, none⟩) hb).trans t2
      clear hact t0 t1 t2
      have hx := u8_lt (f j).fill
      have C1 : Hid (∀ w2 A c, Below wr.heap.size wr.drew w2 → w2.ownsRow wr.heap.size 5 1 (.slice A 32 c) 32 (u8s (rowB (f j).fill 32)) → Calls Try.prog 15 #[.pointer (some ⟨g, 0, none⟩), .int .i64 (a4 : Int), .slice A 32 c] w2 fun e w' => e = .returned (.int .i64 (d.write a4 (rowB (f j).fill 32)).1) ∧ ∃ F', Mine W w' F' g (d.write a4 (rowB (f j).fill 32)).2) := fun w2 A c hb2 ho => by
        have hm2 : Mine W w2 F g d := (HM.out.kp (K := fun _ => False) (Kp.drew _ wr) (fun _ _ h => h) (fun _ h => h.elim)).below hb2
        have hh : Held w2 F A 32 c (rowB (f j).fill 32) := ⟨own_mono ho (Nat.zero_le _), fun k e hf => by have h1 := (ho.lt k e).1; have h2 := HM.out.1.lt k hf; omega⟩
        refine (write_any g d F a4 A 32 c _ w2 (by omega) (by have := Hwl.out; omega) hh.rd hh.ap hm2.1).mono ?_
        rintro e w' ⟨rfl, F', h1, h2⟩
        exact ⟨rfl, F', hm2.step h1 h2⟩
      have T1' : Hid (∀ w2, Below wr.heap.size wr.drew w2 → w2.cell? ⟨b, o + j * 5 + 1, none⟩ = some (.int .i64 (f j).at_)) := fun w2 hb2 => T1.out w2 ((HM.out.kp (K := fun _ => False) (Kp.drew _ wr) (fun _ _ h => h) (fun _ h => h.elim)).below hb2).2.2
      have Hrow := Lib.hid (row_full (f j).fill)
      have hmore := write_more d a4 (rowB (f j).fill 32)
      have hslen := Dk.write_len d a4 (rowB (f j).fill 32)
      have Hmore := Lib.hid hmore
      have Hslen := Lib.hid hslen
      have hj0 : (0 : Int) ≤ (j : Int) := by omega
      have hjm : (j : Int) < (m : Int) := by omega
      generalize rowB (f j).fill 32 = row at *
      generalize (f j).at_ = at_ at *
      generalize (f j).fill = fill at *
      generalize hkd : (f j).kind = kind at *
      have ha40 : (0 : Int) ≤ (a4 : Int) := by omega
      clear hmore hslen HM hkd
      generalize d.write a4 row = dw at *
      go_wp2_with fail
      go_region_law (first | (go_simp; go_at_call 14; (refine (Hrow.out _).mono ?_; rintro e w2 ⟨Ab, cb, rfl, ho, hbl⟩; (have t1' := T1'.out w2 hbl); (have C5 := Lib.hid (C1.out w2 Ab cb hbl ho)); clear ho hbl)) | (go_simp; go_at_call 15; (refine C5.out.mono ?_; rintro e w3 ⟨rfl, F', hm3⟩; (have M2 := Lib.hid hm3); clear hm3)))
      all_goals
        have u0 := T0.out _ M2.out.2.2
        have C7 := Lib.hid (sync_any g dw.2 F' _ (by have := Hmore.out; have := Hwl.out; omega) M2.out.1)
        have hmore2 := sync_more dw.2
        have hslen2 := Dk.sync_len dw.2
        by_cases hkind : kind = 1
        · rw [hkind] at u0
          clear hkind
          go_wp2_with fail
          refine C7.out.mono ?_
          rintro e w4 ⟨rfl, F4, hp4, hm4⟩
          have M4 : Hid (Mine W w4 F4 g dw.2.sync.2) := M2.out.step hp4 hm4
          clear hp4 hm4 C7
          go_wp2
          go_roundg (gk - 1)
          case measure => omega
          case rel => exact ⟨j + 1, by go_num, by omega, by omega, ⟨F4, _, M4.out, by rw [hslen2, Hslen.out]; exact Hsl.out, by have := Hmore.out; have := Hwl.out; omega⟩⟩
        · have q9 : (kind == 1) = false := by simpa using hkind
          clear hkind C7
          go_wp2
          go_roundg (gk - 1)
          case measure => omega
          case rel => exact ⟨j + 1, by go_num, by omega, by omega, ⟨F', _, M2.out, by rw [Hslen.out]; exact Hsl.out, by have := Hmore.out; have := Hwl.out; omega⟩⟩
    · have hkr : RdI wr wr.heap.size AK nk lk := (HK.out.below HM.out.2.2).more HM.out.2.2.size
      have C2 := Lib.hid (crash_any g d F AK nk ck lk wr hnk (by have := Hwl.out; omega) hkr (fun hn ad e hf => by
        obtain ⟨b, o, e2, hlt, _⟩ := HK.out.2.2 hn
        rw [e2] at e
        injection e with e
        subst e
        have := HM.out.2.1 b hf
        omega) HM.out.1)
      rw [crash_calm] at C2
      have hS : (crashS d.safe d.waits lk).length = 4 := by rw [crashS_len]; exact Hsl.out
      generalize crashS d.safe d.waits lk = S at *
      have HS := Lib.hid hS
      clear hkr hS
      by_cases hjm : j < m
      all_goals by_cases hj5 : j < 60
      all_goals first
        | (exfalso; omega)
        | (go_wp2_with fail
           refine C2.out.mono ?_
           rintro e w2 ⟨rfl, F', hp2, hm2⟩
           have M2 : Hid (Mine W w2 F' g (calm S)) := HM.out.step hp2 hm2
           clear hp2 hm2 C2 HM
           go_wp2
           go_loopg [10, 11] 4 (fun k v i wr => ∃ (j : Nat) (vals : List Value), i = .int .i64 j ∧ j + k = 4 ∧ vals.length = j ∧ Hid (∃ F, Mine W wr F g (calm S) ∧ Told wr F v vals (S.take j) ∧ ∀ k, v.ownBlock = some k → W.heap.size ≤ k))
           case atStart => exact ⟨0, [], rfl, rfl, rfl, ⟨F', M2.out, Told.nil _ _, by intro k hk; simp [Value.ownBlock] at hk⟩⟩
           case round =>
             clear M2 Hsl Hwl hjm hj5 hj hj60 hk
             obtain ⟨j, vals, rfl, hk2, hvl, HR⟩ := hrel
             obtain ⟨F2, hm, ht, hge⟩ := HR.out
             have M2 := Lib.hid hm
             have T2 := Lib.hid ht
             have G2 := Lib.hid hge
             clear hm ht hge HR
             by_cases hj : j < 4
             · have CR := Lib.hid (calm_read_any g S F2 j (by rw [HS.out]; exact hj) W _ M2.out)
               obtain ⟨i0, hi0, hz0, hz1, hz2⟩ := info_parts Try.infoBytesT
               have Hi0 := Lib.hid hi0
               have Hz0 := Lib.hid hz0
               have Hz1 := Lib.hid hz1
               have Hz2 := Lib.hid hz2
               clear hi0 hz0 hz1 hz2
               go_wp2_with fail
               refine CR.out.mono ?_
               rintro e w3 ⟨Ar, nr, cr, rfl, hh, hb⟩
               have hal := (Below.refl w3.heap.size w3).alloc (Nat.le_refl _) (.cells #[.slice Ar nr cr] 37)
               have M4 := Lib.hid ((M2.out.below hb).below hal)
               have T4 := Lib.hid ((T2.out.below hb).below hal)
               have H4 := Lib.hid (hh.below hal)
               clear hb hh hal CR
               go_wp2_with (at_builtin; go_loud (refine wpList_append_app _ rfl _ _ 42 rfl 0 37 i0 (.slice none 0 0) 1 24 Try.underlying42 Hi0.out Hz0.out Hz1.out Hz2.out rfl _ vals.length vals rfl T4.out.row (some ⟨w3.heap.size, 0, none⟩) 1 1 [Value.slice Ar nr cr] rfl rfl (by intro h; cases h) (cell_new1 _ _ _) (by intro u hu; simp at hu; subst hu; rfl) (by unfold maxLen; omega) (by omega) (Nat.zero_le _) ?_))
               intro v5 w5 ha
               have T5 : Hid (Told w5 F2 v5 _ _) := Told.push M4.out.1.lt T4.out H4.out (by rw [hvl]; exact ha)
               have M5 : Hid (Mine W w5 F2 g (calm S)) := M4.out.kp (Kp.of_row ha.grow fun _ e => e) (fun k hf e => T4.out.apart k e hf) (fun k e => G2.out k e)
               have G5 : Hid (∀ k, v5.ownBlock = some k → W.heap.size ≤ k) := fun k e => by
                 rcases ha.block with h1 | h1
                 · rw [h1] at e; exact G2.out k e
                 · rw [h1] at e
                   injection e with e
                   have := M4.out.2.2.size
                   omega
               rw [take_more S j (by rw [HS.out]; exact hj)] at T5
               clear ha T4 M4 G2
               go_wp2
               go_roundg (gk - 1)
               case measure => omega
               case rel => exact ⟨j + 1, _, by go_num, by omega, by rw [List.length_append, hvl]; rfl, ⟨F2, M5.out, T5.out, G5.out⟩⟩
             · have hj4 : j = 4 := by omega
               subst hj4
               have T2' := T2.out
               rw [List.take_of_length_le (by rw [HS.out]; omega)] at T2'
               have T3 := Lib.hid T2'
               clear T2' T2 G2
               have C3 := Lib.hid (calm_crash_any g S F2 AG ng cg lg W _ hng HG.out M2.out)
               go_wp2_with fail
               refine C3.out.mono ?_
               rintro e w3 ⟨rfl, F3, hp3, hm3⟩
               have M3 : Hid (Mine W w3 F3 g (calm S)) := M2.out.step hp3 hm3
               have T4 := Lib.hid (T3.out.step hm3)
               clear hp3 hm3 C3 M2 T3
               have C4 := Lib.hid (calm_sync_any g S F3 W _ M3.out)
               go_wp2_with fail
               refine C4.out.mono ?_
               rintro e w4 ⟨rfl, F4, hp4, hm4⟩
               have M4 : Hid (Mine W w4 F4 g (calm S)) := M3.out.step hp4 hm4
               have T5 := Lib.hid (T4.out.step hm4)
               clear hp4 hm4 C4 M3 T4
               have C5 := Lib.hid (calm_crash_any g S F4 AG ng cg lg W _ hng HG.out M4.out)
               go_wp2_with fail
               refine C5.out.mono ?_
               rintro e w5 ⟨rfl, F5, hp5, hm5⟩
               have M5 : Hid (Mine W w5 F5 g (calm S)) := M4.out.step hp5 hm5
               have T6 := Lib.hid (T5.out.step hm5)
               clear hp5 hm5 C5 M4 T5
               obtain ⟨gt, ct, hv, _⟩ := own_some T6.out.row (by omega)
               subst hv
               rw [hvl] at T6
               go_wp2
               go_loopg [15] 4 (fun k i wr => ∃ (j : Nat), i = .int .i64 j ∧ j + k = 4 ∧ Hid (Mine W wr F5 g (calm S) ∧ Told wr F5 (.slice (some ⟨gt, 0, none⟩) 4 ct) vals S))
               case atStart => exact ⟨0, rfl, rfl, ⟨M5.out, T6.out⟩⟩
               case round =>
                 clear M5 T6 hj hk2
                 obtain ⟨j, rfl, hk3, HR⟩ := hrel
                 obtain ⟨hm, ht⟩ := HR.out
                 have M6 := Lib.hid hm
                 have T7 := Lib.hid ht
                 clear hm ht HR
                 by_cases hj : j < 4
                 · have CR := Lib.hid (calm_read_any g S F5 j (by rw [HS.out]; exact hj) W _ M6.out)
                   go_wp2_with fail
                   refine CR.out.mono ?_
                   rintro e w6 ⟨Ar, nr, cr, rfl, hh, hb⟩
                   have M7 := Lib.hid (M6.out.below hb)
                   have T8 := Lib.hid (T7.out.below hb)
                   obtain ⟨A2, n2, c2, he, h2⟩ := T8.out.each j (vals[j]'(by omega)) (List.getElem?_eq_getElem _)
                   have hcell : w6.cell? ⟨gt, j, none⟩ = some (.slice A2 n2 c2) := by
                     have h0 := T8.out.row
                     rw [hvl] at h0
                     rw [← he]
                     exact (h0.cellAt j (by omega)).trans (by simp)
                   have Cs := same_any Ar A2 nr n2 cr c2 _ _ (S.getD j []) (S.getD j []) w6 hh.rd h2.rd
                   rw [beq_self_eq_true] at Cs
                   have Cs := Lib.hid Cs
                   have hj0 : (0 : Int) ≤ (j : Int) := by omega
                   have hj4' : (j : Int) < 4 := by omega
                   clear hh hb h2 he CR M6 T7
                   go_wp2_with fail
                   refine Cs.out.mono ?_
                   rintro e w' ⟨rfl, rfl⟩
                   go_wp2
                   go_roundg (gk - 1)
                   case measure => omega
                   case rel => exact ⟨j + 1, by go_num, by omega, ⟨M7.out, T8.out⟩⟩
                 · clear T7
                   go_wp2_with fail
                   refine (known_any _).mono ?_
                   rintro e w7 ⟨rfl, hb⟩
                   have HF := Lib.hid (M6.out.2.2.trans (hb.mono M6.out.2.2.size))
                   clear hb
                   go_wp2
                   go_ret
                   exact ⟨rfl, HF.out⟩)
namespace diskTwice
set_option maxRecDepth 100000 in
theorem lifted (os : Os) (started : os.Started) (H : Type) (enc : TypeId × Value → H) :
    ReturnsInHanded {} Try.checked os 8 .any (Rows.diskTwiceSpec.pre6 enc Try.prog Try.f8 Rows.diskTwiceRow.domain false) (Rows.diskTwiceSpec.post enc Try.prog Try.f8 false true false false) := by
  refine law_lift started (by kernel_rfl) Try.func8
    (ChangeSpec.witness6 (enc := enc) (C := Try.checked) false ⟨#[], #[.slice none 0 0, .slice none 0 0, .slice none 0 0], []⟩ 8 (by kernel_rfl) (by kernel_rfl) (by kernel_rfl) (by kernel_rfl))
    rfl ?_ (by kernel_rfl) (by kernel_rfl) ?_
  · intro ds h
    match ds, h with
    | [_, _, _], _ => rfl
  intro W base args ds p g
  have hA := g.trod
  have hval := g.val
  rw [Try.params8] at hA hval
  obtain ⟨v0, vs0, d0, ds0, p0, q0, hargs, rfl, rfl, h0, r0⟩ := trodAll_cons hA
  obtain ⟨v1, vs1, d1, ds1, p1, q1, rfl, rfl, rfl, h1, r1⟩ := trodAll_cons r0
  obtain ⟨v2, vs2, d2, ds2, p2, q2, rfl, rfl, rfl, h2, r2⟩ := trodAll_cons r1
  obtain ⟨rfl, rfl, rfl⟩ := trodAll_nil r2
  obtain rfl : args = #[v0, v1, v2] := by cases args; simp_all
  obtain ⟨A0, n0, c0, f0, rfl, hc0, hm0, hr0⟩ := given_acts3 (hval 0 22 v0 rfl rfl) h0
  obtain ⟨A1, n1, c1, l1, rfl, hc1, hm1, hr1⟩ := given_ints (hval 1 32 v1 rfl rfl) h1
  obtain ⟨A2, n2, c2, l2, rfl, hc2, hm2, hr2⟩ := given_ints (hval 2 32 v2 rfl rfl) h2
  exact diskTwice_walk A0 n0 c0 f0 A1 n1 c1 l1 A2 n2 c2 l2 W hc0 hm0 hr0 hr1 (by omega) hr2 (by omega)

theorem over : Rows.diskTwiceRow.holds Try.pinned (OpenSpec.ofChange Rows.diskTwiceSpec) :=
  OpenClaim.holds_of_wide 8 Try.f8 rfl rfl rfl rfl rfl rfl rfl ⟨rfl, rfl, rfl, rfl, rfl⟩ rfl rfl rfl rfl rfl (by kernel_rfl) Try.func8 (by kernel_rfl)
    (of_decide_eq_true (by kernel_rfl)) (by unfold Func.isWrapper; first | (rw [if_pos (by decide +kernel)]; kernel_rfl) | (rw [if_neg (by decide +kernel)]; exact ⟨rfl, rfl⟩))
    (fun os started H enc _ => lifted os started H enc)
end diskTwice

theorem DiskTwice_proved : Rows.DiskTwiceSaid := diskTwice.over
#print axioms DiskTwice_proved
end Go.Proofs.Ytmjffikdaejffaa
