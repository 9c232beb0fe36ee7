/- Layer 13, the program's table: New, Counts, End; what a table that is not there answers. -/
import Derived.Test.YtgippbbbfpkhhaaOnB
import Derived.BigQuiet
import Derived.Deep.QuietTactic
namespace Go.Proofs.Ytgippbbbfpkhhaa
open Go.RowKit Go.Maps

/-- Bytes apart from the table. -/
def RdA (w : World) (F : Nat → Prop) (s : Sl3) (l : List UInt8) : Prop := RdF w (fun k => ¬ F k) s l
section
variable {w w' : World} {F F' G : Nat → Prop} {g n c : Nat} {t : Tb} {A : Option Addr} {es : List Cle} {dn : Bool} {mp : Option Nat} {s : Sl3} {l : List UInt8}
theorem RdA.mv (h : RdA w F s l) (hm : Mv F F' w w') : RdA w' F' s l :=
  ⟨h.1, h.2.1, h.2.2.1, fun hn => by
    obtain ⟨b, o, e, hg, hb, hc⟩ := h.2.2.2 hn
    refine ⟨b, o, e, fun hf => ?_, Nat.lt_of_lt_of_le hb hm.kp.size, fun j hj => cell_kp (p := ⟨b, o + j, none⟩) (hc j hj) hm.kp hg⟩
    rcases hm.new _ hf with h1 | h1
    · exact hg h1
    · omega⟩
theorem RdA.rd (h : RdA w F s l) : Rd w w.heap.size s.1 s.2.1 l := RdF.rd h
theorem PTm.mono (h : PTm w F g t A n c es dn mp) (hf : ∀ k, F k → G k) (hl : ∀ k, G k → k < w.heap.size) : PTm w G g t A n c es dn mp :=
  ⟨⟨h.bk, h.row.mono hf, h.eq, h.len, hf _ h.fg, hl⟩, fun e => by
    obtain ⟨b, L, h1, h2, h3⟩ := h.map e
    exact ⟨b, L, h1, hf _ h2, h3⟩⟩
set_option maxRecDepth 100000 in
theorem cnew_bad (m : Int) (w : World) (h : m < 1 ∨ 64 < m) : Calls Try.prog 11 #[.int .i64 m] w fun e w' => e = .returned (.tuple #[.pointer none, .int .i64 2]) ∧ w = w' := by
  by_cases h1 : m < 1
  · clear h
    go_enter Try.func11, Try.ntmps11
    go_wp2
    refine bodyPost_ret (by simp [results, Try.results11, go_sem]; try rfl) rfl ?_
    exact ⟨rfl, rfl⟩
  · have h2 : m > 64 := by omega
    have h3 : ¬ m ≤ 64 := by omega
    clear h
    go_enter Try.func11, Try.ntmps11
    go_wp2
    refine bodyPost_ret (by simp [results, Try.results11, go_sem]; try rfl) rfl ?_
    exact ⟨rfl, rfl⟩
def NewE (w : World) (m : Nat) (e : Ending) (w' : World) : Prop := ∃ g F, e = .returned (.tuple #[.pointer (some ⟨g, 0, none⟩), .int .i64 0]) ∧ Hid (PT w' F g (Tb.new m) ∧ (∀ k, F k → w.heap.size ≤ k) ∧ Below w.heap.size w w')
set_option maxRecDepth 100000 in
theorem cnew_any (m : Nat) (w : World) (h : 1 ≤ m ∧ m ≤ 64) : Calls Try.prog 11 #[.int .i64 (m : Int)] w (NewE w m) := by
  have h1 : ¬ (m : Int) < 1 := by omega
  have h2 : ¬ (m : Int) > 64 := by omega
  clear h
  go_enter Try.func11, Try.ntmps11
  go_wp2
  have hk := Bk.new w 85 #[.int .i64 (m : Int), .slice none 0 0, .int .u32 0, .int .i32 0, .int .u32 0, .map none, .int .i64 0, .int .i64 0]
  have hb := bel1N w (.cells #[.int .i64 (m : Int), .slice none 0 0, .int .u32 0, .int .i32 0, .int .u32 0, .map none, .int .i64 0, .int .i64 0] 85)
  have hz : (w.alloc (.cells #[.int .i64 (m : Int), .slice none 0 0, .int .u32 0, .int .i32 0, .int .u32 0, .map none, .int .i64 0, .int .i64 0] 85)).heap.size = w.heap.size + 1 := by simp
  generalize w.alloc (.cells #[.int .i64 (m : Int), .slice none 0 0, .int .u32 0, .int .i32 0, .int .u32 0, .map none, .int .i64 0, .int .i64 0] 85) = w2 at *
  refine bodyPost_ret (by simp [results, Try.results11, go_sem]; try rfl) rfl ?_
  exact ⟨w.heap.size, fun k => k = w.heap.size, rfl, Lib.hid ⟨⟨none, 0, 0, [], false, none, ⟨⟨hk, ClRow.nil _ _, rfl, rfl, rfl, fun k e => by omega⟩, fun e => by cases e⟩⟩, fun k e => by omega, hb⟩⟩
set_option maxRecDepth 100000 in
theorem counts_nil (w : World) : Calls Try.prog 24 #[.pointer none] w fun e w' => e = .returned (.tuple #[.int .i64 0, .int .i64 0]) ∧ w = w' := by
  go_enter Try.func24, Try.ntmps24
  go_wp2
  refine bodyPost_ret (by simp [results, Try.results24, go_sem]; try rfl) rfl ?_
  exact ⟨rfl, rfl⟩
set_option maxRecDepth 100000 in
theorem clients_nil (w : World) : Calls Try.prog 26 #[.pointer none] w fun e w' => e = .returned (.slice none 0 0) ∧ w = w' := by
  go_enter Try.func26, Try.ntmps26
  go_wp2
  go_ret
  exact ⟨rfl, rfl⟩
set_option maxRecDepth 100000 in
theorem save_nil (w : World) : Calls Try.prog 21 #[.pointer none] w fun e w' => e = .returned (.slice none 0 0) ∧ w = w' := by
  go_enter Try.func21, Try.ntmps21
  go_wp2
  go_ret
  exact ⟨rfl, rfl⟩
set_option maxRecDepth 100000 in
theorem cend_nil (id num : Int) (v : Value) (w : World) : Calls Try.prog 18 #[.pointer none, .int .u64 id, .int .u64 num, v] w fun e w' => e = .returned (.int .i64 1) ∧ w = w' := by
  go_enter Try.func18, Try.ntmps18
  go_wp2
  go_ret
  exact ⟨rfl, rfl⟩
set_option maxRecDepth 100000 in
theorem counts_any (h : PT w F g t) : Calls Try.prog 24 #[.pointer (some ⟨g, 0, none⟩)] w fun e w' => e = .returned (.tuple #[.int .i64 t.nb, .int .i64 t.na]) ∧ Hid (Below w.heap.size w w') := by
  obtain ⟨A, n, c, es, dn, mp, h⟩ := h
  obtain ⟨_, _, _, _, _, _, c6, c7⟩ := h.cells
  have H6 : Hid (∀ q, Calls Try.prog 48 #[.pointer (some ⟨g, 6, none⟩)] (w.drewN q) fun e w' => e = .returned (.int .i64 t.nb) ∧ w' = w.drewN q) := Lib.hid fun q => o_load g 6 t.nb _ ((h.bk.kp (F := fun _ => False) (Kp.drewN _ w q) (fun h => h)).cell 6)
  have H7 : Hid (∀ q, Calls Try.prog 48 #[.pointer (some ⟨g, 7, none⟩)] (w.drewN q) fun e w' => e = .returned (.int .i64 t.na) ∧ w' = w.drewN q) := Lib.hid fun q => o_load g 7 t.na _ ((h.bk.kp (F := fun _ => False) (Kp.drewN _ w q) (fun h => h)).cell 7)
  clear h
  go_enter Try.func24, Try.ntmps24
  go_wp2_with fail
  go_quiet ((first | (go_at_call 48; exact Calls.quiet_of_same (H6.out _)) | (go_at_call 48; exact Calls.quiet_of_same (H7.out _))))
  go_wp2
  refine bodyPost_ret (by simp [results, Try.results24, go_sem]; try rfl) rfl ?_
  exact ⟨rfl, Lib.hid (bel_drewN (Below.refl _ _) _)⟩
/-- What End answers. -/
def EndE (w : World) (F : Nat → Prop) (g : Nat) (r : Int × Tb) (e : Ending) (w' : World) : Prop := e = .returned (.int .i64 r.1) ∧ Hid (∃ F', PT w' F' g r.2 ∧ Mv F F' w w')
set_option maxRecDepth 100000 in
set_option maxHeartbeats 4000000 in
theorem cend_any (h : PT w F g t) (hok : t.Ok) (id num : Nat) (hid : id < 18446744073709551616) (A0 : Option Addr) (n0 c0 : Nat) (l : List UInt8) (hr : RdA w F (A0, n0, c0) l) (hn : n0 ≤ 1000000) :
    Calls Try.prog 18 #[.pointer (some ⟨g, 0, none⟩), .int .u64 (id : Int), .int .u64 (num : Int), .slice A0 n0 c0] w (EndE w F g (t.ended id num l)) := by
  have hl : l.length = n0 := hr.2.2.1
  by_cases hlong : 200 < l.length
  · have he : t.ended id num l = (3, t) := by unfold Tb.ended; rw [if_pos hlong]
    rw [he]
    have m1 : (n0 : Int) > 200 := by omega
    have HZ : Hid (∃ F', PT w F' g t ∧ Mv F F' w w) := Lib.hid ⟨F, h, Mv.refl _ _⟩
    clear h hok hr hl hlong he
    go_enter Try.func18, Try.ntmps18
    go_wp2
    go_ret
    exact ⟨rfl, HZ⟩
  have m1 : ¬ (n0 : Int) > 200 := by omega
  obtain ⟨A, n, c, es, dn, mp, h⟩ := h
  have hlen := h.len
  have hmost := hok.most
  have hrl := hok.len
  have HFd0 := find_any h hok.sure id hid
  have hnot : ∀ (x : Bool) (w : World), (Op.unary .not (.bool x)).run Try.prog w = .ok (.bool (!x)) w := fun _ _ => rfl
  cases hf : findC id t.row with
  | none =>
    have he : t.ended id num l = (4, t) := by unfold Tb.ended; rw [if_neg hlong, hf]
    rw [he]
    have HFd : Hid (Calls Try.prog 30 #[.pointer (some ⟨g, 0, none⟩), .int .u64 (id : Int)] w fun e w1 => e = .returned (.tuple #[.int .i64 0, .bool false]) ∧ Hid (DoneE w F g t A n c es w1)) := Lib.hid (by
      rw [hf] at HFd0
      exact HFd0)
    clear HFd0 h hok hr hl hlong he hf hlen hmost hrl
    go_enter Try.func18, Try.ntmps18
    go_wp2_with fail
    refine HFd.out.mono ?_
    clear HFd
    rintro e w1 ⟨rfl, HX⟩
    have HZ : Hid (∃ F', PT w1 F' g t ∧ Mv F F' w w1) := Lib.hid (by
      obtain ⟨F1, b1, hp1, hm1, hk1⟩ := HX.out
      exact ⟨F1, hp1.pt, hm1⟩)
    clear HX
    go_wp2
    go_ret
    exact ⟨rfl, HZ⟩
  | some k =>
    obtain ⟨hkl, hkid⟩ := findC_some hf
    have hat := Tb.at_eq t hkl
    have HFd : Hid (Calls Try.prog 30 #[.pointer (some ⟨g, 0, none⟩), .int .u64 (id : Int)] w fun e w1 => e = .returned (.tuple #[.int .i64 (k : Int), .bool true]) ∧ Hid (DoneE w F g t A n c es w1)) := Lib.hid (by
      rw [hf] at HFd0
      exact HFd0)
    have mk0 : ¬ (k : Int) < 0 := by omega
    have mkn : (k : Int) < (n : Int) := by omega
    by_cases hg : t.row[k].num = num ∧ t.row[k].busy = true
    · have he : t.ended id num l = (0, { t with row := useC k ⟨id, num, false, l⟩ t.row }) := by unfold Tb.ended; rw [if_neg hlong, hf]; simp only [hat]; rw [if_pos hg]
      rw [he]
      have HL := Lib.hid (show n ≤ 200 by omega)
      have HH := Lib.hid hr
      have Hl := Lib.hid hl
      have Hkl := Lib.hid hkl
      have Hid2 := Lib.hid hkid
      have Hln := Lib.hid hlen
      have hn2 : n0 ≤ 200 := by omega
      clear HFd0 h hok hr hl hlong he hf hlen hmost hrl hat
      go_enter Try.func18, Try.ntmps18
      go_wp2_with fail
      refine HFd.out.mono ?_
      clear HFd
      rintro e w1 ⟨rfl, HX⟩
      obtain ⟨F1, b1, hp1, hm1, hk1⟩ := HX.out
      obtain ⟨bR, ⟨sA, sN, sC⟩, rfl, q0, q1, q2, q3, hrow, hfo⟩ := hp1.stands k hkl
      have g1 : w1.cell? ⟨g, 1, none⟩ = some (.slice (some ⟨bR, 0, none⟩) n c) := hp1.cells.2.1
      rw [hg.1] at q1
      rw [hg.2] at q2
      have hrd1 := HH.out.mv hm1
      have HCn := Lib.hid (cloneB_any A0 n0 c0 w1.heap.size l w1 (by omega) (Nat.le_refl _) hrd1.rd)
      have HP1 := Lib.hid hp1
      have HM1 := Lib.hid hm1
      clear hp1 hm1 hk1 HX hrow hfo hrd1
      have mm : ((num : Int) != (num : Int)) = false := by simp
      go_wp2_with fail
      refine HCn.out.mono ?_
      clear HCn
      rintro e w2 ⟨v2, rfl, ho2, hb2⟩
      rw [← Hl.out] at ho2
      obtain ⟨A2, c2, rfl, _⟩ := own_shape ho2
      have hp2 : PTm w2 (fun k => F1 k ∨ (Value.slice A2 l.length c2).ownBlock = some k) g t (some ⟨bR, 0, none⟩) n c es true (some b1) := (HP1.out.below hb2).mono (fun k e => .inl e) (by
        rintro k (e | e)
        · exact Nat.lt_of_lt_of_le (HP1.out.lt k e) hb2.size
        · exact (ho2.lt k e).2)
      have HU := Lib.hid (cuse_any hp2 HL.out k (by have := Hln.out; have := Hkl.out; omega) ⟨id, num, false, l⟩ (A2, l.length, c2) (own_mono ho2 (Nat.zero_le _)) (fun k e => .inr e) (by rw [Tb.at_eq t Hkl.out]; exact Hid2.out.symm))
      have HM2 : Hid (Mv F (fun k => F1 k ∨ (Value.slice A2 l.length c2).ownBlock = some k) w w2) := Lib.hid ⟨HM1.out.kp.trans' (Kp.of_below hb2 (F := fun _ => False)) (fun _ h => h.elim), fun k e => by
        rcases e with e | e
        · exact HM1.out.new k e
        · have := (ho2.lt k e).1; have := HM1.out.kp.size; exact .inr (by omega)⟩
      unfold clV s3W at HU
      dsimp only at HU
      clear ho2 hb2 hp2 HP1 HM1 q0 q1 q2 q3 g1 hg
      go_wp2_with fail
      refine HU.out.mono ?_
      clear HU
      rintro e w3 ⟨rfl, HY⟩
      have HZ : Hid (∃ F', PT w3 F' g { t with row := useC k ⟨id, num, false, l⟩ t.row } ∧ Mv F F' w w3) := Lib.hid (by
        obtain ⟨F3, hp3, hm3, _⟩ := HY.out
        exact ⟨F3, hp3, HM2.out.trans hm3⟩)
      clear HY HM2
      go_wp2
      go_ret
      exact ⟨rfl, HZ⟩
    · have he : t.ended id num l = (4, t) := by unfold Tb.ended; rw [if_neg hlong, hf]; simp only [hat]; rw [if_neg hg]
      rw [he]
      clear HFd0 h hok hr hl hlong he hf hlen hmost hrl hat
      go_enter Try.func18, Try.ntmps18
      go_wp2_with fail
      refine HFd.out.mono ?_
      clear HFd
      rintro e w1 ⟨rfl, HX⟩
      obtain ⟨F1, b1, hp1, hm1, hk1⟩ := HX.out
      obtain ⟨bR, ⟨sA, sN, sC⟩, rfl, q0, q1, q2, q3, hrow, hfo⟩ := hp1.stands k hkl
      have g1 : w1.cell? ⟨g, 1, none⟩ = some (.slice (some ⟨bR, 0, none⟩) n c) := hp1.cells.2.1
      have HZ : Hid (∃ F', PT w1 F' g t ∧ Mv F F' w w1) := Lib.hid ⟨F1, hp1.pt, hm1⟩
      clear hp1 hm1 hk1 HX hrow hfo
      generalize t.row[k] = cl at *
      obtain ⟨cid, cnum, cbusy, crep⟩ := cl
      dsimp only at q0 q1 q2 q3 hg
      by_cases hnum : cnum = num
      · have hbz : cbusy = false := by
          cases cbusy with
          | false => rfl
          | true => exact absurd ⟨hnum, rfl⟩ hg
        subst hnum hbz
        have mm : ((cnum : Int) != (cnum : Int)) = false := by simp
        clear hg hkid
        go_wp2
        go_ret
        exact ⟨rfl, HZ⟩
      · have mm : ((cnum : Int) != (num : Int)) = true := by simp; omega
        have mm2 : ¬ (cnum : Int) = (num : Int) := by omega
        clear hg hkid hnum
        go_wp2
        go_ret
        exact ⟨rfl, HZ⟩
end
end Go.Proofs.Ytgippbbbfpkhhaa
