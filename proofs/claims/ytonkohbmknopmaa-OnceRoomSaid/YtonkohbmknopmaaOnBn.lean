/- Layer 13, the program's table: Begin of a client that is not remembered; Begin. -/
import Derived.Test.YtonkohbmknopmaaOnB
namespace Go.Proofs.Ytonkohbmknopmaa
open Go.RowKit Go.Maps

theorem roomy_len {t : Tb} (h : t.Ok) (hr : t.roomy.1 = true) : t.roomy.2.row.length < t.most ∧ t.roomy.2 = { t with row := t.roomy.2.row } ∧ t.roomy.2.row.Sublist t.row := by
  have hl := h.len
  unfold Tb.roomy at hr ⊢
  split
  · exact ⟨by assumption, rfl, List.Sublist.refl _⟩
  · rename_i h1
    rw [if_neg h1] at hr
    split
    · rename_i k hk
      refine ⟨?_, rfl, List.eraseIdx_sublist _ _⟩
      obtain ⟨hk, _⟩ := freeC_some hk
      show (t.row.eraseIdx k).length < _
      rw [List.length_eraseIdx_of_lt hk]
      omega
    · rename_i hk
      rw [hk] at hr
      cases hr
theorem roomy_no {t : Tb} (hr : t.roomy.1 = false) : t.roomy.2 = t := by
  unfold Tb.roomy at hr ⊢
  split
  · rfl
  · rename_i h1
    rw [if_neg h1] at hr
    split
    · rename_i k hk; rw [hk] at hr; cases hr
    · rfl
theorem begin_none {t : Tb} {id num : Nat} (hn : num ≠ 0) (hf : findC id t.row = none) : t.begin id num = if t.roomy.1 then t.fresh id num t.roomy.2.row else ⟨0, [], 130, t⟩ := by
  unfold Tb.begin Tb.roomy
  simp only [if_neg hn, hf]
  by_cases h : t.row.length < t.most
  · rw [if_pos h, if_pos h]; rfl
  · rw [if_neg h, if_neg h]
    cases freeC t.row <;> rfl
section
variable {w w' : World} {F F' G : Nat → Prop} {g n c : Nat} {t : Tb} {A : Option Addr} {es : List Cle} {dn : Bool} {mp : Option Nat}
theorem use_last (l : List Cl) (x y : Cl) : useC l.length y (l ++ [x]) = l ++ [y] := by
  unfold useC
  rw [List.eraseIdx_append_of_length_le (Nat.le_refl _), Nat.sub_self]
  simp
set_option maxRecDepth 100000 in
set_option maxHeartbeats 4000000 in
theorem beginN_any (h : PT w F g t) (hok : t.Ok) (id num : Nat) (hid : id < 18446744073709551616) (hn0 : num ≠ 0) (hf : findC id t.row = none) :
    Calls Try.prog 13 #[.pointer (some ⟨g, 0, none⟩), .int .u64 (id : Int), .int .u64 (num : Int)] w (BegE w F g (t.begin id num)) := by
  obtain ⟨A, n, c, es, dn, mp, h⟩ := h
  have hlen := h.len
  have hmost := hok.most
  have hrl := hok.len
  have m0 : ¬ (num : Int) = 0 := by omega
  have m1 : ((num : Int) == 0) = false := by simp; omega
  have HFd : Hid (Calls Try.prog 30 #[.pointer (some ⟨g, 0, none⟩), .int .u64 (id : Int)] w fun e w1 => e = .returned (.tuple #[.int .i64 0, .bool false]) ∧ Hid (DoneE w F g t A n c es w1)) := Lib.hid (by
    have := find_any h hok.sure id hid
    rw [hf] at this
    exact this)
  have hnot : ∀ (x : Bool) (w : World), (Op.unary .not (.bool x)).run Try.prog w = .ok (.bool (!x)) w := fun _ _ => rfl
  have hb := begin_none hn0 hf
  rw [hb]
  have HRm : Hid (∀ w1 F1 b, PTm w1 F1 g t A n c es true (some b) → Calls Try.prog 31 #[.pointer (some ⟨g, 0, none⟩)] w1 (UsedE w1 F1 g t.roomy.2 (.bool t.roomy.1))) := Lib.hid fun w1 F1 b hp => room_any hp (by omega)
  cases hr : t.roomy.1 with
  | false =>
    rw [hr] at HRm
    rw [roomy_no hr] at HRm
    rw [if_neg (by decide)]
    clear h hok hlen hmost hrl hn0 hf hb hr
    go_enter Try.func13, Try.ntmps13
    go_wp2_with fail
    refine HFd.out.mono ?_
    clear HFd
    rintro e w1 ⟨rfl, HX⟩
    obtain ⟨F1, b1, hp1, hm1, hk1⟩ := HX.out
    have HRm1 := Lib.hid (HRm.out w1 F1 b1 hp1)
    have HM1 := Lib.hid hm1
    clear hp1 hm1 hk1 HX HRm
    go_wp2_with fail
    refine HRm1.out.mono ?_
    rintro e w2 ⟨rfl, HY⟩
    have HZ : Hid (∃ F', PT w2 F' g t ∧ Mv F F' w w2) := Lib.hid (by
      obtain ⟨F2, hp2, hm2⟩ := HY.out
      exact ⟨F2, hp2, HM1.out.trans hm2⟩)
    clear HY HRm1 HM1
    go_wp2
    refine bodyPost_ret (by simp [results, Try.results13, go_sem]; try rfl) rfl ?_
    exact BegE.noRep HZ.out
  | true =>
    rw [hr] at HRm
    rw [if_pos rfl]
    obtain ⟨hl2, he2, hsub⟩ := roomy_len hok hr
    obtain ⟨l2, hl2e⟩ : ∃ l2, l2 = t.roomy.2.row := ⟨_, rfl⟩
    rw [← hl2e] at hl2 he2 ⊢
    rw [he2] at HRm
    obtain ⟨K, hK⟩ : ∃ K, K = l2.length := ⟨_, rfl⟩
    obtain ⟨t3, ht3⟩ : ∃ t3 : Tb, t3 = { t with row := l2 ++ [⟨id, 0, false, []⟩] } := ⟨_, rfl⟩
    have hK3 : K < t3.row.length := by rw [ht3, hK]; simp
    have hKl : t3.row.length ≤ 100 := by rw [ht3]; simp; omega
    have hat3 : t3.row[K] = ⟨id, 0, false, []⟩ := by subst ht3 hK; simp
    have huse : useC K ⟨id, num, true, []⟩ t3.row = l2 ++ [⟨id, num, true, []⟩] := by subst ht3 hK; exact use_last _ _ _
    have hfr : t.fresh id num l2 = ⟨1, [], 0, { t3 with row := useC K ⟨id, num, true, []⟩ t3.row, nb := more1 t3.nb }⟩ := by rw [huse, ht3]; rfl
    rw [hfr]
    have HAd : Hid (∀ w2 F2, PT w2 F2 g { t with row := l2 } → Calls Try.prog 32 #[.pointer (some ⟨g, 0, none⟩), .agg #[.int .u64 (id : Int), .int .u64 0, .bool false, .slice none 0 0]] w2 (UsedE w2 F2 g t3 (.int .i64 (K : Int)))) := Lib.hid fun w2 F2 hp => by
      obtain ⟨A2, n2, c2, es2, dn2, mp2, hp⟩ := hp
      have := add_any hp (by have := hp.len; dsimp only at this; omega) ⟨id, 0, false, []⟩ (none, 0, 0) (World.ownsRow_nil _ _ _ _) (fun k e => by cases e)
      rw [← ht3] at this
      dsimp only at this
      rw [← hK] at this
      exact this
    have HUs : Hid (∀ w4 F4 A4 n4 c4 es4 d4 m4, PTm w4 F4 g t3 A4 n4 c4 es4 d4 m4 → Calls Try.prog 33 #[.pointer (some ⟨g, 0, none⟩), .int .i64 (K : Int), .agg #[.int .u64 (id : Int), .int .u64 (num : Int), .bool true, .slice none 0 0]] w4 (UsedK w4 F4 g { t3 with row := useC K ⟨id, num, true, []⟩ t3.row } (.slice A4 n4 c4))) := Lib.hid fun w4 F4 A4 n4 c4 es4 d4 m4 hp =>
      cuse_any hp (by have := hp.len; omega) K (by have := hp.len; omega) ⟨id, num, true, []⟩ (none, 0, 0) (World.ownsRow_nil _ _ _ _) (fun k e => by cases e) (by rw [Tb.at_eq t3 hK3, hat3])
    have mK : ¬ (K : Int) < 0 := by omega
    have HK3 := Lib.hid hK3
    have HAt : Hid (∀ h : K < t3.row.length, t3.row[K] = ⟨id, 0, false, []⟩) := Lib.hid fun _ => hat3
    have mm : ¬ (0 : Int) > (num : Int) := by omega
    have mm2 : (0 : Int) < (num : Int) := by omega
    have mm3 : ¬ (num : Int) < 0 := by omega
    clear h hok hlen hmost hrl hn0 hf hb hr hl2 he2 hsub hl2e hK ht3 hK3 hKl hat3 huse hfr
    go_enter Try.func13, Try.ntmps13
    go_wp2_with fail
    refine HFd.out.mono ?_
    clear HFd
    rintro e w1 ⟨rfl, HX⟩
    obtain ⟨F1, b1, hp1, hm1, hk1⟩ := HX.out
    have HRm1 := Lib.hid (HRm.out w1 F1 b1 hp1)
    have HM1 := Lib.hid hm1
    clear hp1 hm1 hk1 HX HRm
    go_wp2_with fail
    refine HRm1.out.mono ?_
    rintro e w2 ⟨rfl, HY⟩
    obtain ⟨F2, hp2, hm2⟩ := HY.out
    have HAd2 := Lib.hid (HAd.out w2 F2 hp2)
    have HM2 := Lib.hid (HM1.out.trans hm2)
    clear hp2 hm2 HY HRm1 HM1 HAd
    go_wp2_with fail
    refine HAd2.out.mono ?_
    clear HAd2
    rintro e w3 ⟨rfl, HY⟩
    obtain ⟨F3, ⟨A3, n3, c3, es3, d3, p3, hp3⟩, hm3⟩ := HY.out
    obtain ⟨bR, ⟨sA, sN, sC⟩, rfl, q0, q1, q2, q3, -, -⟩ := hp3.stands K HK3.out
    rw [HAt.out HK3.out] at q0 q1 q2
    unfold s3W at q3
    dsimp only at q0 q1 q2
    have g1 : w3.cell? ⟨g, 1, none⟩ = some (.slice (some ⟨bR, 0, none⟩) n3 c3) := hp3.cells.2.1
    obtain ⟨w4, hw4⟩ : ∃ w4, w4 = w3.alloc (.cells #[.int .u64 (id : Int), .int .u64 0, .bool false, .slice sA sN sC] 64) := ⟨_, rfl⟩
    have hb4 : Below w3.heap.size w3 w4 := by rw [hw4]; exact bel1N _ _
    have hbx : Bk w4 w3.heap.size 64 #[.int .u64 (id : Int), .int .u64 0, .bool false, .slice sA sN sC] := by rw [hw4]; exact Bk.new w3 _ _
    have hbxz : w4.cell? ⟨w3.heap.size, 1, none⟩ = some (.int .u64 0) := hbx.cell 1
    have HU4 := Lib.hid (HUs.out w4 F3 _ n3 c3 es3 d3 p3 (hp3.below hb4))
    have HM4 := Lib.hid ((HM2.out.trans hm3).trans (Mv.of (Kp.of_below hb4)))
    have HW4 := Lib.hid hw4
    have mKn : (K : Int) < (n3 : Int) := by have := hp3.len; have := HK3.out; omega
    obtain ⟨bx, hbxe⟩ : ∃ bx, bx = w3.heap.size := ⟨_, rfl⟩
    rw [← hbxe] at hbxz
    have HXE := Lib.hid hbxe
    clear hp3 hm3 hb4 hbx hw4 HY HM2 HUs hbxe
    go_upto_region 11 with (fail)
    rw [← HW4.out]
    rw [← HXE.out]
    clear q0 q1 q2 q3 g1 HW4 HXE
    go_wp2_with fail
    refine HU4.out.mono ?_
    clear HU4
    rintro e w5 ⟨rfl, HX⟩
    obtain ⟨F5, hp5, hm5, _⟩ := HX.out
    obtain ⟨d6, df, hp6, hm6⟩ := hp5.setNb
    have HAd := Lib.hid (o_add g 6 t3.nb w5 d6 df)
    have HZ : Hid (∃ F', PT (w5.setCell ⟨g, 6, none⟩ (.int .i64 (more1 t3.nb))) F' g { t3 with row := useC K ⟨id, num, true, []⟩ t3.row, nb := more1 t3.nb } ∧ Mv F F' w (w5.setCell ⟨g, 6, none⟩ (.int .i64 (more1 t3.nb)))) := Lib.hid ⟨F5, hp6, (HM4.out.trans hm5).trans hm6⟩
    clear hp5 hm5 hp6 hm6 HX d6 df HM4 hbxz
    go_wp2_with fail
    refine HAd.out.mono ?_
    clear HAd
    rintro e w6 ⟨rfl, hw6⟩
    rw [← hw6] at HZ
    clear hw6
    go_wp2
    refine bodyPost_ret (by simp [results, Try.results13, go_sem]; try rfl) rfl ?_
    exact BegE.noRep HZ.out
theorem cbegin_any (h : PT w F g t) (hok : t.Ok) (id num : Nat) (hid : id < 18446744073709551616) :
    Calls Try.prog 13 #[.pointer (some ⟨g, 0, none⟩), .int .u64 (id : Int), .int .u64 (num : Int)] w (BegE w F g (t.begin id num)) := by
  by_cases h0 : num = 0
  · subst h0
    exact begin0_any h id
  · cases hf : findC id t.row with
    | some k => exact beginK_any h hok id num hid h0 k hf
    | none => exact beginN_any h hok id num hid h0 hf
set_option maxRecDepth 100000 in
theorem cbegin_nil (id num : Int) (w : World) : Calls Try.prog 13 #[.pointer none, .int .u64 id, .int .u64 num] w fun e w' => e = .returned (.tuple #[.int .i64 0, .slice none 0 0, .int .i64 1]) ∧ w = w' := by
  go_enter Try.func13, Try.ntmps13
  go_wp2
  refine bodyPost_ret (by simp [results, Try.results13, go_sem]; try rfl) rfl ?_
  exact ⟨rfl, rfl⟩
end
end Go.Proofs.Ytonkohbmknopmaa
