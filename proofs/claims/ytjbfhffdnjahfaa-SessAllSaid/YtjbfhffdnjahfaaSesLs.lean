/- Layer 7's laws: what happens to a line, all told; how lists begin; a line is made. -/
import Derived.Test.YtjbfhffdnjahfaaSesLq
namespace Go.Proofs.Ytjbfhffdnjahfaa
open Go.RowKit Go.Maps

section
variable {W w : World} {gx gy g : Nat} {ls : List (List UInt8)} {i : Nat}
theorem sd_out_len (s : Sd) : s.out.length ≤ s.queue.length := by
  unfold Sd.out
  refine Nat.le_trans (outQ_len _ _ _ _ _) ?_
  rw [List.length_take]
  omega
theorem hear_tick (s : Sd) (m : Sg) : (s.hear m).2.tick = s.tick := by
  unfold Sd.hear
  repeat' split
  all_goals rfl
theorem hear_win (r : Rc) (m : Sg) : (r.hear m).2.window = r.window := by
  unfold Rc.hear Rc.take Rc.keep Rc.turn
  dsimp only
  repeat' split
  all_goals rfl
theorem LnX.pick (h : LnX W w gx gy g ls i) (hi : i ≤ 1000) (how a : Int) (ack : Bool) :
    Calls Try.prog 30 #[.pointer (some ⟨g, 0, none⟩), .agg #[.int .i64 how, .int .i64 a, .bool ack]] w fun e w' => e = .returned (.bool true) ∧ LnX W w' gx gy g ls (i + 1) := by
  obtain ⟨Fx, Fy, sx, ry, vt, vb, vo, ts, bk, out, hl, hok, h1, h2, h3, h4⟩ := h
  have hlen := hok.len
  have hcm := hok.came
  by_cases hc : how < 0 ∨ 2 < how ∨ (if ack then bk.length else ts.length) = 0 ∨ 200 < (if ack then bk.length else ts.length)
  · have hso := sd_out_len sx
    refine (pick_tick hl how a ack (by omega) (by omega) (by omega) hc).mono ?_
    rintro e w' ⟨rfl, vt', es2, he, l'⟩
    have hel : es2.length = sx.out.length := by rw [← he]; simp
    have hok' := hok.tick
    rw [← he, ← List.map_append] at hok'
    exact ⟨rfl, Fx, Fy, _, _, _, _, _, _, _, _, l', hok', by rw [List.length_append]; omega, by omega, by show sx.tick + 1 ≤ i + 1; omega, h4⟩
  · have hn : ¬ how < 0 ∧ ¬ 2 < how ∧ ¬ (if ack then bk.length else ts.length) = 0 ∧ ¬ 200 < (if ack then bk.length else ts.length) := by
      refine ⟨fun e => hc (.inl e), fun e => hc (.inr (.inl e)), fun e => hc (.inr (.inr (.inl e))), fun e => hc (.inr (.inr (.inr e)))⟩
    obtain ⟨n1, n2, n3, n4⟩ := hn
    have hh : how = 0 ∨ how = 1 ∨ how = 2 := by omega
    have hcl : ∀ (L : List Sge) (k : Nat), ∀ s ∈ (cutL L k L.length).map (·.1), s ∈ L.map (·.1) := fun L k s hs => by
      obtain ⟨e, he, rfl⟩ := List.mem_map.1 hs
      exact List.mem_map.2 ⟨e, List.mem_of_mem_take (List.mem_of_mem_eraseIdx he), rfl⟩
    cases ack with
    | true =>
      have n3 : ¬ bk.length = 0 := n3
      have n4 : ¬ 200 < bk.length := n4
      have hlt := atL_lt a bk.length (by omega)
      obtain ⟨e0, he0⟩ : ∃ e0, bk[atL a bk.length]? = some e0 := ⟨_, List.getElem?_eq_getElem hlt⟩
      have hmem : e0.1 ∈ bk.map (·.1) := List.mem_map.2 ⟨e0, List.mem_of_getElem? he0, rfl⟩
      obtain ⟨z1, z2, z3⟩ := hok.answer (hok.bks _ hmem)
      have hcut := cutL_len bk (atL a bk.length) bk.length
      rcases hh with rfl | rfl | rfl
      · refine (pick_back0 hl a (by omega) (by omega) e0 _ rfl he0 z2 z1).mono ?_
        rintro e w' ⟨rfl, v3, Fx', l'⟩
        exact ⟨rfl, _, _, _, _, _, _, _, _, _, _, l', z3.sub (fun s hs => hs) (hcl bk _), by omega, by omega, by rw [hear_tick]; omega, h4⟩
      · refine (pick_back1 hl a (by omega) (by omega) e0 _ rfl he0 z2 z1).mono ?_
        rintro e w' ⟨rfl, Fx', l'⟩
        exact ⟨rfl, _, _, _, _, _, _, _, _, _, _, l', z3, by omega, by omega, by rw [hear_tick]; omega, h4⟩
      · refine (pick_back2 hl a (by omega) (by omega) e0 _ rfl he0).mono ?_
        rintro e w' ⟨rfl, v3, l'⟩
        exact ⟨rfl, _, _, _, _, _, _, _, _, _, _, l', hok.sub (fun s hs => hs) (hcl bk _), by omega, by omega, by omega, h4⟩
    | false =>
      have n3 : ¬ ts.length = 0 := n3
      have n4 : ¬ 200 < ts.length := n4
      have hlt := atL_lt a ts.length (by omega)
      obtain ⟨e0, he0⟩ : ∃ e0, ts[atL a ts.length]? = some e0 := ⟨_, List.getElem?_eq_getElem hlt⟩
      have hmem : e0.1 ∈ ts.map (·.1) := List.mem_map.2 ⟨e0, List.mem_of_getElem? he0, rfl⟩
      obtain ⟨z1, z2, z3, z4⟩ := hok.piece (hok.tos _ hmem)
      have hcut := cutL_len ts (atL a ts.length) ts.length
      have ht := z4.told
      have hol : out.length + (ry.hear e0.1).1.length ≤ 60 := by
        have h5 := ht.1
        have h6 := z4.rle
        rw [List.length_append, List.length_map] at h5
        omega
      have hrk := hl.tw.pr.ok.len
      have hrl := hok.rle
      have hwin := hear_win ry e0.1
      rcases hh with rfl | rfl | rfl
      · refine (pick_to0 hl a (by omega) (by omega) e0 _ rfl he0 z2 z1 (by omega) (by omega) (by omega)).mono ?_
        rintro e w' ⟨rfl, v3, Fy', vb', vo', out2, o9, l'⟩
        refine ⟨rfl, _, _, _, _, _, _, _, _, _, _, l', ?_, by omega, by rw [List.length_append]; simp; omega, by omega, by rw [hwin]; exact h4⟩
        rw [List.map_append, List.map_append, o9]
        exact z4.sub (hcl ts _) (fun s hs => hs)
      · refine (pick_to1 hl a (by omega) (by omega) e0 _ rfl he0 z2 z1 (by omega) (by omega) (by omega)).mono ?_
        rintro e w' ⟨rfl, Fy', vb', vo', out2, o9, l'⟩
        refine ⟨rfl, _, _, _, _, _, _, _, _, _, _, l', ?_, by omega, by rw [List.length_append]; simp; omega, by omega, by rw [hwin]; exact h4⟩
        rw [List.map_append, List.map_append, o9]
        exact z4
      · refine (pick_to2 hl a (by omega) (by omega) e0 _ rfl he0).mono ?_
        rintro e w' ⟨rfl, v3, l'⟩
        exact ⟨rfl, _, _, _, _, _, _, _, _, _, _, l', hok.sub (hcl ts _) (fun s hs => hs), by omega, by omega, by omega, h4⟩
end
set_option maxRecDepth 100000 in
set_option maxHeartbeats 1000000 in
theorem begins_any (A A' : Option Addr) (n c n' c' B B' : Nat) (fs gs : List (List UInt8)) (w : World) (hn : n ≤ n') (hc' : n' ≤ c') (hn2 : c' ≤ 9223372036854775807) (h : Prt w B A n fs) (h' : Prt w B' A' n' gs) (he : fs = gs.take n) :
    Calls Try.prog 31 #[.slice A n c, .slice A' n' c'] w fun e w' => e = .returned (.bool true) ∧ ∃ q, w.drewN q = w' := by
  have HS := Lib.hid (sameL_any A A' n c n c' B B' fs (gs.take n) w (by omega) (by omega) h (h'.take n hn))
  have hbe : (fs == gs.take n) = true := by rw [he]; simp
  rw [hbe] at HS
  clear h h' hbe he
  go_enter Try.func31, Try.ntmps31
  go_wp2_with fail
  refine HS.out.mono ?_
  rintro e w2 ⟨rfl, q, rfl⟩
  go_wp2
  go_ret
  exact ⟨rfl, q, rfl⟩
theorem one_eq (x : Int) (m : Int) (hm : 1 ≤ m ∧ m ≤ 8) : ∃ n : Nat, wrap64 (1 + wrap64 ((IntKind.u64.wrap x).tmod m)) = (n : Int) ∧ 1 ≤ n ∧ n ≤ 8 ∧ (n : Int) ≤ m ∧ wrap64 ((IntKind.u64.wrap x).tmod m) = (n : Int) - 1 := by
  have h0 : 0 ≤ x % 18446744073709551616 := Int.emod_nonneg _ (by decide)
  have h1 := Int.emod_nonneg (x % 18446744073709551616) (show m ≠ 0 by omega)
  have h2 := Int.emod_lt_of_pos (x % 18446744073709551616) (show 0 < m by omega)
  rw [IntKind.wrap_u64, Int.tmod_eq_emod_of_nonneg h0]
  generalize x % 18446744073709551616 % m = y at *
  refine ⟨(y + 1).toNat, ?_, by omega, by omega, by omega, ?_⟩
  · unfold wrap64; omega
  · unfold wrap64; omega
set_option maxRecDepth 100000 in
set_option maxHeartbeats 4000000 in
theorem start_any (window span : Int) (A : Option Addr) (n c : Nat) (ls : List (List UInt8)) (w : World) (hp : Prt w w.heap.size A n ls) (hl : ls.length ≤ 60) (hb : ∀ b ∈ ls, b.length ≤ 1000) :
    Calls Try.prog 29 #[.int .i64 window, .int .i64 span, .slice A n c] w fun e w' => ∃ gx gy g, e = .returned (.pointer (some ⟨g, 0, none⟩)) ∧ LnX w w' gx gy g ls 0 ∧ Below w.heap.size w w' := by
  obtain ⟨ws, e1, a1, a2, a3, a4⟩ := one_eq window 8 (by decide)
  obtain ⟨sp, f1, b1, b2, b3, b4⟩ := one_eq span 4 (by decide)
  have HN : Hid (∀ w, Calls Try.prog 7 #[.int .u64 5, .int .i64 (ws : Int), .int .i64 (sp : Int)] w fun e w' => ∃ g F, e = .returned (.tuple #[.pointer (some ⟨g, 0, none⟩), .int .i64 0]) ∧ PS w' F g (Sd.fed ws sp []) ∧ (∀ k, F k → w.heap.size ≤ k) ∧ Below w.heap.size w w') := Lib.hid fun w => sNew_any 5 ws sp w (by decide) (by omega) (by omega)
  have HR : Hid (∀ w, Calls Try.prog 22 #[.int .i64 8] w fun e w' => ∃ g F, e = .returned (.tuple #[.pointer (some ⟨g, 0, none⟩), .int .i64 0]) ∧ PR w' F g (Rc.new 8) ∧ (∀ k, F k → w.heap.size ≤ k) ∧ Below w.heap.size w w') := Lib.hid fun w => rNew_any 8 w (by decide)
  have HP := Lib.hid hp
  have Hn := Lib.hid hp.1
  have Hb := Lib.hid hb
  have hl2 := hl
  rw [Hn.out] at hl2
  clear hp hb hl
  go_enter Try.func29, Try.ntmps29
  go_wp2_with fail
  rw [show (1 + ((ws : Int) - 1)) = (ws : Int) by omega, show (1 + ((sp : Int) - 1)) = (sp : Int) by omega]
  refine (HN.out w).mono ?_
  rintro e w1 ⟨gx, Fx, rfl, p1, p2, p3⟩
  have P := Lib.hid (And.intro p1 (And.intro p2 p3))
  clear p1 p2 p3
  go_wp2_with fail
  refine (HR.out w1).mono ?_
  rintro e w2 ⟨gy, Fy, rfl, q1, q2, q3⟩
  have T2 := Lib.hid (tw_new (Below.refl w.heap.size w) P.out.1 P.out.2.1 P.out.2.2 q1 q2 q3)
  clear q1 q2 q3 HN HR P
  go_wp2_with fail
  clear e1 f1 a4 b4
  go_loopg [11] n (fun gk j wr => ∃ k : Nat, j = .int .i64 (k : Int) ∧ k + gk = n ∧ Hid (∃ Fx Fy, Tw w wr Fx Fy gx gy (Sd.fed ws sp (ls.take k)) (Rc.new 8)))
  case atStart => exact ⟨0, rfl, by omega, Lib.hid ⟨_, _, T2.out⟩⟩
  case round =>
    obtain ⟨k, rfl, hkg, HT⟩ := hrel
    by_cases hk : k < n
    · have hkN : (k : Int) < (n : Int) := by omega
      have hkl : k < ls.length := by rw [Hn.out]; exact hk
      obtain ⟨Fx1, Fy1, t1⟩ := HT.out
      obtain ⟨b, o, A1, c1, rfl, hlt, x1, r1⟩ := HP.out.2 k hkl
      have y1 := (t1.below.cell (p := ⟨b, o + k, none⟩) hlt).trans x1
      have hb1 := Hb.out ls[k] (List.getElem_mem hkl)
      have hps := t1.push A1 ls[k].length c1 ls[k] ((r1.below t1.below).more t1.below.size) (by simp [Sd.fed]; omega)
      rw [Sd.fed_push ws sp (ls.take k) ls[k] hb1 (by rw [List.length_take]; omega), ← List.take_succ_eq_append_getElem hkl] at hps
      have HPS := Lib.hid hps
      clear x1 r1 hps hb1 t1
      generalize ls[k].length = lk at *
      go_wp2_with fail
      refine HPS.out.mono ?_
      rintro e w3 ⟨rfl, Fx', t3, _⟩
      have HT3 := Lib.hid t3
      clear t3 HPS HT
      go_wp2
      go_roundg (gk - 1)
      case measure => omega
      case rel => exact ⟨k + 1, by go_num, by omega, Lib.hid ⟨_, _, HT3.out⟩⟩
    · obtain rfl : k = n := by omega
      have htk : ls.take k = ls := List.take_of_length_le (by rw [Hn.out]; exact Nat.le_refl _)
      obtain ⟨Fx1, Fy1, t1⟩ := HT.out
      rw [htk] at t1
      obtain ⟨w4, hw4⟩ : ∃ w4, w4 = wr.alloc (.cells (lnA gx gy (.slice none 0 0) (.slice none 0 0) (.slice none 0 0)) 76) := ⟨_, rfl⟩
      have hb4 : Below wr.heap.size wr w4 := by rw [hw4]; exact (Below.refl _ _).alloc (Nat.le_refl _) _
      have t4 := t1.mvb hb4
      have hX : LnX w w4 gx gy wr.heap.size ls 0 := ⟨Fx1, Fy1, _, _, .slice none 0 0, .slice none 0 0, .slice none 0 0, [], [], [],
        ⟨t4, by rw [hw4]; exact Bk.new wr _ _, t1.below.size, (fun e => by have := t1.lt _ e; omega), SgR.nil _ _ _, SgR.nil _ _ _, ByR.nil _ _ _, (fun g e => by cases e)⟩,
        LnOk.start ws sp ls Hb.out (by rw [Hn.out]; exact hl2), by simp, by simp, by simp [Sd.fed], by simp [Rc.new]⟩
      have HX := Lib.hid hX
      have HB := Lib.hid t4.below
      have HW4 := Lib.hid hw4
      clear t1 hb4 t4 hX hw4 HT htk T2
      go_wp2
      rw [← HW4.out]
      go_ret
      exact ⟨gx, gy, wr.heap.size, rfl, HX.out, HB.out⟩
end Go.Proofs.Ytjbfhffdnjahfaa
