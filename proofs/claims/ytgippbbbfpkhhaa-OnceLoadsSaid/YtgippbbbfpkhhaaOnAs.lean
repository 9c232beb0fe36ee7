/- Layer 13, the document's table: Save. -/
import Derived.Test.YtgippbbbfpkhhaaOnA
import Derived.Test.YtgippbbbfpkhhaaOnS
import Derived.Test.YtgippbbbfpkhhaaRefPut
import Derived.Test.YtgippbbbfpkhhaaTexts
namespace Go.Proofs.Ytgippbbbfpkhhaa
open Go.RowKit Go.Maps

theorem rputU_own (n : Nat) (w : World) (hn : n < 18446744073709551616) : Calls Try.prog 41 #[.int .u64 (n : Int)] w (OwnE w (Lib.uvarint n)) := by
  refine (refPut_any n w hn).mono ?_
  rintro e w' ⟨v, rfl, ho, hb⟩
  obtain ⟨A, c, rfl, _⟩ := own_shape ho
  exact ⟨A, c, rfl, Lib.hid ⟨ho, hb⟩⟩
theorem rputB_own (A : Option Addr) (n c : Nat) (l : List UInt8) (w : World) (hn : n ≤ 1000000) (h : Rd w w.heap.size A n l) : Calls Try.prog 42 #[.slice A n c] w (OwnE w (putB l)) := by
  refine (refPutBytes_any A n c l w (by omega) h).mono ?_
  rintro e w' ⟨v, rfl, ho, hb⟩
  obtain ⟨A, c, rfl, _⟩ := own_shape ho
  exact ⟨A, c, rfl, Lib.hid ⟨ho, hb⟩⟩
/-- Bytes in the making. -/
def ByI (W w : World) (v : Value) (l : List UInt8) : Prop := w.ownsRow W.heap.size 5 1 v l.length (u8s l) ∧ Below W.heap.size W w
section
variable {W w w1 w3 : World} {v v' : Value} {l r : List UInt8}
theorem ByI.below (h : ByI W w v l) (hb : Below w.heap.size w w1) : ByI W w1 v l := ⟨own_below h.1 hb fun g e => (h.1.lt g e).2, below_then h.2 hb⟩
theorem ByI.push (h : ByI W w v l) (ha : App w w3 W.heap.size 5 1 v v' l.length r.length (u8s l) (u8s r)) : ByI W w3 v' (l ++ r) :=
  ⟨by rw [List.length_append, u8s_append]; exact ha.own, ha.below h.2 h.2.size (own_block_ge h.1)⟩
end
/-- Bytes in the making, apart from the blocks from B to C. -/
structure Put (w : World) (B C : Nat) (wx : World) (v : Value) (l : List UInt8) : Prop where
  by_ : ByI w wx v l
  off : ∀ k, v.ownBlock = some k → k < B ∨ C ≤ k
  sz : C ≤ wx.heap.size
/-- Bytes in the blocks from B to C. -/
structure RowB (B C : Nat) (wx : World) (v : Value) (l : List UInt8) : Prop where
  own : wx.ownsRow B 5 1 v l.length (u8s l)
  lt : ∀ k, v.ownBlock = some k → k < C
section
variable {W w wx w3 : World} {B C : Nat} {v v' s : Value} {l r : List UInt8}
theorem Put.below (h : Put W B C w v l) (hb : Below w.heap.size w wx) : Put W B C wx v l := ⟨h.by_.below hb, h.off, Nat.le_trans h.sz hb.size⟩
theorem RowB.below (h : RowB B C w v l) (hb : Below w.heap.size w wx) : RowB B C wx v l := ⟨own_below h.own hb fun g e => (h.own.lt g e).2, h.lt⟩
theorem Put.push (h : Put W B C w v l) (ha : App w w3 W.heap.size 5 1 v v' l.length r.length (u8s l) (u8s r)) : Put W B C w3 v' (l ++ r) :=
  ⟨h.by_.push ha, fun k e => by
    rcases ha.block with h' | h'
    · exact h.off k (h' ▸ e)
    · rw [h'] at e; injection e with e; have := h.sz; exact .inr (by omega), Nat.le_trans h.sz (Kp.of_row (F := fun k => v.ownBlock = some k) ha.grow fun _ e => e).size⟩
theorem RowB.keep (h : RowB B C w s r) (hp : Put W B C w v l) {n m : Nat} {xs ys : List Value} (ha : App w w3 W.heap.size 5 1 v v' n m xs ys) : RowB B C w3 s r :=
  ⟨own_kp h.own (Kp.of_row (F := fun k => v.ownBlock = some k) ha.grow fun _ e => e) fun k e e2 => by
    have h1 := (h.own.lt k e).1
    have h2 := h.lt k e
    rcases hp.off k e2 with h3 | h3 <;> omega, h.lt⟩
end
section
variable {w w' : World} {G : Nat → Prop} {g n c : Nat} {t : Tb} {A : Option Addr} {es : List Cle}
theorem cell_up {w W : World} {p : Addr} {v : Value} (h : w.cell? p = some v) (hb : Below w.heap.size w W) : W.cell? p = some v := (hb.cell (p := p) (World.block_lt_of_cell? w _ h)).trans h
set_option maxRecDepth 100000 in
set_option maxHeartbeats 8000000 in
theorem rsave_any (h : DT w G g t A n c es) (hok : t.Ok) : Calls Try.prog 22 #[.pointer (some ⟨g, 0, none⟩)] w (OwnE w (encT t)) := by
  have hlen := h.len2
  have hmost := hok.most
  have hrl := hok.len
  obtain ⟨M, hM⟩ : ∃ M, M = t.most := ⟨_, rfl⟩
  have HH := Lib.hid h
  obtain ⟨i0, hi0, hz0, hz1, hz2⟩ := info_parts Try.infoU8
  have hc0 : w.cell? ⟨g, 0, none⟩ = some (.int .i64 (M : Int)) := by rw [hM]; exact h.cells.1
  have w1 : IntKind.u64.wrap (M : Int) = (M : Int) := by rw [IntKind.wrap_u64]; omega
  have w2 : IntKind.u64.wrap (n : Int) = (n : Int) := by rw [IntKind.wrap_u64]; omega
  have hn64 : n ≤ 64 := by omega
  have l1 := Lib.uvarint_length64 (x := M) (by omega)
  have l2 := Lib.uvarint_length64 (x := n) (by omega)
  have HU1 := Lib.hid (fun W => rputU_own M W (by omega))
  have HU2 := Lib.hid (fun W => rputU_own n W (by omega))
  have HE : Hid (encT t = Lib.uvarint M ++ Lib.uvarint n ++ bodyT t.row) := by show _ = _; unfold encT; rw [hM, hlen]
  have Hln := Lib.hid hlen
  have HOk := Lib.hid hok.each
  clear h hok hlen hmost hrl hM
  go_enter Try.func22, Try.ntmps22
  go_wp2_with fail
  refine (HU1.out w).mono ?_
  clear HU1
  rintro e wa ⟨Aa, ca, rfl, HXa⟩
  have g1 := (HH.out.below HXa.out.2).cells.2.1
  clear hc0
  go_wp2_with fail
  refine (HU2.out wa).mono ?_
  clear HU2 g1
  rintro e wb ⟨Ab, cb, rfl, HXb⟩
  have HO := own_below HXa.out.1 HXb.out.2 (fun g hg => (HXa.out.1.lt g hg).2)
  have hz : w.heap.size ≤ wb.heap.size := by have h1 := HXa.out.2.size; have h2 := HXb.out.2.size; omega
  go_wp2_with (at_builtin; refine wpList_append_app _ rfl _ _ 33 rfl w.heap.size 5 i0 (.int .u8 0) 1 1 Try.underlying33 hi0 hz0 hz1 hz2 rfl (.slice Aa (Lib.uvarint M).length ca) (Lib.uvarint M).length _ rfl HO Ab (Lib.uvarint n).length cb (u8s (Lib.uvarint n)) rfl (by rw [u8s_len, Nat.mul_one]) (Rd.of_own HXb.out.1).none_zero (Rd.of_own HXb.out.1).cells (u8s_one _) (by unfold maxLen; omega) (by omega) hz ?_)
  intro v4 w4 ha
  have hb4 : Below w.heap.size w w4 := ha.below (below_then HXa.out.2 HXb.out.2) hz (own_block_ge HO)
  obtain ⟨P, hP⟩ : ∃ P, P = Lib.uvarint M ++ Lib.uvarint n := ⟨_, rfl⟩
  have hPl : P.length ≤ 20 := by rw [hP, List.length_append]; omega
  have ho4 : w4.ownsRow w.heap.size 5 1 v4 P.length (u8s P) := by rw [hP, List.length_append, u8s_append]; exact ha.own
  rw [← hP] at HE
  have Hb4 : Hid (ByI w w4 v4 (P ++ bodyT (t.row.take 0))) := Lib.hid ⟨by simpa [bodyT] using ho4, hb4⟩
  clear ha HO hz hb4 hP ho4 HXa HXb l1 l2 w1 w2
  go_wp2_with fail
  go_loopg [3, 5] n (fun gk v i wr => ∃ (vv : Value) (k : Nat), vv = v ∧ i = .int .i64 (k : Int) ∧ k + gk = n ∧ Hid (ByI w wr vv (P ++ bodyT (t.row.take k))))
  case atStart => exact ⟨_, 0, rfl, rfl, by omega, Hb4⟩
  case round =>
    obtain ⟨vv, k, rfl, rfl, hk, Hb⟩ := hrel
    have d1 := (HH.out.below Hb.out.2).cells.2.1
    by_cases hkn : k < n
    · have hkl : k < t.row.length := by rw [← Hln.out]; exact hkn
      obtain ⟨b, ⟨sA, sN, sC⟩, rfl, q0, q1, q2, q3, hmem, _⟩ := HH.out.has k hkl
      have hrd := (HH.out.row.body hmem).rd
      have hclok := HOk.out _ (List.getElem_mem hkl)
      have hnx := bodyT_next hkl
      have hbl := bodyT_len (t.row.take k) (fun c hc => HOk.out c (List.mem_of_mem_take hc))
      have htk : (t.row.take k).length = k := by rw [List.length_take]; omega
      rw [htk] at hbl
      have hPl2 : (P ++ bodyT (t.row.take k)).length ≤ 20 + 240 * k := by rw [List.length_append]; omega
      have Hnx : Hid (P ++ bodyT (t.row.take (k + 1)) = (P ++ bodyT (t.row.take k)) ++ encCl t.row[k]) := by show _ = _; rw [hnx, List.append_assoc]
      have m0 : ¬ (k : Int) < 0 := by omega
      have m1 : (k : Int) < (n : Int) := by omega
      have e1 : IntKind.i64.wrap ((k : Int) + 1) = ((k + 1 : Nat) : Int) := by rw [IntKind.wrap_i64]; omega
      generalize t.row[k] = cl at *
      obtain ⟨P2, hP2⟩ : ∃ P2, P2 = P ++ bodyT (t.row.take k) := ⟨_, rfl⟩
      rw [← hP2] at Hb hPl2 Hnx
      clear hP2
      obtain ⟨id, num, busy, rep⟩ := cl
      have hi : id < 18446744073709551616 := hclok.id
      have hnu : num < 18446744073709551616 := hclok.num.2
      have hrl : rep.length ≤ 200 := hclok.rep
      unfold s3W at q3
      dsimp only at q0 q1 q2 q3 hrd
      have hsn : rep.length = sN := hrd.1
      have HK : Hid (∀ W, Below w.heap.size w W → W.cell? ⟨g, 1, none⟩ = some (.slice (some ⟨b, 0, none⟩) n c) ∧ W.cell? ⟨b, k * 4, none⟩ = some (.int .u64 (id : Int)) ∧ W.cell? ⟨b, k * 4 + 1, none⟩ = some (.int .u64 (num : Int)) ∧ W.cell? ⟨b, k * 4 + 2, none⟩ = some (.bool busy) ∧ W.cell? ⟨b, k * 4 + 3, none⟩ = some (.slice sA sN sC) ∧ Rd W W.heap.size sA sN rep) := Lib.hid fun W hb =>
        ⟨(HH.out.below hb).cells.2.1, cell_up q0 hb, cell_up q1 hb, cell_up q2 hb, cell_up q3 hb, hrd.up hb⟩
      obtain ⟨u1, hu1⟩ : ∃ u1, u1 = Lib.uvarint id := ⟨_, rfl⟩
      obtain ⟨u2, hu2⟩ : ∃ u2, u2 = Lib.uvarint num := ⟨_, rfl⟩
      obtain ⟨u3, hu3⟩ : ∃ u3, u3 = putB rep := ⟨_, rfl⟩
      have lu1 : u1.length ≤ 10 := by rw [hu1]; exact Lib.uvarint_length64 hi
      have lu2 : u2.length ≤ 10 := by rw [hu2]; exact Lib.uvarint_length64 hnu
      have lu3 : u3.length ≤ 1010 := by rw [hu3, putB_len]; have := Lib.uvarint_length64 (x := rep.length) (by omega); omega
      have HV1 : Hid (∀ W, Calls Try.prog 41 #[.int .u64 (id : Int)] W (OwnE W u1)) := Lib.hid fun W => by rw [hu1]; exact rputU_own id W hi
      have HV2 : Hid (∀ W, Calls Try.prog 41 #[.int .u64 (num : Int)] W (OwnE W u2)) := Lib.hid fun W => by rw [hu2]; exact rputU_own num W hnu
      have HV3 : Hid (∀ W, Rd W W.heap.size sA sN rep → Calls Try.prog 42 #[.slice sA sN sC] W (OwnE W u3)) := Lib.hid fun W hr => by rw [hu3]; exact rputB_own sA sN sC rep W (by omega) hr
      have HEn : Hid (encCl ⟨id, num, busy, rep⟩ = u1 ++ u2 ++ (if busy then [1] else 0 :: u3)) := by show _ = _; rw [hu1, hu2, hu3]; rfl
      have Hvb : Hid (∀ j, vv.ownBlock = some j → j < wr.heap.size) := Lib.hid fun j e => (Hb.out.1.lt j e).2
      obtain ⟨-, x0, x1, x2, x3, -⟩ := HK.out wr Hb.out.2
      clear hnx hbl htk hkl q0 q1 q2 q3 hrd hclok hu1 hu2 hu3 hi hnu hmem
      go_wp2_with fail
      refine (HV1.out _).mono ?_
      clear HV1
      rintro x w1 ⟨A1, c1, rfl, HX1⟩
      have Hb1 := Lib.hid (Hb.out.below HX1.out.2)
      obtain ⟨y, y0, y1, y2, y3, -⟩ := HK.out w1 Hb1.out.2
      clear x0 x1 x2 x3 Hb
      clear d1
      go_wp2_with fail
      refine (HV2.out _).mono ?_
      clear HV2
      rintro x w2 ⟨A2, c2, rfl, HX2⟩
      have Hb2 := Lib.hid (Hb1.out.below HX2.out.2)
      obtain ⟨z, z0, z1, z2, z3, hr2⟩ := HK.out w2 Hb2.out.2
      have HV4 := Lib.hid (HV3.out w2 hr2)
      clear y y0 y1 y2 y3 Hb1 hr2 HV3
      go_wp2_with fail
      refine HV4.out.mono ?_
      clear HV4
      rintro x w3 ⟨A3, c3, rfl, HX3⟩
      have Hb3 := Lib.hid (Hb2.out.below HX3.out.2)
      have HP : Hid (Put w wr.heap.size w3.heap.size w3 vv P2) := Lib.hid ⟨Hb3.out, fun j e => .inl (Hvb.out j e), Nat.le_refl _⟩
      have R1 : Hid (RowB wr.heap.size w3.heap.size w3 (.slice A1 u1.length c1) u1) := Lib.hid (by
        have := own_below HX1.out.1 (below_then HX2.out.2 HX3.out.2) fun g e => (HX1.out.1.lt g e).2
        exact ⟨this, fun j e => (this.lt j e).2⟩)
      have R2 : Hid (RowB wr.heap.size w3.heap.size w3 (.slice A2 u2.length c2) u2) := Lib.hid (by
        have := own_base (own_below HX2.out.1 HX3.out.2 fun g e => (HX2.out.1.lt g e).2) HX1.out.2.size
        exact ⟨this, fun j e => (this.lt j e).2⟩)
      have R3 : Hid (RowB wr.heap.size w3.heap.size w3 (.slice A3 u3.length c3) u3) := Lib.hid (by
        have := own_base HX3.out.1 (Nat.le_trans HX1.out.2.size HX2.out.2.size)
        exact ⟨this, fun j e => (this.lt j e).2⟩)
      have hz3 : w.heap.size ≤ w3.heap.size := Hb3.out.2.size
      clear z z0 z1 z2 z3 Hb2 HX1 HX2 HX3 Hvb
      obtain ⟨vA, vC, rfl, _⟩ := own_shape Hb3.out.1
      clear Hb3
      go_wp2_with (at_builtin; refine (?_ : _ ∧ True).1)
      refine ⟨?_, trivial⟩
      refine wpList_append_app _ rfl _ _ 33 rfl w.heap.size 5 i0 (.int .u8 0) 1 1 Try.underlying33 hi0 hz0 hz1 hz2 rfl (.slice vA P2.length vC) P2.length _ rfl HP.out.by_.1 A1 u1.length c1 (u8s u1) rfl (by rw [u8s_len, Nat.mul_one]) (Rd.of_own R1.out.own).none_zero (Rd.of_own R1.out.own).cells (u8s_one _) (by unfold maxLen; omega) (by omega) HP.out.by_.2.size ?_
      intro v4 w4 ha4
      have HP4 := Lib.hid (HP.out.push ha4)
      have R24 := Lib.hid (R2.out.keep HP.out ha4)
      have R34 := Lib.hid (R3.out.keep HP.out ha4)
      clear ha4 HP R1 R2 R3
      obtain ⟨P4, hP4⟩ : ∃ P4, P4 = P2 ++ u1 := ⟨_, rfl⟩
      rw [← hP4] at HP4
      have hl4 : P4.length ≤ 20 + 240 * k + 10 := by rw [hP4, List.length_append]; omega
      have HEn4 : Hid (P2 ++ encCl ⟨id, num, busy, rep⟩ = P4 ++ u2 ++ (if busy then [1] else 0 :: u3)) := by show _ = _; rw [HEn.out, hP4]; simp
      clear hP4 HEn
      obtain ⟨A4, C4, rfl, _⟩ := own_shape HP4.out.by_.1
      go_wp2_with (at_builtin; refine (?_ : _ ∧ True).1)
      refine ⟨?_, trivial⟩
      refine wpList_append_app _ rfl _ _ 33 rfl w.heap.size 5 i0 (.int .u8 0) 1 1 Try.underlying33 hi0 hz0 hz1 hz2 rfl _ P4.length _ rfl HP4.out.by_.1 A2 u2.length c2 (u8s u2) rfl (by rw [u8s_len, Nat.mul_one]) (Rd.of_own R24.out.own).none_zero (Rd.of_own R24.out.own).cells (u8s_one _) (by unfold maxLen; omega) (by omega) HP4.out.by_.2.size ?_
      intro v5 w5 ha5
      have HP5 := Lib.hid (HP4.out.push ha5)
      have R35 := Lib.hid (R34.out.keep HP4.out ha5)
      clear ha5 HP4 R24 R34
      obtain ⟨P5, hP5⟩ : ∃ P5, P5 = P4 ++ u2 := ⟨_, rfl⟩
      rw [← hP5] at HP5
      have hl5 : P5.length ≤ 20 + 240 * k + 20 := by rw [hP5, List.length_append]; omega
      have HEn5 : Hid (P2 ++ encCl ⟨id, num, busy, rep⟩ = P5 ++ (if busy then [1] else 0 :: u3)) := by show _ = _; rw [HEn4.out, hP5]
      clear hP5 HEn4
      obtain ⟨A5, C5, rfl, _⟩ := own_shape HP5.out.by_.1
      obtain ⟨y1, y2, y3, y4, y5, -⟩ := HK.out w5 HP5.out.by_.2
      clear y2 y3 y5
      cases busy with
      | true =>
        have HO5 := fun o => (HP5.out.below (((Below.refl w5.heap.size w5).alloc (Nat.le_refl _) o)))
        go_wp2_with (at_builtin; refine (?_ : _ ∧ True).1)
        refine ⟨?_, trivial⟩
        refine wpList_append_app _ rfl _ _ 33 rfl w.heap.size 5 i0 (.int .u8 0) 1 1 Try.underlying33 hi0 hz0 hz1 hz2 rfl _ P5.length _ rfl (HO5 _).by_.1 (some ⟨w5.heap.size, 0, none⟩) 1 1 (u8s [1]) rfl (by rw [u8s_len]; rfl) (by intro e; cases e) (cell_new1 w5 _ _) (u8s_one _) (by unfold maxLen; omega) (by omega) (HO5 _).by_.2.size ?_
        intro v6 w6 ha6
        have HP6 := Lib.hid (Put.push (r := [1]) (HO5 _) ha6).by_
        clear ha6 HO5 HP5 R35 y1 y4
        go_wp2
        go_roundg (gk - 1)
        case measure => omega
        case rel => exact ⟨_, k + 1, rfl, by go_num, by omega, Lib.hid (by rw [Hnx.out, HEn5.out]; exact HP6.out)⟩
      | false =>
        have HO5 := fun o => (HP5.out.below (((Below.refl w5.heap.size w5).alloc (Nat.le_refl _) o)))
        have HR5 := fun o => (R35.out.below (((Below.refl w5.heap.size w5).alloc (Nat.le_refl _) o)))
        go_wp2_with (at_builtin; refine (?_ : _ ∧ True).1)
        refine ⟨?_, trivial⟩
        refine wpList_append_app _ rfl _ _ 33 rfl w.heap.size 5 i0 (.int .u8 0) 1 1 Try.underlying33 hi0 hz0 hz1 hz2 rfl _ P5.length _ rfl (HO5 _).by_.1 (some ⟨w5.heap.size, 0, none⟩) 1 1 (u8s [0]) rfl (by rw [u8s_len]; rfl) (by intro e; cases e) (cell_new1 w5 _ _) (u8s_one _) (by unfold maxLen; omega) (by omega) (HO5 _).by_.2.size ?_
        intro v6 w6 ha6
        have HP6 := Lib.hid (Put.push (r := [0]) (HO5 _) ha6)
        have R36 := Lib.hid ((HR5 _).keep (HO5 _) ha6)
        clear ha6 HO5 HR5 HP5 R35 y1 y4
        obtain ⟨P6, hP6⟩ : ∃ P6, P6 = P5 ++ [0] := ⟨_, rfl⟩
        rw [← hP6] at HP6
        have hl6 : P6.length ≤ 20 + 240 * k + 21 := by rw [hP6, List.length_append, List.length_singleton]; omega
        have HEn6 : Hid (P2 ++ encCl ⟨id, num, false, rep⟩ = P6 ++ u3) := by show _ = _; rw [HEn5.out, hP6]; simp
        clear hP6 HEn5
        obtain ⟨A6, C6, rfl, _⟩ := own_shape HP6.out.by_.1
        go_wp2_with (at_builtin; refine (?_ : _ ∧ True).1)
        refine ⟨?_, trivial⟩
        refine wpList_append_app _ rfl _ _ 33 rfl w.heap.size 5 i0 (.int .u8 0) 1 1 Try.underlying33 hi0 hz0 hz1 hz2 rfl _ P6.length _ rfl HP6.out.by_.1 A3 u3.length c3 (u8s u3) rfl (by rw [u8s_len, Nat.mul_one]) (Rd.of_own R36.out.own).none_zero (Rd.of_own R36.out.own).cells (u8s_one _) (by unfold maxLen; omega) (by omega) HP6.out.by_.2.size ?_
        intro v7 w7 ha7
        have HP7 := Lib.hid (Put.push (r := u3) HP6.out ha7).by_
        clear ha7 HP6 R36
        go_wp2
        go_roundg (gk - 1)
        case measure => omega
        case rel => exact ⟨_, k + 1, rfl, by go_num, by omega, Lib.hid (by rw [Hnx.out, HEn6.out]; exact HP7.out)⟩
    · have hkn' : k = n := by omega
      subst hkn'
      have htk : t.row.take k = t.row := List.take_of_length_le (by rw [Hln.out]; omega)
      rw [htk, ← HE.out] at Hb
      obtain ⟨Av, cv, rfl, hcv⟩ := own_shape Hb.out.1
      have m1 : ¬ (k : Int) < (k : Int) := by omega
      have HZ : Hid (wr.ownsRow w.heap.size 5 1 (.slice Av (encT t).length cv) (encT t).length (u8s (encT t)) ∧ Below w.heap.size w wr) := Hb
      clear htk hkn Hb HE
      go_wp2
      go_ret
      exact ⟨Av, cv, rfl, HZ⟩
end
end Go.Proofs.Ytgippbbbfpkhhaa
