/- Layer 13: a table's bytes; the program's saveClient. -/
import Derived.Test.YtgippbbbfpkhhaaOnJ
import Derived.Test.YtgippbbbfpkhhaaStoP
namespace Go.Proofs.Ytgippbbbfpkhhaa
open Go.RowKit Go.Maps

def encCl (c : Cl) : List UInt8 := Lib.uvarint c.id ++ Lib.uvarint c.num ++ (if c.busy then [1] else 0 :: putB c.rep)
def bodyT (l : List Cl) : List UInt8 := l.flatMap encCl
def encT (t : Tb) : List UInt8 := Lib.uvarint t.most ++ Lib.uvarint t.row.length ++ bodyT t.row
theorem bodyT_app (a b : List Cl) : bodyT (a ++ b) = bodyT a ++ bodyT b := by simp [bodyT]
theorem bodyT_next {l : List Cl} {k : Nat} (h : k < l.length) : bodyT (l.take (k + 1)) = bodyT (l.take k) ++ encCl l[k] := by
  rw [List.take_succ_eq_append_getElem h, bodyT_app]
  simp [bodyT]
theorem encCl_len (c : Cl) (h : c.Ok) : (encCl c).length ≤ 240 := by
  have e1 := Lib.uvarint_length64 h.id
  have e2 := Lib.uvarint_length64 h.num.2
  have e3 := Lib.uvarint_length64 (x := c.rep.length) (by have := h.rep; omega)
  have e4 := h.rep
  unfold encCl
  cases c.busy with
  | true => simp; omega
  | false => simp [putB_len]; omega
theorem bodyT_len (l : List Cl) (h : ∀ c ∈ l, c.Ok) : (bodyT l).length ≤ 240 * l.length := by
  induction l with
  | nil => simp [bodyT]
  | cons a r ih =>
    have h1 := encCl_len a (h a (List.mem_cons_self ..))
    have h2 := ih fun c hc => h c (List.mem_cons_of_mem _ hc)
    unfold bodyT at h2 ⊢
    rw [List.flatMap_cons, List.length_append, List.length_cons]
    omega
/-- Bytes of the call's own. -/
def OwnE (w : World) (l : List UInt8) (e : Ending) (w' : World) : Prop := ∃ A c, e = .returned (.slice A l.length c) ∧ Hid (w'.ownsRow w.heap.size 5 1 (.slice A l.length c) l.length (u8s l) ∧ Below w.heap.size w w')
theorem putU_own (n : Nat) (w : World) (hn : n < 18446744073709551616) : Calls Try.prog 39 #[.int .u64 (n : Int)] w (OwnE w (Lib.uvarint n)) := by
  refine (binPut_any n w hn).mono ?_
  rintro e w' ⟨v, rfl, ho, hb⟩
  obtain ⟨A, c, rfl, _⟩ := own_shape ho
  exact ⟨A, c, rfl, Lib.hid ⟨ho, hb⟩⟩
theorem putB_own (A : Option Addr) (n c : Nat) (l : List UInt8) (w : World) (hn : n ≤ 1000000) (h : Rd w w.heap.size A n l) : Calls Try.prog 60 #[.slice A n c] w (OwnE w (putB l)) := by
  refine (binPutBytes_any A n c l w (by omega) h).mono ?_
  rintro e w' ⟨v, rfl, ho, hb⟩
  obtain ⟨A, c, rfl, _⟩ := own_shape ho
  exact ⟨A, c, rfl, Lib.hid ⟨ho, hb⟩⟩
set_option maxRecDepth 100000 in
set_option maxHeartbeats 4000000 in
theorem saveC_any (cl : Cl) (s : Sl3) (w : World) (hok : cl.Ok) (hr : Rd w w.heap.size s.1 s.2.1 cl.rep) : Calls Try.prog 40 #[clV cl s] w (OwnE w (encCl cl)) := by
  obtain ⟨id, num, busy, rep⟩ := cl
  obtain ⟨sA, sN, sC⟩ := s
  have hi : id < 18446744073709551616 := hok.id
  have hnu : num < 18446744073709551616 := hok.num.2
  have hrl : rep.length ≤ 200 := hok.rep
  have hsn : rep.length = sN := hr.1
  unfold clV s3W
  dsimp only at hr ⊢
  obtain ⟨W1, hW1⟩ : ∃ W1, W1 = w.alloc (.cells #[.int .u64 (id : Int), .int .u64 (num : Int), .bool busy, .slice sA sN sC] 64) := ⟨_, rfl⟩
  have hb0 : Below w.heap.size w W1 := by rw [hW1]; exact bel1N _ _
  obtain ⟨cb, hcb⟩ : ∃ cb, cb = w.heap.size := ⟨_, rfl⟩
  have hkb : Bk W1 cb 64 #[.int .u64 (id : Int), .int .u64 (num : Int), .bool busy, .slice sA sN sC] := by rw [hW1, hcb]; exact Bk.new w _ _
  have HC : Hid (∀ W, Below W1.heap.size W1 W → W.cell? ⟨cb, 0, none⟩ = some (.int .u64 (id : Int)) ∧ W.cell? ⟨cb, 1, none⟩ = some (.int .u64 (num : Int)) ∧ W.cell? ⟨cb, 2, none⟩ = some (.bool busy) ∧ W.cell? ⟨cb, 3, none⟩ = some (.slice sA sN sC) ∧ Rd W W.heap.size sA sN rep) := Lib.hid fun W hb =>
    ⟨(hkb.below hb hkb.lt).cell 0, (hkb.below hb hkb.lt).cell 1, (hkb.below hb hkb.lt).cell 2, (hkb.below hb hkb.lt).cell 3, hr.up (below_then hb0 hb)⟩
  have c0 : W1.cell? ⟨cb, 0, none⟩ = some (.int .u64 (id : Int)) := hkb.cell 0
  have c1 : W1.cell? ⟨cb, 1, none⟩ = some (.int .u64 (num : Int)) := hkb.cell 1
  obtain ⟨i0, hi0, hz0, hz1, hz2⟩ := info_parts Try.infoU8
  have l1 := Lib.uvarint_length64 hi
  have l2 := Lib.uvarint_length64 hnu
  have HU : Hid (∀ (n : Nat) W, n < 18446744073709551616 → Calls Try.prog 39 #[.int .u64 (n : Int)] W (OwnE W (Lib.uvarint n))) := Lib.hid fun n W h => putU_own n W h
  have HPB : Hid (∀ W, Rd W W.heap.size sA sN rep → Calls Try.prog 60 #[.slice sA sN sC] W (OwnE W (putB rep))) := Lib.hid fun W h => putB_own sA sN sC rep W (by omega) h
  have HW := Lib.hid hW1
  have HB0 := Lib.hid hb0
  have HCB := Lib.hid hcb
  have Hids := Lib.hid (And.intro hi hnu)
  have lpb : (putB rep).length ≤ 1010 := by rw [putB_len]; have := Lib.uvarint_length64 (x := rep.length) (by omega); omega
  obtain ⟨u1, hu1⟩ : ∃ u1, u1 = Lib.uvarint id := ⟨_, rfl⟩
  obtain ⟨u2, hu2⟩ : ∃ u2, u2 = Lib.uvarint num := ⟨_, rfl⟩
  have HU1 : Hid (∀ W, Calls Try.prog 39 #[.int .u64 (id : Int)] W (OwnE W u1)) := Lib.hid fun W => by rw [hu1]; exact putU_own id W hi
  have HU2 : Hid (∀ W, Calls Try.prog 39 #[.int .u64 (num : Int)] W (OwnE W u2)) := Lib.hid fun W => by rw [hu2]; exact putU_own num W hnu
  have HUE : Hid (encCl ⟨id, num, busy, rep⟩ = u1 ++ u2 ++ (if busy then [1] else 0 :: putB rep)) := by show _ = _; rw [hu1, hu2]; rfl
  rw [← hu1] at l1
  rw [← hu2] at l2
  clear hok hr hb0 hkb hW1 hi hnu hu1 hu2 hcb
  go_enter Try.func40, Try.ntmps40
  go_upto_region 1 with (fail)
  rw [← HW.out]
  rw [← HCB.out]
  go_wp2_with fail
  go_region_law (first
    | ((try go_simp); go_at_call 39; (with_reducible refine (HU1.out _).mono ?_); rintro e w2 ⟨A2, c2, rfl, HX2⟩; (have k2 := (HC.out w2 (below_then (by (repeat' (first | assumption | exact Below.refl _ _ | apply Below.drew | exact bel_drewN (Below.refl _ _) _))) HX2.out.2)).2.1))
    | ((try go_simp); go_at_call 39; (with_reducible refine (HU2.out _).mono ?_); rintro e w3 ⟨A3, c3, rfl, HX3⟩)
    | ((have HO := own_below HX2.out.1 HX3.out.2 (fun g hg => (HX2.out.1.lt g hg).2)); (have HZ : W1.heap.size ≤ w3.heap.size := by have h1 := HX2.out.2.size; have h2 := HX3.out.2.size; simp at h1; omega); (refine step_append_app _ rfl _ _ 33 (by rfl) W1.heap.size 5 i0 (.int .u8 0) 1 1 Try.underlying33 hi0 hz0 hz1 hz2 rfl (.slice A2 u1.length c2) u1.length _ (by rfl) HO A3 u2.length c3 (u8s u2) (by rfl) (by rw [u8s_len, Nat.mul_one]) (Rd.of_own HX3.out.1).none_zero (Rd.of_own HX3.out.1).cells (u8s_one _) (by unfold maxLen; omega) (by omega) HZ ?_); intro v4 w4 ha))
  all_goals
    have hlow : Below W1.heap.size W1 w3 := below_then (by (repeat' (first | assumption | exact Below.refl _ _ | apply Below.drew | exact bel_drewN (Below.refl _ _) _)) : Below W1.heap.size W1 _) (below_then HX2.out.2 HX3.out.2)
    have hb4 : Below W1.heap.size W1 w4 := ha.below hlow HZ (own_block_ge (own_mono HO (by simp)))
    have ho4 : w4.ownsRow W1.heap.size 5 1 v4 (u1 ++ u2).length (u8s (u1 ++ u2)) := by have := ha.own; rw [List.length_append, u8s_append]; exact this
    have hP : (u1 ++ u2).length ≤ 20 := by rw [List.length_append]; omega
    have HUE2 := HUE
    obtain ⟨P, hPe⟩ : ∃ P, P = u1 ++ u2 := ⟨_, rfl⟩
    rw [← hPe] at hP ho4 HUE2
    obtain ⟨k0, k1, k3, k4, hrd⟩ := HC.out w4 hb4
    have HHb := Lib.hid hb4
    have HHo := Lib.hid ho4
    clear hlow ha HO HZ HX2 HX3 k0 k1 hb4 ho4 hPe HU1 HU2 HUE c0 c1 k2 l1 l2
    obtain ⟨A4, c4, rfl, _⟩ := own_shape HHo.out
    cases busy with
    | true =>
      have HUE3 : Hid (encCl ⟨id, num, true, rep⟩ = P ++ [1]) := Lib.hid (by rw [HUE2.out]; rfl)
      have HQ := Lib.hid (HU.out 1 w4 (by decide))
      rw [uvarint_one] at HQ
      clear HUE2 k4 hrd HPB HU HC
      go_wp2_with fail
      refine HQ.out.mono ?_
      rintro e w5 ⟨A5, c5, rfl, HX5⟩
      have HO5 := own_below HHo.out HX5.out.2 (fun g hg => (HHo.out.lt g hg).2)
      have hz5 : W1.heap.size ≤ w5.heap.size := by have h1 := HX5.out.2.size; have h2 := HHb.out.size; omega
      go_wp2_with (at_builtin; refine wpList_append_app _ rfl _ _ 33 rfl W1.heap.size 5 i0 (.int .u8 0) 1 1 Try.underlying33 hi0 hz0 hz1 hz2 rfl (.slice A4 P.length c4) P.length _ rfl HO5 A5 1 c5 (u8s [1]) rfl (by rw [u8s_len]; rfl) (Rd.of_own HX5.out.1).none_zero (Rd.of_own HX5.out.1).cells (u8s_one _) (by unfold maxLen; omega) (by omega) hz5 ?_)
      intro v6 w6 ha
      have HE : Hid (∃ A c, v6 = .slice A (encCl ⟨id, num, true, rep⟩).length c ∧ w6.ownsRow w.heap.size 5 1 v6 (encCl ⟨id, num, true, rep⟩).length (u8s (encCl ⟨id, num, true, rep⟩)) ∧ Below w.heap.size w w6) := Lib.hid (by
        have hb6 : Below W1.heap.size W1 w6 := ha.below (below_then HHb.out HX5.out.2) hz5 (own_block_ge HO5)
        have ho6 : w6.ownsRow w.heap.size 5 1 v6 (encCl ⟨id, num, true, rep⟩).length (u8s (encCl ⟨id, num, true, rep⟩)) := by rw [HUE3.out, List.length_append, u8s_append]; exact own_mono ha.own HB0.out.size
        obtain ⟨A6, c6, e6, _⟩ := own_shape ho6
        exact ⟨A6, c6, e6, ho6, below_then HB0.out hb6⟩)
      clear ha HO5 hz5
      go_wp2
      go_ret
      obtain ⟨A6, c6, rfl, h1, h2⟩ := HE.out
      exact ⟨A6, c6, rfl, Lib.hid ⟨h1, h2⟩⟩
    | false =>
      have HUE3 : Hid (encCl ⟨id, num, false, rep⟩ = P ++ [0] ++ putB rep) := Lib.hid (by rw [HUE2.out]; simp)
      have HQ := Lib.hid (HU.out 0 w4 (by decide))
      rw [uvarint_zero] at HQ
      clear HUE2 hrd HU k4
      go_wp2_with fail
      refine HQ.out.mono ?_
      rintro e w5 ⟨A5, c5, rfl, HX5⟩
      have HO5 := own_below HHo.out HX5.out.2 (fun g hg => (HHo.out.lt g hg).2)
      have hz5 : W1.heap.size ≤ w5.heap.size := by have h1 := HX5.out.2.size; have h2 := HHb.out.size; omega
      go_wp2_with (at_builtin; refine wpList_append_app _ rfl _ _ 33 rfl W1.heap.size 5 i0 (.int .u8 0) 1 1 Try.underlying33 hi0 hz0 hz1 hz2 rfl (.slice A4 P.length c4) P.length _ rfl HO5 A5 1 c5 (u8s [0]) rfl (by rw [u8s_len]; rfl) (Rd.of_own HX5.out.1).none_zero (Rd.of_own HX5.out.1).cells (u8s_one _) (by unfold maxLen; omega) (by omega) hz5 ?_)
      intro v6 w6 ha
      have hb6 : Below W1.heap.size W1 w6 := ha.below (below_then HHb.out HX5.out.2) hz5 (own_block_ge HO5)
      have ho6 : w6.ownsRow W1.heap.size 5 1 v6 (P ++ [0]).length (u8s (P ++ [0])) := by rw [List.length_append, u8s_append]; exact ha.own
      have hP2 : (P ++ [0]).length ≤ 21 := by rw [List.length_append]; simp; omega
      obtain ⟨P2, hP2e⟩ : ∃ P2, P2 = P ++ [0] := ⟨_, rfl⟩
      rw [← hP2e] at ho6 hP2 HUE3
      obtain ⟨A6, c6, rfl, _⟩ := own_shape ho6
      obtain ⟨_, _, _, n4, nrd⟩ := HC.out w6 hb6
      have HQ2 := Lib.hid (HPB.out w6 nrd)
      have HHb6 := Lib.hid hb6
      have HHo6 := Lib.hid ho6
      clear ha HO5 hz5 hb6 ho6 hP2e nrd HPB HC k3 HX5 HQ HHo
      go_wp2_with fail
      refine HQ2.out.mono ?_
      rintro e w7 ⟨A7, c7, rfl, HX7⟩
      have HO7 := own_below HHo6.out HX7.out.2 (fun g hg => (HHo6.out.lt g hg).2)
      have hz7 : W1.heap.size ≤ w7.heap.size := by have h1 := HX7.out.2.size; have h2 := HHb6.out.size; omega
      go_wp2_with (at_builtin; refine wpList_append_app _ rfl _ _ 33 rfl W1.heap.size 5 i0 (.int .u8 0) 1 1 Try.underlying33 hi0 hz0 hz1 hz2 rfl (.slice A6 P2.length c6) P2.length _ rfl HO7 A7 (putB rep).length c7 (u8s (putB rep)) rfl (by rw [u8s_len, Nat.mul_one]) (Rd.of_own HX7.out.1).none_zero (Rd.of_own HX7.out.1).cells (u8s_one _) (by unfold maxLen; omega) (by omega) hz7 ?_)
      intro v8 w8 ha
      have HE : Hid (∃ A c, v8 = .slice A (encCl ⟨id, num, false, rep⟩).length c ∧ w8.ownsRow w.heap.size 5 1 v8 (encCl ⟨id, num, false, rep⟩).length (u8s (encCl ⟨id, num, false, rep⟩)) ∧ Below w.heap.size w w8) := Lib.hid (by
        have hb8 : Below W1.heap.size W1 w8 := ha.below (below_then HHb6.out HX7.out.2) hz7 (own_block_ge HO7)
        have ho8 : w8.ownsRow w.heap.size 5 1 v8 (encCl ⟨id, num, false, rep⟩).length (u8s (encCl ⟨id, num, false, rep⟩)) := by rw [HUE3.out, List.length_append, u8s_append]; exact own_mono ha.own HB0.out.size
        obtain ⟨A8, c8, e8, _⟩ := own_shape ho8
        exact ⟨A8, c8, e8, ho8, below_then HB0.out hb8⟩)
      clear ha HO7 hz7
      go_wp2
      go_ret
      obtain ⟨A8, c8, rfl, h1, h2⟩ := HE.out
      exact ⟨A8, c8, rfl, Lib.hid ⟨h1, h2⟩⟩
end Go.Proofs.Ytgippbbbfpkhhaa

/- Layer 13, the program's table: Save. -/
namespace Go.Proofs.Ytgippbbbfpkhhaa
open Go.RowKit Go.Maps

section
variable {w w' : World} {F F' G : Nat → Prop} {g n c : Nat} {t : Tb} {A : Option Addr} {es : List Cle} {dn : Bool} {mp : Option Nat}
set_option maxRecDepth 100000 in
set_option maxHeartbeats 4000000 in
theorem csave_any (h : PT w F g t) (hok : t.Ok) : Calls Try.prog 21 #[.pointer (some ⟨g, 0, none⟩)] w (OwnE w (encT t)) := by
  obtain ⟨A, n, c, es, dn, mp, h⟩ := h
  have hlen := h.len
  have hmost := hok.most
  have hrl := hok.len
  obtain ⟨M, hM⟩ : ∃ M, M = t.most := ⟨_, rfl⟩
  have HC : Hid (∀ W, Below w.heap.size w W → W.cell? ⟨g, 0, none⟩ = some (.int .i64 (M : Int)) ∧ W.cell? ⟨g, 1, none⟩ = some (.slice A n c) ∧ ∀ i (hi : i < t.row.length), ∃ b s, A = some ⟨b, 0, none⟩ ∧ W.cell? ⟨b, i * 4, none⟩ = some (.int .u64 (t.row[i].id : Int)) ∧ W.cell? ⟨b, i * 4 + 1, none⟩ = some (.int .u64 (t.row[i].num : Int)) ∧ W.cell? ⟨b, i * 4 + 2, none⟩ = some (.bool t.row[i].busy) ∧ W.cell? ⟨b, i * 4 + 3, none⟩ = some (s3W s) ∧ ∀ W', Below W.heap.size W W' → Calls Try.prog 40 #[clV t.row[i] s] W' (OwnE W' (encCl t.row[i]))) := Lib.hid fun W hb => by
    have hW := h.below hb
    rw [hM]
    refine ⟨hW.cells.1, hW.cells.2.1, fun i hi => ?_⟩
    obtain ⟨b, s, e, q0, q1, q2, q3, hr, _⟩ := hW.stands i hi
    refine ⟨b, s, e, q0, q1, q2, q3, fun W' hb' => saveC_any _ s W' (hok.each _ (List.getElem_mem hi)) ?_⟩
    exact ((RdF.of_own hr).rd).up hb'
  obtain ⟨i0, hi0, hz0, hz1, hz2⟩ := info_parts Try.infoU8
  have hc0 := (HC.out w (Below.refl _ _)).1
  have w1 : IntKind.u64.wrap (M : Int) = (M : Int) := by rw [IntKind.wrap_u64]; omega
  have w2 : IntKind.u64.wrap (n : Int) = (n : Int) := by rw [IntKind.wrap_u64]; omega
  have hn64 : n ≤ 64 := by omega
  have l1 := Lib.uvarint_length64 (x := M) (by omega)
  have l2 := Lib.uvarint_length64 (x := n) (by omega)
  have HU1 := Lib.hid (fun W => putU_own M W (by omega))
  have HU2 := Lib.hid (fun W => putU_own n W (by omega))
  have HE : Hid (encT t = Lib.uvarint M ++ Lib.uvarint n ++ bodyT t.row) := by show _ = _; unfold encT; rw [hM, hlen]
  have Hln := Lib.hid hlen
  have HOk := Lib.hid hok.each
  clear h hok hlen hmost hrl hM
  go_enter Try.func21, Try.ntmps21
  go_wp2_with fail
  refine (HU1.out w).mono ?_
  clear HU1
  rintro e wa ⟨Aa, ca, rfl, HXa⟩
  have g1 := (HC.out wa HXa.out.2).2.1
  clear hc0
  go_wp2_with fail
  refine (HU2.out wa).mono ?_
  clear HU2 g1
  rintro e wb ⟨Ab, cb, rfl, HXb⟩
  have HO := own_below HXa.out.1 HXb.out.2 (fun g hg => (HXa.out.1.lt g hg).2)
  have hz : w.heap.size ≤ wb.heap.size := by have h1 := HXa.out.2.size; have h2 := HXb.out.2.size; omega
  go_wp2_with (at_builtin; refine wpList_append_app _ rfl _ _ 33 rfl w.heap.size 5 i0 (.int .u8 0) 1 1 Try.underlying33 hi0 hz0 hz1 hz2 rfl (.slice Aa (Lib.uvarint M).length ca) (Lib.uvarint M).length _ rfl HO Ab (Lib.uvarint n).length cb (u8s (Lib.uvarint n)) rfl (by rw [u8s_len, Nat.mul_one]) (Rd.of_own HXb.out.1).none_zero (Rd.of_own HXb.out.1).cells (u8s_one _) (by unfold maxLen; omega) (by omega) hz ?_)
  intro v4 w4 ha
  have hb4 : Below w.heap.size w w4 := ha.below (below_then HXa.out.2 HXb.out.2) hz (own_block_ge HO)
  obtain ⟨P, hP⟩ : ∃ P, P = Lib.uvarint M ++ Lib.uvarint n := ⟨_, rfl⟩
  have hPl : P.length ≤ 20 := by rw [hP, List.length_append]; omega
  have ho4 : w4.ownsRow w.heap.size 5 1 v4 P.length (u8s P) := by rw [hP, List.length_append, u8s_append]; exact ha.own
  rw [← hP] at HE
  have Hb4 := Lib.hid hb4
  have Ho4 : Hid (w4.ownsRow w.heap.size 5 1 v4 (P ++ bodyT (t.row.take 0)).length (u8s (P ++ bodyT (t.row.take 0)))) := Lib.hid (by simpa [bodyT] using ho4)
  have g4 := (HC.out w4 hb4).2.1
  clear ha HO hz hb4 hP ho4 HXa HXb l1 l2 w1 w2
  go_wp2
  go_loopg [3, 28] n (fun gk v i wr => ∃ (vv : Value) (k : Nat), v = vv ∧ i = .int .i64 (k : Int) ∧ k + gk = n ∧ Hid (wr.ownsRow w.heap.size 5 1 vv (P ++ bodyT (t.row.take k)).length (u8s (P ++ bodyT (t.row.take k)))) ∧ Hid (Below w.heap.size w wr))
  case atStart => exact ⟨_, 0, rfl, rfl, by omega, Ho4, Hb4⟩
  case round =>
    obtain ⟨vv, k, rfl, rfl, hk, Ho, Hb⟩ := hrel
    by_cases hkn : k < n
    · obtain ⟨Av, cv, rfl, hcv⟩ := own_shape Ho.out
      have hkl : k < t.row.length := by rw [← Hln.out]; exact hkn
      obtain ⟨b, ⟨sA, sN, sC⟩, rfl, q0, q1, q2, q3, HS⟩ := (HC.out wr Hb.out).2.2 k hkl
      have HS := Lib.hid HS
      have hnx := bodyT_next hkl
      have hel := encCl_len t.row[k] (HOk.out _ (List.getElem_mem _))
      have hbl := bodyT_len (t.row.take k) (fun c hc => HOk.out c (List.mem_of_mem_take hc))
      have htk : (t.row.take k).length = k := by rw [List.length_take]; omega
      rw [htk] at hbl
      have hPl2 : (P ++ bodyT (t.row.take k)).length ≤ 20 + 240 * k := by rw [List.length_append]; omega
      have Hnx : Hid (P ++ bodyT (t.row.take (k + 1)) = (P ++ bodyT (t.row.take k)) ++ encCl t.row[k]) := by show _ = _; rw [hnx, List.append_assoc]
      have m0 : ¬ (k : Int) < 0 := by omega
      have m1 : (k : Int) < (n : Int) := by omega
      have e1 : IntKind.i64.wrap ((k : Int) + 1) = ((k + 1 : Nat) : Int) := by rw [IntKind.wrap_i64]; omega
      generalize t.row[k] = cl at *
      generalize P ++ bodyT (t.row.take k) = P2 at *
      generalize encCl cl = ec at *
      obtain ⟨id, num, busy, rep⟩ := cl
      unfold clV s3W at HS
      unfold s3W at q3
      dsimp only at q0 q1 q2 q3 HS
      clear hnx hbl htk hkl
      go_wp2_with fail
      refine (HS.out _ (bel1N _ _)).mono ?_
      rintro x w3 ⟨A3, c3, rfl, HX3⟩
      have hb13 : Below wr.heap.size wr w3 := below_then (bel1N _ _) HX3.out.2
      have ho3 := own_below Ho.out hb13 (fun g hg => (Ho.out.lt g hg).2)
      have hwb := (below_then Hb.out hb13).size
      have Hb3 := Lib.hid (below_then Hb.out hb13)
      have hr3 := Rd.of_own HX3.out.1
      clear hb13
      go_wp2_with (at_builtin; refine wpList_append_app _ rfl _ _ 33 rfl w.heap.size 5 i0 (.int .u8 0) 1 1 Try.underlying33 hi0 hz0 hz1 hz2 rfl (.slice Av P2.length cv) P2.length _ rfl ho3 A3 ec.length c3 (u8s ec) rfl (by rw [u8s_len, Nat.mul_one]) hr3.none_zero hr3.cells (u8s_one _) (by unfold maxLen; omega) (by omega) hwb ?_)
      intro v4 w4 ha
      have hb4 := ha.below (B := w.heap.size) Hb3.out hwb (own_block_ge ho3)
      have Hb4 := Lib.hid hb4
      have Ho4 := Lib.hid ha.own
      clear ha ho3 hb4 hr3 q0 q1 q2 q3
      go_wp2
      go_roundg (gk - 1)
      case measure => omega
      case rel => exact ⟨_, k + 1, rfl, by go_num, by omega, Lib.hid (by rw [Hnx.out, List.length_append, u8s_append]; exact Ho4.out), Hb4⟩
    · have hkn' : k = n := by omega
      subst hkn'
      have htk : t.row.take k = t.row := List.take_of_length_le (by rw [Hln.out]; omega)
      rw [htk, ← HE.out] at Ho
      obtain ⟨Av, cv, rfl, hcv⟩ := own_shape Ho.out
      have m1 : ¬ (k : Int) < (k : Int) := by omega
      have HZ : Hid (wr.ownsRow w.heap.size 5 1 (.slice Av (encT t).length cv) (encT t).length (u8s (encT t)) ∧ Below w.heap.size w wr) := Lib.hid ⟨Ho.out, Hb.out⟩
      clear htk hkn Ho Hb HE
      go_wp2
      go_ret
      exact ⟨Av, cv, rfl, HZ⟩
end
end Go.Proofs.Ytgippbbbfpkhhaa
