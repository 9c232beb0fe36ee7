/- Layer 13, the program's table: Save. -/
import Derived.Test.YtgippbbbfpkhhaaOnS
namespace Go.Proofs.Ytgippbbbfpkhhaa
open Go.RowKit Go.Maps

section
variable {w w' : World} {F F' G : Nat → Prop} {g n c : Nat} {t : Tb} {A : Option Addr} {es : List Cle} {dn : Bool} {mp : Option Nat}
set_option maxRecDepth 100000 in
set_option maxHeartbeats 4000000 in
theorem csave_any (h : PT w F g t) (hok : t.Ok) : Calls Try.prog 21 #[.pointer (some ⟨g, 0, none⟩)] w (OwnE w (encT t)) := by
  obtain ⟨A, n, c, es, dn, mp, h⟩ := h
  have hlen := h.len
  have hmost := hok.most
  have hrl := hok.len
  obtain ⟨M, hM⟩ : ∃ M, M = t.most := ⟨_, rfl⟩
  have HC : Hid (∀ W, Below w.heap.size w W → W.cell? ⟨g, 0, none⟩ = some (.int .i64 (M : Int)) ∧ W.cell? ⟨g, 1, none⟩ = some (.slice A n c) ∧ ∀ i (hi : i < t.row.length), ∃ b s, A = some ⟨b, 0, none⟩ ∧ W.cell? ⟨b, i * 4, none⟩ = some (.int .u64 (t.row[i].id : Int)) ∧ W.cell? ⟨b, i * 4 + 1, none⟩ = some (.int .u64 (t.row[i].num : Int)) ∧ W.cell? ⟨b, i * 4 + 2, none⟩ = some (.bool t.row[i].busy) ∧ W.cell? ⟨b, i * 4 + 3, none⟩ = some (s3W s) ∧ ∀ W', Below W.heap.size W W' → Calls Try.prog 40 #[clV t.row[i] s] W' (OwnE W' (encCl t.row[i]))) := Lib.hid fun W hb => by
    have hW := h.below hb
    rw [hM]
    refine ⟨hW.cells.1, hW.cells.2.1, fun i hi => ?_⟩
    obtain ⟨b, s, e, q0, q1, q2, q3, hr, _⟩ := hW.stands i hi
    refine ⟨b, s, e, q0, q1, q2, q3, fun W' hb' => saveC_any _ s W' (hok.each _ (List.getElem_mem hi)) ?_⟩
    exact ((RdF.of_own hr).rd).up hb'
  obtain ⟨i0, hi0, hz0, hz1, hz2⟩ := info_parts Try.infoU8
  have hc0 := (HC.out w (Below.refl _ _)).1
  have w1 : IntKind.u64.wrap (M : Int) = (M : Int) := by rw [IntKind.wrap_u64]; omega
  have w2 : IntKind.u64.wrap (n : Int) = (n : Int) := by rw [IntKind.wrap_u64]; omega
  have hn64 : n ≤ 64 := by omega
  have l1 := Lib.uvarint_length64 (x := M) (by omega)
  have l2 := Lib.uvarint_length64 (x := n) (by omega)
  have HU1 := Lib.hid (fun W => putU_own M W (by omega))
  have HU2 := Lib.hid (fun W => putU_own n W (by omega))
  have HE : Hid (encT t = Lib.uvarint M ++ Lib.uvarint n ++ bodyT t.row) := by show _ = _; unfold encT; rw [hM, hlen]
  have Hln := Lib.hid hlen
  have HOk := Lib.hid hok.each
  clear h hok hlen hmost hrl hM
  go_enter Try.func21, Try.ntmps21
  go_wp2_with fail
  refine (HU1.out w).mono ?_
  clear HU1
  rintro e wa ⟨Aa, ca, rfl, HXa⟩
  have g1 := (HC.out wa HXa.out.2).2.1
  clear hc0
  go_wp2_with fail
  refine (HU2.out wa).mono ?_
  clear HU2 g1
  rintro e wb ⟨Ab, cb, rfl, HXb⟩
  have HO := own_below HXa.out.1 HXb.out.2 (fun g hg => (HXa.out.1.lt g hg).2)
  have hz : w.heap.size ≤ wb.heap.size := by have h1 := HXa.out.2.size; have h2 := HXb.out.2.size; omega
  go_wp2_with (at_builtin; refine wpList_append_app _ rfl _ _ 33 rfl w.heap.size 5 i0 (.int .u8 0) 1 1 Try.underlying33 hi0 hz0 hz1 hz2 rfl (.slice Aa (Lib.uvarint M).length ca) (Lib.uvarint M).length _ rfl HO Ab (Lib.uvarint n).length cb (u8s (Lib.uvarint n)) rfl (by rw [u8s_len, Nat.mul_one]) (Rd.of_own HXb.out.1).none_zero (Rd.of_own HXb.out.1).cells (u8s_one _) (by unfold maxLen; omega) (by omega) hz ?_)
  intro v4 w4 ha
  have hb4 : Below w.heap.size w w4 := ha.below (below_then HXa.out.2 HXb.out.2) hz (own_block_ge HO)
  obtain ⟨P, hP⟩ : ∃ P, P = Lib.uvarint M ++ Lib.uvarint n := ⟨_, rfl⟩
  have hPl : P.length ≤ 20 := by rw [hP, List.length_append]; omega
  have ho4 : w4.ownsRow w.heap.size 5 1 v4 P.length (u8s P) := by rw [hP, List.length_append, u8s_append]; exact ha.own
  rw [← hP] at HE
  have Hb4 := Lib.hid hb4
  have Ho4 : Hid (w4.ownsRow w.heap.size 5 1 v4 (P ++ bodyT (t.row.take 0)).length (u8s (P ++ bodyT (t.row.take 0)))) := Lib.hid (by simpa [bodyT] using ho4)
  have g4 := (HC.out w4 hb4).2.1
  clear ha HO hz hb4 hP ho4 HXa HXb l1 l2 w1 w2
  go_wp2
  go_loopg [3, 28] n (fun gk v i wr => ∃ (vv : Value) (k : Nat), v = vv ∧ i = .int .i64 (k : Int) ∧ k + gk = n ∧ Hid (wr.ownsRow w.heap.size 5 1 vv (P ++ bodyT (t.row.take k)).length (u8s (P ++ bodyT (t.row.take k)))) ∧ Hid (Below w.heap.size w wr))
  case atStart => exact ⟨_, 0, rfl, rfl, by omega, Ho4, Hb4⟩
  case round =>
    obtain ⟨vv, k, rfl, rfl, hk, Ho, Hb⟩ := hrel
    by_cases hkn : k < n
    · obtain ⟨Av, cv, rfl, hcv⟩ := own_shape Ho.out
      have hkl : k < t.row.length := by rw [← Hln.out]; exact hkn
      obtain ⟨b, ⟨sA, sN, sC⟩, rfl, q0, q1, q2, q3, HS⟩ := (HC.out wr Hb.out).2.2 k hkl
      have HS := Lib.hid HS
      have hnx := bodyT_next hkl
      have hel := encCl_len t.row[k] (HOk.out _ (List.getElem_mem _))
      have hbl := bodyT_len (t.row.take k) (fun c hc => HOk.out c (List.mem_of_mem_take hc))
      have htk : (t.row.take k).length = k := by rw [List.length_take]; omega
      rw [htk] at hbl
      have hPl2 : (P ++ bodyT (t.row.take k)).length ≤ 20 + 240 * k := by rw [List.length_append]; omega
      have Hnx : Hid (P ++ bodyT (t.row.take (k + 1)) = (P ++ bodyT (t.row.take k)) ++ encCl t.row[k]) := by show _ = _; rw [hnx, List.append_assoc]
      have m0 : ¬ (k : Int) < 0 := by omega
      have m1 : (k : Int) < (n : Int) := by omega
      have e1 : IntKind.i64.wrap ((k : Int) + 1) = ((k + 1 : Nat) : Int) := by rw [IntKind.wrap_i64]; omega
      generalize t.row[k] = cl at *
      generalize P ++ bodyT (t.row.take k) = P2 at *
      generalize encCl cl = ec at *
      obtain ⟨id, num, busy, rep⟩ := cl
      unfold clV s3W at HS
      unfold s3W at q3
      dsimp only at q0 q1 q2 q3 HS
      clear hnx hbl htk hkl
      go_wp2_with fail
      refine (HS.out _ (bel1N _ _)).mono ?_
      rintro x w3 ⟨A3, c3, rfl, HX3⟩
      have hb13 : Below wr.heap.size wr w3 := below_then (bel1N _ _) HX3.out.2
      have ho3 := own_below Ho.out hb13 (fun g hg => (Ho.out.lt g hg).2)
      have hwb := (below_then Hb.out hb13).size
      have Hb3 := Lib.hid (below_then Hb.out hb13)
      have hr3 := Rd.of_own HX3.out.1
      clear hb13
      go_wp2_with (at_builtin; refine wpList_append_app _ rfl _ _ 33 rfl w.heap.size 5 i0 (.int .u8 0) 1 1 Try.underlying33 hi0 hz0 hz1 hz2 rfl (.slice Av P2.length cv) P2.length _ rfl ho3 A3 ec.length c3 (u8s ec) rfl (by rw [u8s_len, Nat.mul_one]) hr3.none_zero hr3.cells (u8s_one _) (by unfold maxLen; omega) (by omega) hwb ?_)
      intro v4 w4 ha
      have hb4 := ha.below (B := w.heap.size) Hb3.out hwb (own_block_ge ho3)
      have Hb4 := Lib.hid hb4
      have Ho4 := Lib.hid ha.own
      clear ha ho3 hb4 hr3 q0 q1 q2 q3
      go_wp2
      go_roundg (gk - 1)
      case measure => omega
      case rel => exact ⟨_, k + 1, rfl, by go_num, by omega, Lib.hid (by rw [Hnx.out, List.length_append, u8s_append]; exact Ho4.out), Hb4⟩
    · have hkn' : k = n := by omega
      subst hkn'
      have htk : t.row.take k = t.row := List.take_of_length_le (by rw [Hln.out]; omega)
      rw [htk, ← HE.out] at Ho
      obtain ⟨Av, cv, rfl, hcv⟩ := own_shape Ho.out
      have m1 : ¬ (k : Int) < (k : Int) := by omega
      have HZ : Hid (wr.ownsRow w.heap.size 5 1 (.slice Av (encT t).length cv) (encT t).length (u8s (encT t)) ∧ Below w.heap.size w wr) := Lib.hid ⟨Ho.out, Hb.out⟩
      clear htk hkn Ho Hb HE
      go_wp2
      go_ret
      exact ⟨Av, cv, rfl, HZ⟩
end
end Go.Proofs.Ytgippbbbfpkhhaa
