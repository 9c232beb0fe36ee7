/- WalOwn: what comes out is its owner's; what is handed in may be written over; a log that is not there answers so. Of every list of lists: no condition. -/
import Derived.Test.YtpfccbojllabjaaM1WRun4
namespace Go.Proofs.Ytpfccbojllabjaa
open Go.ChangeShapes Go.WideShapes Go.ChangeAt Go.RowKit

/-- The rows' elements: what was lent, without and with the room behind it; what was given. -/
def Rows3 (W : World) (valsR vals2 valsW : List Value) (ls2 rs : List (List UInt8)) : Prop :=
  valsR.length = rs.length ∧ vals2.length = rs.length ∧ valsW.length = rs.length ∧ ls2.length = rs.length ∧
  ∀ i (h : i < rs.length), ∃ g n cap, valsR[i]? = some (.slice (some ⟨g, 0, none⟩) n cap) ∧ vals2[i]? = some (.slice (some ⟨g, 0, none⟩) (n + 2) cap) ∧ ls2.getD i [] = rs[i] ++ [91, 92] ∧ rs[i].length = n ∧ n ≤ 1024 ∧
    ∃ A m c, valsW[i]? = some (.slice A m c) ∧ m ≤ c ∧ c ≤ 9223372036854775807 ∧ Rd W W.heap.size A m rs[i]
theorem Rows3.push {W : World} {valsR vals2 valsW : List Value} {ls2 rs : List (List UInt8)} (h : Rows3 W valsR vals2 valsW ls2 rs) {g n cap : Nat} {l : List UInt8} {A : Option Addr} {m c : Nat} (h1 : l.length = n) (h2 : n ≤ 1024) (h3 : m ≤ c) (h4 : c ≤ 9223372036854775807) (h5 : Rd W W.heap.size A m l) :
    Rows3 W (valsR ++ [.slice (some ⟨g, 0, none⟩) n cap]) (vals2 ++ [.slice (some ⟨g, 0, none⟩) (n + 2) cap]) (valsW ++ [.slice A m c]) (ls2 ++ [l ++ [91, 92]]) (rs ++ [l]) := by
  obtain ⟨q1, q2, q3, q4, q5⟩ := h
  refine ⟨by simp [q1], by simp [q2], by simp [q3], by simp [q4], fun i hi => ?_⟩
  by_cases hc : i < rs.length
  · obtain ⟨g', n', cap', k1, k2, k3, k4, k5, A', m', c', k6, k7, k8, k9⟩ := q5 i hc
    refine ⟨g', n', cap', ?_, ?_, ?_, ?_, k5, A', m', c', ?_, k7, k8, ?_⟩
    · rw [List.getElem?_append_left (by omega)]; exact k1
    · rw [List.getElem?_append_left (by omega)]; exact k2
    · rw [List.getElem_append_left hc, ← k3]; simp [List.getD, List.getElem?_append_left (show i < ls2.length by omega)]
    · rw [List.getElem_append_left hc]; exact k4
    · rw [List.getElem?_append_left (by omega)]; exact k6
    · rw [List.getElem_append_left hc]; exact k9
  · have hl : i = rs.length := by simp at hi; omega
    subst hl
    refine ⟨g, n, cap, ?_, ?_, ?_, ?_, h2, A, m, c, ?_, h3, h4, ?_⟩
    · rw [← q1, List.getElem?_append_right (Nat.le_refl _)]; simp
    · rw [← q2, List.getElem?_append_right (Nat.le_refl _)]; simp
    · rw [List.getElem_append_right (Nat.le_refl _)]; simp [List.getD, ← q4]
    · rw [List.getElem_append_right (Nat.le_refl _)]; simpa using h1
    · rw [← q3, List.getElem?_append_right (Nat.le_refl _)]; simp
    · rw [List.getElem_append_right (Nat.le_refl _)]; simpa using h5
/-- The row of what was given reads. -/
theorem Rows3.parts {W w : World} {valsR vals2 valsW : List Value} {ls2 rs : List (List UInt8)} {A : Option Addr} {n c : Nat} (h : Rows3 W valsR vals2 valsW ls2 rs) (hb : Below W.heap.size W w) (ho : w.ownsRow W.heap.size 40 1 (.slice A n c) valsW.length valsW) (hn : n = rs.length) : Parts w w.heap.size A n rs := by
  refine ⟨hn.symm, fun i hi => ?_⟩
  obtain ⟨g', n', cap', k1, k2, k3, k4, k5, A', m', c', q1, q2, q3, q4⟩ := h.2.2.2.2 i hi
  rcases ho.2 with ⟨_, h0⟩ | ⟨g, cap, cur, hv, _, hh, _⟩
  · have := h.2.2.1; omega
  · have hA : A = some ⟨g, 0, none⟩ := by injection hv
    subst hA
    have hc := ho.cells (g := g) rfl i _ q1
    rw [Addr.add_lit] at hc
    exact ⟨g, 0, A', m', c', rfl, (Array.getElem?_eq_some_iff.1 hh).1, hc, q2, q3, (q4.below hb).more hb.size⟩
theorem usedF_heavy (l : List (List UInt8)) (h : wtL l ≤ 4000) (j : Nat) (hj : j ≤ 20) : usedF (l.take j) ≤ 4180 := by
  have h2 : wtL l = wtL (l.take j) + wtL (l.drop j) := by
    unfold wtL
    rw [← List.sum_append, ← List.map_append, List.take_append_drop]
  have h3 := wtL_used (l.take j) (by omega)
  have h4 : (l.take j).length ≤ 20 := by rw [List.length_take]; omega
  omega
theorem whole2 (g cap n c : Nat) (A : Option Addr) (l : List UInt8) (w : World) (hn : n ≤ 140737488355000) {base : Nat} (hx : w.ownsRow base 5 1 (.slice (some ⟨g, 0, none⟩) (n + 2) cap) (n + 2) (u8s (l ++ [91, 92]))) (h : Rd w w.heap.size A n l) :
    Calls Try.prog 37 #[.slice (some ⟨g, 0, none⟩) n cap, .slice A n c] w fun e w' => e = .returned (.bool true) ∧ w = w' := whole_any g cap base n c _ A l w hn hx h
/-- Two families, one made behind the other. -/
theorem Fam.join {w : World} {b1 b2 : Nat} {v1 v2 : List Value} {l1 l2 : List (List UInt8)} (h1 : Fam w b1 v1 l1) (h2 : Fam w b2 v2 l2) (hb : b1 ≤ b2) (hlt : ∀ (i : Nat) (v : Value) (k : Nat), v1[i]? = some v → v.ownBlock = some k → k < b2) : Fam w b1 (v1 ++ v2) (l1 ++ l2) := by
  have hl1 := h1.len
  have hl2 := h2.len
  have split : ∀ (i : Nat) (v : Value), (v1 ++ v2)[i]? = some v → (i < v1.length ∧ v1[i]? = some v) ∨ (v1.length ≤ i ∧ v2[i - v1.length]? = some v) := fun i v hv => by
    by_cases hc : i < v1.length
    · rw [List.getElem?_append_left hc] at hv; exact .inl ⟨hc, hv⟩
    · rw [List.getElem?_append_right (by omega)] at hv; exact .inr ⟨by omega, hv⟩
  refine ⟨by simp [hl1, hl2], fun i v hv => ?_, fun i j v u hij hv hu => ?_⟩
  · rcases split i v hv with ⟨hc, hv⟩ | ⟨hc, hv⟩
    · have e : (l1 ++ l2).getD i [] = l1.getD i [] := by simp [List.getD, List.getElem?_append_left (show i < l1.length by omega)]
      rw [e]
      exact h1.each i v hv
    · have e : (l1 ++ l2).getD i [] = l2.getD (i - v1.length) [] := by simp [List.getD, List.getElem?_append_right (show l1.length ≤ i by omega), hl1]
      rw [e]
      exact own_mono (h2.each _ v hv) hb
  · rcases split i v hv with ⟨hc, hv⟩ | ⟨hc, hv⟩
    · rcases split j u hu with ⟨hd, hu⟩ | ⟨hd, hu⟩
      · exact h1.apart i j v u hij hv hu
      · intro g hg hug
        have q1 := hlt i v g hv hg
        have q2 := ((h2.each _ u hu).lt g hug).1
        omega
    · rcases split j u hu with ⟨hd, hu⟩ | ⟨hd, hu⟩
      · intro g hg hug
        have q1 := hlt j u g hu hug
        have q2 := ((h2.each _ v hv).lt g hg).1
        omega
      · exact h2.apart _ _ v u (by omega) hv hu
/-- The second list's elements go behind the first one's. -/
structure OwnA (wa wb w : World) (Aa : Option Addr) (n ca : Nat) (bv : Value) (va vb : List Value) (rs : List (List UInt8)) (m t : Nat) (al : Value) : Prop where
  all : w.ownsRow wa.heap.size 40 1 al (n + t) (va ++ vb.take t)
  row : w.ownsRow wb.heap.size 40 1 bv m vb
  fam : Fam w wa.heap.size (va ++ vb) (rs ++ rs)
  below : Below wa.heap.size wa w
  ne : ∀ k, al.ownBlock = some k → bv.ownBlock ≠ some k
theorem OwnA.up {wa wb w w' : World} {Aa : Option Addr} {n ca : Nat} {bv : Value} {va vb : List Value} {rs : List (List UInt8)} {m t : Nat} {al : Value} (h : OwnA wa wb w Aa n ca bv va vb rs m t al) (hb : Below w.heap.size w w') : OwnA wa wb w' Aa n ca bv va vb rs m t al :=
  ⟨own_below h.all hb (fun k e => (h.all.lt k e).2), own_below h.row hb (fun k e => (h.row.lt k e).2), h.fam.up hb, h.below.trans (hb.mono h.below.size), h.ne⟩
theorem OwnA.push {wa wb w w' : World} {Aa : Option Addr} {n ca : Nat} {bv : Value} {va vb : List Value} {rs : List (List UInt8)} {m t : Nat} {al al' x : Value} (h : OwnA wa wb w Aa n ca bv va vb rs m t al) (hx : vb[t]? = some x) (ha : App w w' wa.heap.size 40 1 al al' (n + t) 1 (va ++ vb.take t) [x]) : OwnA wa wb w' Aa n ca bv va vb rs m (t + 1) al' := by
  have hk : Kp (fun k => al.ownBlock = some k) w w' := Kp.of_row ha.grow fun g e => e
  have ht := (List.getElem?_eq_some_iff.1 hx).1
  have hxe := (List.getElem?_eq_some_iff.1 hx).2
  refine ⟨?_, own_kp h.row hk (fun k e e2 => h.ne k e2 e), ⟨h.fam.len, fun i v hv => own_kp (h.fam.each i v hv) hk (fun k e e2 => own_ne2 (h.fam.each i v hv) h.all (by decide) k e e2), h.fam.apart⟩, h.below.trans (hk.below (fun k e => (h.all.lt k e).1) h.below.size), fun k e e2 => ?_⟩
  · have := ha.own
    rw [List.take_succ_eq_append_getElem ht, hxe, ← List.append_assoc, show n + (t + 1) = n + t + 1 by omega]
    exact this
  · rcases ha.block with q | q
    · rw [q] at e; exact h.ne k e e2
    · rw [q] at e; injection e with e; have := (h.row.lt k e2).2; omega
/-- Ahead of a round of the first loop. -/
def OwnS (W w : World) (gp gw j : Nat) (rs : List (List UInt8)) (vl vw : Value) : Prop := ∃ valsR valsW vals2 ls2, OW W w gp gw j rs vl vw valsR valsW vals2 ls2 0 ∧ Rows3 W valsR vals2 valsW ls2 rs

set_option maxRecDepth 100000 in
set_option maxHeartbeats 8000000 in
theorem walOwn_walk (A : Option Addr) (n c : Nat) (l : List (List UInt8)) (W : World) (_hc : n ≤ c) (hm : c ≤ 9223372036854775807) (h : Parts W W.heap.size A n l) :
    Calls Try.prog 8 #[.slice A n c] W fun e w' => e = .returned (.bool true) ∧ Below W.heap.size W w' := by
  have H1 := Lib.hid h
  have HV1 := Lib.hid (heavy_any A n c _ l W (by omega) h)
  have hll := h.1
  clear h
  have HKn : Hid (∀ w, Below W.heap.size W w → Calls Try.prog 9 #[] w fun e w' => e = .returned (.bool true) ∧ Below W.heap.size W w') := fun w hb => by
    refine (known_any w).mono ?_
    rintro e w' ⟨rfl, hb'⟩
    exact ⟨rfl, below_then hb hb'⟩
  obtain ⟨i1, hi1, hy0, hy1, hy2⟩ := info_parts Try.infoBytes
  go_enter Try.func8, Try.ntmps8
  go_wp2_with fail
  refine HV1.out.mono ?_
  rintro e w1 ⟨b1, rfl, hwt, q1, rfl⟩
  have HB1 : Hid (Below W.heap.size W (W.drewN q1)) := bel_drewN (Below.refl _ _) q1
  generalize W.drewN q1 = w2 at *
  clear HV1
  cases b1 with
  | true =>
    go_wp2_with fail
    refine (HKn.out _ HB1.out).mono ?_
    rintro e w3 ⟨rfl, hb⟩
    have HF := Lib.hid hb
    clear hb
    go_wp2
    go_ret
    exact ⟨rfl, HF.out⟩
  | false =>
    have hwt4 := hwt rfl
    have Hu : Hid (∀ j, j ≤ 20 → usedF (l.take j) ≤ 4180) := fun j hj => usedF_heavy l hwt4 j hj
    clear hwt hwt4
    go_wp2_with fail
    refine (start_any 300 w2 (by omega) (by omega)).mono ?_
    rintro e w3 ⟨gp, gd, M, H, rfl, hq, hge, hb⟩
    obtain ⟨gw, hO⟩ := OW.start (W := W) hq (fun k e => Nat.le_trans HB1.out.size (hge k e)) (below_then HB1.out hb)
    have HO : Hid (OwnS W w3 gp gw 0 (l.take 0) (.slice none 0 0) (.slice none 0 0)) := ⟨_, _, _, _, by rw [List.take_zero]; exact hO, by rw [List.take_zero]; exact ⟨rfl, rfl, rfl, rfl, fun i hi => by simp at hi⟩⟩
    clear hq hge hb hO HB1
    go_wp2
    go_loopg [5, 6, 7] n (fun k vl vw iv wr => ∃ (j : Nat) (al aw : Value), vl = al ∧ vw = aw ∧ iv = .int .i64 j ∧ j + k = n ∧ j ≤ 20 ∧ Hid (OwnS W wr gp gw j (l.take j) al aw))
    case atStart => exact ⟨0, _, _, rfl, rfl, rfl, by omega, by omega, HO⟩
    case round =>
      clear HO
      obtain ⟨j, vl, vw, e1, e2, rfl, hk, hj20, HO⟩ := hrel
      have e1 := e1.symm
      have e2 := e2.symm
      subst e1 e2
      by_cases hj : j < n ∧ j < 20
      · obtain ⟨hj1, hj2⟩ := hj
        obtain ⟨valsR, valsW, vals2, ls2, hO, hR3⟩ := HO.out
        obtain ⟨b, o, A', n', c', rfl, hb, hcell0, hn', hc', hrd⟩ := H1.out.2 j (by omega)
        have HT : Hid (∀ w', Below W.heap.size W w' → w'.cell? ⟨b, o + j, none⟩ = some (.slice A' n' c')) := fun w' hb' => (hb'.cell hb).trans hcell0
        have t0 := HT.out wr hO.size
        have HB := Lib.hid hO.size
        have Hrd := Lib.hid hrd
        have HO1 := Lib.hid hO
        have HR3 := Lib.hid hR3
        have hln := hrd.1
        clear hO hR3 hcell0 hb hrd HO
        by_cases hbig : 1024 < n'
        · go_wp2_with fail
          refine (HKn.out _ HB.out).mono ?_
          rintro e w3 ⟨rfl, hb⟩
          have HF := Lib.hid hb
          clear hb
          go_wp2
          go_ret
          exact ⟨rfl, HF.out⟩
        · have HL : Hid (∀ W', Below W.heap.size W W' → Calls Try.prog 36 #[.slice A' n' c'] W' fun e w' => ∃ g cap, e = .returned (.slice (some ⟨g, 0, none⟩) n' cap) ∧ w'.ownsRow W'.heap.size 5 1 (.slice (some ⟨g, 0, none⟩) (n' + 2) cap) (n' + 2) (u8s (l[j] ++ [91, 92])) ∧ Below W'.heap.size W' w') := fun W' hb => lent_any A' n' c' _ l[j] W' (by omega) (Hrd.out.below hb)
          go_wp2_with fail
          refine (HL.out wr HB.out).mono ?_
          rintro e w4 ⟨g, cap, rfl, hx, hb4⟩
          have hcap := lent_cap hx
          have hlen2 : (l[j] ++ [91, 92]).length = n' + 2 := by simp [hln]
          have hO4 := HO1.out.lent hb4 (v := .slice (some ⟨g, 0, none⟩) (n' + 2) cap) (l := l[j] ++ [91, 92]) (by rw [hlen2]; exact hx)
          have hrdx := lent_rd hln hx
          have hu := Hu.out (j + 1) (by omega)
          have htk : l.take (j + 1) = l.take j ++ [l[j]] := List.take_succ_eq_append_getElem (by omega)
          rw [htk, usedF_app, usedF_one, hln] at hu
          have c4 := hO4.cell
          have t4 := HT.out w4 hO4.size
          have HAp := Lib.hid (hO4.append (by omega) (some ⟨g, 0, none⟩) n' cap l[j] (by omega) hcap.2 hrdx (by omega) (by omega))
          have Hlen2 := Lib.hid hlen2
          have Htk := Lib.hid htk
          have HWh : Hid (∀ w5, OW W w5 gp gw (j + 1) (l.take j ++ [l[j]]) vl vw valsR valsW (vals2 ++ [.slice (some ⟨g, 0, none⟩) (n' + 2) cap]) (ls2 ++ [l[j] ++ [91, 92]]) 0 → w5.cell? ⟨b, o + j, none⟩ = some (.slice A' n' c') ∧ Calls Try.prog 37 #[.slice (some ⟨g, 0, none⟩) n' cap, .slice A' n' c'] w5 fun e w' => e = .returned (.bool true) ∧ w5 = w') := fun w5 h5 => by
            refine ⟨HT.out w5 h5.size, ?_⟩
            have hl2 : vals2.length = ls2.length := by rw [HR3.out.2.1, HR3.out.2.2.2.1]
            have hb5 := h5.size
            obtain ⟨H5, _, hp5⟩ := h5
            have he := hp5.each vals2.length (.slice (some ⟨g, 0, none⟩) (n' + 2) cap) (Nat.zero_le _) (by simp)
            have hg : (ls2 ++ [l[j] ++ [91, 92]]).getD vals2.length [] = l[j] ++ [91, 92] := by rw [hl2]; simp [List.getD]
            rw [hg, Hlen2.out] at he
            exact whole2 g cap n' c' A' l[j] w5 (by omega) he ((Hrd.out.below hb5).more hb5.size)
          clear hx hb4 hO4 hrdx hlen2 htk HO1 t0 HL
          go_wp2_with fail
          refine HAp.out.mono ?_
          rintro e w5 ⟨rfl, hO5⟩
          obtain ⟨t5, hwh⟩ := HWh.out w5 hO5
          have HWh5 := Lib.hid hwh
          have HO5 := Lib.hid hO5
          clear hwh hO5 HAp HWh c4 t4
          go_wp2_with fail
          refine HWh5.out.mono ?_
          rintro e w6 ⟨rfl, rfl⟩
          clear HWh5
          have hR4 := HR3.out.push (g := g) (n := n') (cap := cap) hln (by omega) hn' hc' Hrd.out
          rw [← Htk.out] at hR4
          have HR4 := Lib.hid hR4
          have hlR : valsR.length = j := by rw [HR3.out.1, List.length_take]; omega
          have hlW : valsW.length = j := by rw [HR3.out.2.2.1, List.length_take]; omega
          obtain ⟨Hx, hxl, hxp⟩ := HO5.out
          obtain ⟨Al, cl, rfl, hcl1, hcl2⟩ := own_shape hxp.rowL
          obtain ⟨Aw, cw, rfl, hcw1, hcw2⟩ := own_shape hxp.rowW
          rw [hlR] at hcl1
          rw [hlW] at hcw1
          rw [hlR, hlW]
          have hb6 := (Below.refl w5.heap.size w5).alloc (Nat.le_refl _) (.cells #[.slice (some ⟨g, 0, none⟩) n' cap] 40)
          have hO6 := HO5.out.below hb6
          have hROW : (w5.alloc (.cells #[.slice (some ⟨g, 0, none⟩) n' cap] 40)).ownsRow W.heap.size 40 1 (.slice Al j cl) j valsR := by
            obtain ⟨_, _, q⟩ := hO6
            have := q.rowL
            rw [hlR] at this
            exact this
          have hszW := hO6.size.size
          have hmxl : maxLen = 9223372036854775807 := rfl
          have HO6 := Lib.hid hO6
          clear hb6 hO6 hR4 hxl hxp HO5
          go_wp2_with (at_builtin; go_loud (refine wpList_append_app _ rfl _ _ 28 rfl W.heap.size 40 i1 (.slice none 0 0) 1 24 Try.underlying28 hi1 hy0 hy1 hy2 rfl _ j valsR rfl hROW (some ⟨w5.heap.size, 0, none⟩) 1 1 [Value.slice (some ⟨g, 0, none⟩) n' cap] rfl rfl (by intro h; cases h) (cell_new1 _ _ _) (by intro u hu; simp at hu; subst hu; rfl) (by omega) (by omega) hszW ?_))
          intro vl' w7 happ
          have hO7 := HO6.out.pushL (v' := vl') (x := .slice (some ⟨g, 0, none⟩) n' cap) (by rw [hlR]; exact happ)
          have t7 := HT.out w7 hO7.size
          have HO7 := Lib.hid hO7
          clear happ hROW hszW HO6 t5 hO7
          have hb8 := (Below.refl w7.heap.size w7).alloc (Nat.le_refl _) (.cells #[.slice A' n' c'] 40)
          have hO8 := HO7.out.below hb8
          have hROW : (w7.alloc (.cells #[.slice A' n' c'] 40)).ownsRow W.heap.size 40 1 (.slice Aw j cw) j valsW := by
            obtain ⟨_, _, q⟩ := hO8
            have := q.rowW
            rw [hlW] at this
            exact this
          have hszW := hO8.size.size
          have HO8 := Lib.hid hO8
          clear hb8 hO8
          go_wp2_with (at_builtin; go_loud (refine wpList_append_app _ rfl _ _ 28 rfl W.heap.size 40 i1 (.slice none 0 0) 1 24 Try.underlying28 hi1 hy0 hy1 hy2 rfl _ j valsW rfl hROW (some ⟨w7.heap.size, 0, none⟩) 1 1 [Value.slice A' n' c'] rfl rfl (by intro h; cases h) (cell_new1 _ _ _) (by intro u hu; simp at hu; subst hu; rfl) (by omega) (by omega) hszW ?_))
          intro vw' w9 happ
          have hO9 := HO8.out.pushW (v' := vw') (x := .slice A' n' c') (by rw [hlW]; exact happ)
          have HN : Hid (OwnS W w9 gp gw (j + 1) (l.take (j + 1)) vl' vw') := ⟨_, _, _, _, by rw [Htk.out]; exact hO9, HR4.out⟩
          clear happ hROW hszW HO8 hO9 t7 HO7 HR4 HR3
          go_wp2
          go_roundg (gk - 1)
          case measure => omega
          case rel => exact ⟨j + 1, _, _, rfl, rfl, by go_num, by omega, by omega, HN⟩
      · have hend : ∃ rs, rs = l.take j ∧ rs.length ≤ 20 := ⟨_, rfl, by rw [List.length_take]; omega⟩
        obtain ⟨rs, hrs, hrl⟩ := hend
        rw [← hrs] at HO
        obtain ⟨valsR, valsW, vals2, ls2, hO, hR3⟩ := HO.out
        obtain ⟨Hx, hxl, hxp⟩ := hO
        obtain ⟨Al, cl, hvl, hcl1, hcl2⟩ := own_shape hxp.rowL
        obtain ⟨Aw, cw, hvw, hcw1, hcw2⟩ := own_shape hxp.rowW
        subst hvl hvw
        have hlR : valsR.length = rs.length := hR3.1
        have hlW : valsW.length = rs.length := hR3.2.2.1
        have HO0 : Hid (OW W wr gp gw j rs (.slice Al rs.length cl) (.slice Aw rs.length cw) valsR valsW vals2 ls2 0) := by
          rw [hlR, hlW] at hxp
          exact ⟨Hx, hxl, hxp⟩
        rw [hlR] at hcl1 ⊢
        rw [hlW] at hcw1 ⊢
        have HR3 := Lib.hid hR3
        have Hrs := Lib.hid hrs
        obtain ⟨N, hN⟩ : ∃ N, rs.length = N := ⟨_, rfl⟩
        rw [hN] at HO0 hcl1 hcw1 hrl hlR hlW ⊢
        have HN := Lib.hid hN
        clear hR3 hxl hxp HO hrs hN
        by_cases hjn1 : j < n
        all_goals by_cases hj5 : j < 20
        all_goals first
          | (exfalso; omega)
          | (clear hj
             go_wp2
             go_loopg [9] N (fun k iv wr2 => ∃ t : Nat, iv = .int .i64 t ∧ t + k = N ∧ Hid (OW W wr2 gp gw j rs (.slice Al N cl) (.slice Aw N cw) valsR valsW vals2 ls2 t))
             case atStart => exact ⟨0, rfl, by omega, HO0⟩
             case round =>
               clear HO0
               obtain ⟨t, rfl, hk2, HOt⟩ := hrel
               by_cases ht : t < N
               · obtain ⟨g, n', cap, k1, k2, k3, k4, k5, _⟩ := HR3.out.2.2.2.2 t (by rw [HN.out]; exact ht)
                 obtain ⟨Hy, hyl, hyp⟩ := HOt.out
                 have he := hyp.each t _ (Nat.le_refl _) k2
                 have hlen2 : (rs[t]'(by rw [HN.out]; exact ht) ++ [91, 92]).length = n' + 2 := by simp [k4]
                 rw [k3, hlen2] at he
                 have hsp := Lib.hid (spoil_any g n' cap W.heap.size _ _ (by omega) (lent_own k4 he))
                 obtain ⟨gl, clx, hv, _⟩ := own_head hyp.rowL (by omega)
                 injection hv with e1 e2 e3
                 subst e1
                 clear e2 e3
                 have tc := hyp.rowL.cells (g := gl) rfl t _ k1
                 rw [Addr.add_lit, Nat.zero_add] at tc
                 have HSp : Hid (∀ w', wr.grownBy w' (some g) → OW W w' gp gw j rs (.slice (some ⟨gl, 0, none⟩) N cl) (.slice Aw N cw) valsR valsW vals2 ls2 (t + 1)) := fun w' hg => HOt.out.spoil k2 rfl (Kp.of_grown hg rfl)
                 clear hyl hyp he hlen2 k1 k2 k3 k4
                 go_wp2_with fail
                 refine hsp.out.mono ?_
                 rintro e w4 ⟨rfl, hg⟩
                 have HO4 := Lib.hid (HSp.out w4 hg)
                 clear hg hsp HSp HOt tc
                 go_wp2
                 go_roundg (gk - 1)
                 case measure => omega
                 case rel => exact ⟨t + 1, by go_num, by omega, HO4⟩
               · obtain rfl : t = N := by omega
                 obtain ⟨wa, hwa⟩ : ∃ x, x = wr := ⟨_, rfl⟩
                 subst hwa
                 have HT : Hid (∀ W0, ToldL rs W0 = fun e w' => ∃ A c vals, e = .returned (.slice A t c) ∧ w'.ownsRow W0.heap.size 40 1 (.slice A t c) t vals ∧ Fam w' W0.heap.size vals rs ∧ Below W0.heap.size W0 w') := fun W0 => by
                   show _ = _
                   unfold ToldL
                   rw [HN.out]
                 have c1 := HOt.out.cell
                 have hrec := HOt.out.records
                 rw [HT.out] at hrec
                 have HC1 := Lib.hid hrec
                 clear hrec
                 go_wp2_with fail
                 refine HC1.out.mono ?_
                 rintro e wb ⟨Aa, ca, va, rfl, hoa, hfa, hba⟩
                 have HOb := Lib.hid (HOt.out.below hba)
                 have c2 := HOb.out.cell
                 have hrec := HOb.out.records
                 rw [HT.out] at hrec
                 have HC2 := Lib.hid hrec
                 have Hoa := Lib.hid hoa
                 have Hfa := Lib.hid hfa
                 have Hba := Lib.hid hba
                 clear hrec hoa hfa hba HC1 c1
                 go_wp2_with fail
                 refine HC2.out.mono ?_
                 rintro e wc ⟨Ab, cb, vb, rfl, hob, hfb, hbb⟩
                 have HOc := Lib.hid (HOb.out.below hbb)
                 have hPa := (told_parts HN.out.symm Hoa.out Hfa.out).below hbb
                 have hlw : valsW.length = t := hlW
                 have hPw : Parts wc wc.heap.size Aw t rs := by
                   obtain ⟨_, _, q⟩ := HOc.out
                   exact HR3.out.parts HOc.out.size q.rowW HN.out.symm
                 have hsl := sameLists_any Aa Aw t ca t cw _ _ rs rs wc (by omega) (by omega) hPa hPw
                 rw [beq_self_eq_true] at hsl
                 have HSl := Lib.hid hsl
                 have hva : va.length = t := by have := Hfa.out.len; rw [this]; exact HN.out
                 have hvb : vb.length = t := by rw [hfb.len]; exact HN.out
                 have HFj : Hid (Fam wc wa.heap.size (va ++ vb) (rs ++ rs)) := Fam.join (Hfa.out.up hbb) hfb Hba.out.size (fun i v k hv e => ((Hfa.out.each i v hv).lt k e).2)
                 have HRa : Hid (wc.ownsRow wa.heap.size 40 1 (.slice Aa t ca) t va) := own_below Hoa.out hbb (fun k e => (Hoa.out.lt k e).2)
                 have HRb : Hid (wc.ownsRow wb.heap.size 40 1 (.slice Ab t cb) t vb) := hob
                 have HBc : Hid (Below wa.heap.size wa wc) := Hba.out.trans (hbb.mono Hba.out.size)
                 have hsz : Hid (wa.heap.size ≤ wb.heap.size ∧ wb.heap.size ≤ wc.heap.size) := ⟨Hba.out.size, hbb.size⟩
                 have HAa : Hid (∀ k, Value.ownBlock (.slice Aa t ca) = some k → k < wb.heap.size) := fun k e => (Hoa.out.lt k e).2
                 obtain ⟨_, _, ea1, ha1, ha2⟩ := own_shape Hoa.out
                 injection ea1 with ea0 ea2 ea1
                 subst ea1
                 clear ea0 ea2
                 obtain ⟨_, _, eb1, hb1, hb2⟩ := own_shape hob
                 injection eb1 with eb0 eb2 eb1
                 subst eb1
                 clear eb0 eb2
                 clear hob hfb hbb hPa hPw hsl HC2 c2 HOb Hoa Hfa Hba
                 have hvl0 : va.length = t := hva
                 have Hva := Lib.hid hva
                 have Hvb := Lib.hid hvb
                 clear hva hvb hvl0 hlw
                 go_wp2_with fail
                 refine HSl.out.mono ?_
                 rintro e wd ⟨rfl, qd, hqd⟩
                 have hbd : Below wc.heap.size wc wd := by rw [← hqd]; exact bel_drewN (Below.refl _ _) qd
                 have hst : OwnA wa wb wd Aa t ca (.slice Ab t cb) va vb rs t 0 (.slice Aa t ca) := ⟨by rw [List.take_zero, List.append_nil]; exact own_below HRa.out hbd (fun k e => (HRa.out.lt k e).2), own_below HRb.out hbd (fun k e => (HRb.out.lt k e).2), HFj.out.up hbd, HBc.out.trans (hbd.mono (by have := hsz.out; omega)), fun k e e2 => by have h1 := HAa.out k e; have h2 := (HRb.out.lt k e2).1; omega⟩
                 have HS0 := Lib.hid hst
                 clear hst hbd hqd HSl HRa HRb HFj HBc HAa HOc
                 go_wp2
                 go_loopg [13, 14] t (fun k al iv wr2 => ∃ (x : Nat) (av : Value), al = av ∧ iv = .int .i64 x ∧ x + k = t ∧ Hid (OwnA wa wb wr2 Aa t ca (.slice Ab t cb) va vb rs t x av))
                 case atStart => exact ⟨0, _, rfl, rfl, by omega, HS0⟩
                 case round =>
                   clear HS0
                   obtain ⟨x, av, e1, rfl, hkx, HSx⟩ := hrel
                   have e1 := e1.symm
                   subst e1
                   obtain ⟨A3, c3, hv3, h31, h32⟩ := own_shape HSx.out.all
                   subst hv3
                   by_cases hx : x < t
                   · have hxl : x < vb.length := by rw [Hvb.out]; exact hx
                     have hxv : vb[x]? = some vb[x] := List.getElem?_eq_getElem hxl
                     have hfe := HSx.out.fam.each (t + x) vb[x] (by rw [List.getElem?_append_right (by rw [Hva.out]; omega), Hva.out, Nat.add_sub_cancel_left]; exact hxv)
                     obtain ⟨xv, hxe⟩ : ∃ xv, vb[x] = xv := ⟨_, rfl⟩
                     rw [hxe] at hfe hxv
                     obtain ⟨A4, c4, hv4, _, _⟩ := own_shape hfe
                     obtain ⟨n4, hn4⟩ : ∃ n4, ((rs ++ rs).getD (t + x) []).length = n4 := ⟨_, rfl⟩
                     rw [hn4] at hv4
                     subst hv4
                     obtain ⟨gb, cbx, hvb', _⟩ := own_head HSx.out.row (by omega)
                     injection hvb' with f1 f2 f3
                     subst f1
                     clear f2 f3
                     have tc := HSx.out.row.cells (g := gb) rfl x _ hxv
                     rw [Addr.add_lit, Nat.zero_add] at tc
                     have hbA := (Below.refl wr.heap.size wr).alloc (Nat.le_refl _) (.cells #[.slice A4 n4 c4] 40)
                     have HSy := Lib.hid (HSx.out.up hbA)
                     have hROW := HSy.out.all
                     have hszA := HSy.out.below.size
                     have hmxl : maxLen = 9223372036854775807 := rfl
                     have Hxv := Lib.hid hxv
                     clear hxe hfe hxv hbA hn4 hxl
                     go_wp2_with (at_builtin; go_loud (refine wpList_append_app _ rfl _ _ 28 rfl wa.heap.size 40 i1 (.slice none 0 0) 1 24 Try.underlying28 hi1 hy0 hy1 hy2 rfl _ (t + x) (va ++ vb.take x) rfl hROW (some ⟨wr.heap.size, 0, none⟩) 1 1 [Value.slice A4 n4 c4] rfl rfl (by intro h; cases h) (cell_new1 _ _ _) (by intro u hu; simp at hu; subst hu; rfl) (by omega) (by omega) hszA ?_))
                     intro al' w7 happ
                     have HSz := Lib.hid (HSy.out.push Hxv.out happ)
                     clear happ hROW hszA HSy tc HSx
                     go_wp2
                     go_roundg (gk - 1)
                     case measure => omega
                     case rel => exact ⟨x + 1, _, rfl, by go_num, by omega, HSz⟩
                   · obtain rfl : x = t := by omega
                     have hall := HSx.out.all
                     rw [List.take_of_length_le (show vb.length ≤ x by rw [Hvb.out]; exact Nat.le_refl _)] at hall
                     have hlen2 : (va ++ vb).length = x + x := by rw [List.length_append, Hva.out, Hvb.out]
                     have hsmall : ∀ q ∈ rs ++ rs, q.length ≤ 1099511627776 := fun q hq => by
                       have hq2 : q ∈ rs := by rcases List.mem_append.1 hq with h | h <;> exact h
                       obtain ⟨i, hi, rfl⟩ := List.mem_iff_getElem.1 hq2
                       obtain ⟨_, n', _, _, _, _, k4, k5, _⟩ := HR3.out.2.2.2.2 i hi
                       omega
                     have HOw := Lib.hid (HSx.out.fam.own (by rw [hlen2]; exact hall) hlen2 HSx.out.below.size (by omega) hsmall)
                     have HBx := Lib.hid HSx.out.below
                     clear hall hlen2 hsmall HSx
                     go_wp2_with fail
                     refine HOw.out.mono ?_
                     rintro e we ⟨rfl, hbe⟩
                     have HOe := Lib.hid (HOt.out.below (HBx.out.trans hbe))
                     clear hbe HOw HBx
                     go_wp2_with fail
                     refine (append_nil _ _ _ _).mono ?_
                     rintro e w' ⟨rfl, rfl⟩
                     go_wp2_with fail
                     refine (syncW_nil _).mono ?_
                     rintro e w' ⟨rfl, rfl⟩
                     go_wp2_with fail
                     refine (reset_nil _ _ _ _).mono ?_
                     rintro e w' ⟨rfl, rfl⟩
                     go_wp2_with fail
                     refine (records_nil _).mono ?_
                     rintro e w' ⟨rfl, rfl⟩
                     go_wp2_with fail
                     refine (safe_nil _).mono ?_
                     rintro e w' ⟨rfl, rfl⟩
                     go_wp2_with fail
                     refine (roomW_nil _).mono ?_
                     rintro e w' ⟨rfl, rfl⟩
                     have c5 := HOe.out.cell
                     have hrec := HOe.out.records
                     rw [HT.out] at hrec
                     have HC5 := Lib.hid hrec
                     clear hrec
                     go_wp2_with fail
                     refine HC5.out.mono ?_
                     rintro e wf ⟨Af, cf, vf, rfl, hof, hff, hbf⟩
                     have HOf := Lib.hid (HOe.out.below hbf)
                     have hPf := told_parts HN.out.symm hof hff
                     have hPw : Parts wf wf.heap.size Aw x rs := by
                       obtain ⟨_, _, q⟩ := HOf.out
                       exact HR3.out.parts HOf.out.size q.rowW HN.out.symm
                     have hsl := sameLists_any Af Aw x cf x cw _ _ rs rs wf (by omega) (by omega) hPf hPw
                     rw [beq_self_eq_true] at hsl
                     have HSf := Lib.hid hsl
                     clear hof hff hbf hPf hPw hsl HC5 c5 HOe
                     go_wp2_with fail
                     refine HSf.out.mono ?_
                     rintro e wg ⟨rfl, qg, hqg⟩
                     have hbg : Below W.heap.size W wg := by rw [← hqg]; exact bel_drewN HOf.out.size qg
                     have HKf := Lib.hid (HKn.out wg hbg)
                     clear hqg hbg HSf HOf
                     go_wp2_with fail
                     refine HKf.out.mono ?_
                     rintro e wh ⟨rfl, hbh⟩
                     have HF := Lib.hid hbh
                     clear hbh HKf
                     go_wp2
                     go_ret
                     exact ⟨rfl, HF.out⟩)
namespace walOwn
set_option maxRecDepth 100000 in
theorem lifted (os : Os) (started : os.Started) (H : Type) (enc : TypeId × Value → H) :
    ReturnsInHanded {} Try.checked os 8 .any (Rows.walOwnSpec.pre6 enc Try.prog Try.f8 Rows.walOwnRow.domain false) (Rows.walOwnSpec.post enc Try.prog Try.f8 false true false false) := by
  refine law_lift started (by kernel_rfl) Try.func8
    (ChangeSpec.witness6 (enc := enc) (C := Try.checked) false ⟨#[], #[.slice none 0 0], []⟩ 8 (by kernel_rfl) (by kernel_rfl) (by kernel_rfl) (by kernel_rfl))
    rfl ?_ (by kernel_rfl) (by kernel_rfl) ?_
  · intro ds h
    match ds, h with
    | [_], _ => rfl
  intro W base args ds p g
  have hA := g.trod
  have hval := g.val
  rw [Try.params8] at hA hval
  obtain ⟨v0, vs0, d0, ds0, p0, q0, hargs, rfl, rfl, h0, r0⟩ := trodAll_cons hA
  obtain ⟨rfl, rfl, rfl⟩ := trodAll_nil r0
  obtain rfl : args = #[v0] := by cases args; simp_all
  obtain ⟨A0, n0, c0, l0, rfl, hc0, hm0, hr0⟩ := given_lists (hval 0 28 v0 rfl rfl) h0
  exact walOwn_walk A0 n0 c0 l0 W hc0 hm0 hr0

theorem over : Rows.walOwnRow.holds Try.pinned (OpenSpec.ofChange Rows.walOwnSpec) :=
  OpenClaim.holds_of_wide 8 Try.f8 rfl rfl rfl rfl rfl rfl rfl ⟨rfl, rfl, rfl, rfl, rfl⟩ rfl rfl rfl rfl rfl (by kernel_rfl) Try.func8 (by kernel_rfl)
    (of_decide_eq_true (by kernel_rfl)) (by unfold Func.isWrapper; first | (rw [if_pos (by decide +kernel)]; kernel_rfl) | (rw [if_neg (by decide +kernel)]; exact ⟨rfl, rfl⟩))
    (fun os started H enc _ => lifted os started H enc)
end walOwn

theorem WalOwn_proved : Rows.WalOwnSaid := walOwn.over
#print axioms WalOwn_proved
end Go.Proofs.Ytpfccbojllabjaa
