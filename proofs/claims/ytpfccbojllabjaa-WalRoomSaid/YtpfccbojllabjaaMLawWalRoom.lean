/- WalRoom: a record is taken just if its frame fits into the room, which is so much less then; what is refused changes nothing. Of every row of sizes and every fill: no condition. -/
import Derived.Test.YtpfccbojllabjaaMWGiven
namespace Go.Proofs.Ytpfccbojllabjaa
open Go.ChangeShapes Go.WideShapes Go.ChangeAt Go.RowKit

set_option maxRecDepth 100000 in
theorem roomQ_meth (g o : Nat) (A : Option Addr) (n c en : Nat) (w : World) (hn : n ≤ 9223372036854775807) (he : en ≤ n) (c1 : w.cell? ⟨g, o + 1, none⟩ = some (.slice A n c)) (c2 : w.cell? ⟨g, o + 2, none⟩ = some (.int .i64 en)) :
    Calls Try.prog 72 #[.pointer (some ⟨g, o, none⟩)] w fun x w' => x = .returned (.int .i64 ((n - en : Nat) : Int)) ∧ ∃ q, w' = w.drewN q := by
  go_enter Try.func72, Try.ntmps72
  go_wp2_with fail
  go_quiet (fail)
  go_wp2
  go_ret
  refine ⟨?_, _, rfl⟩
  show Ending.returned (.int .i64 ((n : Int) - (en : Int))) = _
  rw [show ((n - en : Nat) : Int) = (n : Int) - (en : Int) by omega]
set_option maxRecDepth 100000 in
set_option maxHeartbeats 1000000 in
/-- The room is told, and nothing turns. -/
theorem roomWQ_any (g gd : Nat) (d : Dk) (s : Lg) (H : Nat → Prop) (w : World) (h : PB w H g gd d s) : Calls Try.prog 33 #[.pointer (some ⟨g, 0, none⟩)] w fun e w' => e = .returned (.int .i64 (s.tellR d : Nat)) ∧ ∃ q, w' = w.drewN q := by
  obtain ⟨F, G, hp, hw, hFG, hFH, hGH, hH⟩ := h
  have hlen := hp.len
  have hbs : d.bytes ≤ 40000 := by unfold Dk.bytes Dk.half halfN; omega
  have HC : Hid (Calls Try.prog 72 #[.pointer (some ⟨g, 1, none⟩)] w fun x w' => x = .returned (.int .i64 (s.tellR d : Nat)) ∧ ∃ q, w' = w.drewN q) := by
    unfold Lg.tellR
    cases hgone : s.gone with
    | true =>
      have hb := hw.dead hgone
      exact roomQ_meth g 1 none 0 0 0 w (by omega) (Nat.le_refl _) (hb.cell 2) (hb.cell 3)
    | false =>
      obtain ⟨ga, c, hga, hl⟩ := hw.live hgone
      exact roomQ_meth g 1 _ d.bytes c (usedF s.recs) w (by omega) hw.ok.fits (hl.c1 rfl) (hl.c2 rfl)
  clear hp hw hFG hFH hGH hH
  generalize s.tellR d = n at *
  go_enter Try.func33, Try.ntmps33
  go_wp2_with fail
  refine HC.out.mono ?_
  rintro x w2 ⟨rfl, q, rfl⟩
  clear HC
  go_wp2
  go_ret
  exact ⟨rfl, q, rfl⟩

/-- Ahead of a round: the program's log has n records, u bytes of frames. -/
def RoomS (W w : World) (gp gw : Nat) (i n u : Nat) : Prop := ∃ gd M gr H d s dr sr, P2 w H gp gd M gw gr d s dr sr ∧ (∀ k, H k → W.heap.size ≤ k) ∧ Below W.heap.size W w ∧ OnDisk d s ∧ d.Free ∧ s.gone = false ∧ s.safe = 0 ∧ s.recs.length = n ∧ usedF s.recs = u ∧ d.safe.length = 14 ∧ d.waits.length ≤ 1100 * (i + 1)
section
variable {W w w' : World} {gp gw i n u : Nat}
theorem RoomS.size (h : RoomS W w gp gw i n u) : Below W.heap.size W w := by
  obtain ⟨gd, M, gr, H, d, s, dr, sr, h1, h2, h3, _⟩ := h
  exact h3
theorem RoomS.below (h : RoomS W w gp gw i n u) (hb : Below w.heap.size w w') : RoomS W w' gp gw i n u := by
  obtain ⟨gd, M, gr, H, d, s, dr, sr, h1, h2, h3, h4⟩ := h
  exact ⟨gd, M, gr, H, d, s, dr, sr, h1.below hb, h2, h3.trans (hb.mono h3.size), h4⟩
theorem RoomS.cell (h : RoomS W w gp gw i n u) : w.cell? ⟨gp, 1, none⟩ = some (.pointer (some ⟨gw, 0, none⟩)) := by
  obtain ⟨gd, M, gr, H, d, s, dr, sr, h1, _⟩ := h
  exact h1.blk.cell 1
theorem RoomS.le (h : RoomS W w gp gw i n u) : u ≤ 192 ∧ n ≤ 192 := by
  obtain ⟨gd, M, gr, H, d, s, dr, sr, h1, h2, h3, h4, h5, h6, h7, h8, h9, h10, h11⟩ := h
  have := h4.lg.fits
  have hb : d.bytes = 192 := by simp [Dk.bytes, Dk.half, halfN, h10]
  have := usedF_count s.recs
  omega
theorem RoomS.room (h : RoomS W w gp gw i n u) : Calls Try.prog 33 #[.pointer (some ⟨gw, 0, none⟩)] w fun e w' => e = .returned (.int .i64 ((192 - u : Nat) : Int)) ∧ Below w.heap.size w w' := by
  obtain ⟨gd, M, gr, H, d, s, dr, sr, h1, h2, h3, h4, h5, h6, h7, h8, h9, h10, h11⟩ := h
  have hb : d.bytes = 192 := by simp [Dk.bytes, Dk.half, halfN, h10]
  have := h1.room
  have e : s.tellR d = 192 - u := by unfold Lg.tellR Lg.room; rw [h6, hb, h9]; rfl
  rw [e] at this
  exact this
theorem RoomS.roomQ (h : RoomS W w gp gw i n u) : Calls Try.prog 33 #[.pointer (some ⟨gw, 0, none⟩)] w fun e w' => e = .returned (.int .i64 ((192 - u : Nat) : Int)) ∧ ∃ q, w' = w.drewN q := by
  obtain ⟨gd, M, gr, H, d, s, dr, sr, ⟨H1, H2, _, h1, _⟩, h2, h3, h4, h5, h6, h7, h8, h9, h10, h11⟩ := h
  have hb : d.bytes = 192 := by simp [Dk.bytes, Dk.half, halfN, h10]
  have := roomWQ_any gw gd d s H1 w h1
  have e : s.tellR d = 192 - u := by unfold Lg.tellR Lg.room; rw [h6, hb, h9]; rfl
  rw [e] at this
  exact this
theorem RoomS.safe (h : RoomS W w gp gw i n u) : Calls Try.prog 26 #[.pointer (some ⟨gw, 0, none⟩)] w fun e w' => e = .returned (.int .i64 0) ∧ w = w' := by
  obtain ⟨gd, M, gr, H, d, s, dr, sr, h1, h2, h3, h4, h5, h6, h7, h8, h9, h10, h11⟩ := h
  have := h1.safe
  have e : s.tellN = 0 := by unfold Lg.tellN; rw [h6, h7]; rfl
  rw [e] at this
  exact this
theorem RoomS.records (h : RoomS W w gp gw i n u) : Calls Try.prog 24 #[.pointer (some ⟨gw, 0, none⟩)] w fun e w' => (∃ A c, e = .returned (.slice A n c)) ∧ Below w.heap.size w w' := by
  obtain ⟨gd, M, gr, H, d, s, dr, sr, h1, h2, h3, h4, h5, h6, h7, h8, h9, h10, h11⟩ := h
  have e : s.tellL = s.recs := by unfold Lg.tellL; rw [h6]; rfl
  refine h1.records.mono ?_
  rw [e]
  rintro e w' ⟨A, c, vals, rfl, _, _, hb⟩
  exact ⟨⟨A, c, by rw [h8]⟩, hb⟩
theorem RoomS.fits (h : RoomS W w gp gw i n u) (hi : i ≤ 1000) (A : Option Addr) (nb cb : Nat) (b : List UInt8) (hcb : nb ≤ cb) (hcm : cb ≤ 9223372036854775807) (hb : Rd w w.heap.size A nb b) (h4 : nb ≤ 1024) (hf : u + (10 + nb) ≤ 192) :
    Calls Try.prog 19 #[.pointer (some ⟨gw, 0, none⟩), .slice A nb cb] w fun e w' => e = .returned (.int .i64 0) ∧ RoomS W w' gp gw (i + 1) (n + 1) (u + (10 + nb)) := by
  obtain ⟨gd, M, gr, H, d, s, dr, sr, h1, h2, h3, h4', h5, h6, h7, h8, h9, h10, h11⟩ := h
  have hby : d.bytes = 192 := by simp [Dk.bytes, Dk.half, halfN, h10]
  have hbl := hb.1
  obtain ⟨d', q1, q2, q3, q4⟩ := append_on h4' h5 h6 (b := b) (by omega) (by omega)
  have hw := append_waits s d b (by omega)
  have hc := h1.append A nb cb b (by omega) (by omega) hcb hcm hb
  rw [q1] at hc hw
  refine hc.mono ?_
  rintro e w' ⟨rfl, H', k1, k2⟩
  refine ⟨rfl, gd, M, gr, H', _, _, dr, sr, k1, k2.ge h3.size h2, h3.trans (k2.kp.below h2 h3.size), q2, q3, h6, h7, by simp [h8], by simp only; rw [usedF_app, usedF_one, h9, hbl], by rw [q4]; exact h10, ?_⟩
  simp only at hw ⊢
  omega
theorem RoomS.not (h : RoomS W w gp gw i n u) (hi : i ≤ 1000) (A : Option Addr) (nb cb : Nat) (b : List UInt8) (hcb : nb ≤ cb) (hcm : cb ≤ 9223372036854775807) (hb : Rd w w.heap.size A nb b) (h4 : nb ≤ 1024) (hf : 192 < u + (10 + nb)) :
    Calls Try.prog 19 #[.pointer (some ⟨gw, 0, none⟩), .slice A nb cb] w fun e w' => e = .returned (.int .i64 5) ∧ RoomS W w' gp gw (i + 1) n u := by
  obtain ⟨gd, M, gr, H, d, s, dr, sr, h1, h2, h3, h4', h5, h6, h7, h8, h9, h10, h11⟩ := h
  have hby : d.bytes = 192 := by simp [Dk.bytes, Dk.half, halfN, h10]
  have hbl := hb.1
  have q1 := append_full (d := d) h6 (b := b) (by omega) (by omega)
  have hc := h1.append A nb cb b (by omega) (by omega) hcb hcm hb
  rw [q1] at hc
  refine hc.mono ?_
  rintro e w' ⟨rfl, H', k1, k2⟩
  exact ⟨rfl, gd, M, gr, H', _, _, dr, sr, k1, k2.ge h3.size h2, h3.trans (k2.kp.below h2 h3.size), h4', h5, h6, h7, h8, h9, h10, by simp only; omega⟩
theorem RoomS.start {gd M : Nat} {H : Nat → Prop} (h1 : Pq w H gp gd M (Dk.new 14).openL.2.2 (Dk.new 14).openL.2.1) (h2 : ∀ k, H k → W.heap.size ≤ k) (h3 : Below W.heap.size W w) : ∃ gw, RoomS W w gp gw 0 0 0 := by
  have hf := fresh_on 14 (by omega)
  have ho := open_again hf rfl
  rw [hf.found] at ho
  rw [ho] at h1
  obtain ⟨gw, gr, hp⟩ := h1.two
  exact ⟨gw, gd, M, gr, H, _, _, _, _, hp, h2, h3, hf, Dk.new_free 14, rfl, rfl, rfl, rfl, by simp [Dk.new], by simp [Dk.new]⟩
end

set_option maxRecDepth 100000 in
set_option maxHeartbeats 8000000 in
theorem walRoom_walk (A : Option Addr) (n c : Nat) (l : List Int) (fill : UInt8) (W : World) (_hc : n ≤ c) (_hm : c ≤ 9223372036854775807) (hl : RdI W W.heap.size A n l) :
    Calls Try.prog 7 #[.slice A n c, .int .u8 (fill.toNat : Int)] W fun e w' => e = .returned (.bool true) ∧ Below W.heap.size W w' := by
  have Hl := Lib.hid hl
  have hll := hl.1
  clear hl
  go_enter Try.func7, Try.ntmps7
  go_wp2_with fail
  refine (start_any 14 W (by omega) (by omega)).mono ?_
  rintro e w1 ⟨gp, gd, M, H, rfl, hq, hge, hb⟩
  obtain ⟨gw, hR⟩ := RoomS.start hq hge hb
  have HR := Lib.hid hR
  clear hq hge hb hR
  go_wp2
  go_loopg [7, 8] n (fun k nv i wr => ∃ j m u : Nat, nv = .int .i64 m ∧ i = .int .i64 j ∧ j + k = n ∧ j ≤ 40 ∧ Hid (RoomS W wr gp gw j m u))
  case atStart => exact ⟨0, 0, 0, rfl, rfl, by omega, by omega, HR⟩
  case round =>
    clear HR
    obtain ⟨j, m, u, rfl, rfl, hk, hj60, Hrun⟩ := hrel
    have hle := Hrun.out.le
    by_cases hj : j < n ∧ j < 40
    · obtain ⟨hj1, hj2⟩ := hj
      have hl2 := Hl.out.below Hrun.out.size
      obtain ⟨b, o, rfl, hb, hact⟩ := hl2.2.2 (by omega)
      have t0 := hact j (by omega)
      have hxb := hl2.2.1 l[j] (List.getElem_mem (by omega))
      obtain ⟨x, hx⟩ : ∃ x, l[j]'(by omega) = x := ⟨_, rfl⟩
      rw [hx] at t0 hxb
      have HB := Lib.hid Hrun.out.size
      have HT0 : Hid (∀ W', Below W.heap.size W W' → W'.cell? ⟨b, o + j, none⟩ = some (.int .i64 x)) := fun W' hb' => by
        have h1 : W.cell? ⟨b, o + j, none⟩ = some (.int .i64 x) := by
          obtain ⟨b', o', e', _, hc'⟩ := Hl.out.2.2 (by omega)
          injection e' with e'
          injection e' with e1 e2
          subst e1 e2
          have := hc' j (by omega)
          rw [hx] at this
          exact this
        exact (hb'.cell (World.block_lt_of_cell? _ _ h1)).trans h1
      clear hact hl2 hx hb
      by_cases hbad : x < 0 ∨ 1024 < x
      · have HB1 := Lib.hid hbad
        by_cases hx0 : x < 0
        all_goals
          first
          | (have hx1 : ¬ x < 0 := hx0; have hx4 : 1024 < x := by omega)
          | skip
          clear hbad
          go_wp2_with fail
          refine (known_any _).mono ?_
          rintro e w3 ⟨rfl, hb3⟩
          have HF := Lib.hid (below_then HB.out hb3)
          clear hb3
          go_wp2
          go_ret
          exact ⟨rfl, HF.out⟩
      · have hx0 : 0 ≤ x := by omega
        have hx1 : x ≤ 1024 := by omega
        obtain ⟨nb, rfl⟩ := Int.eq_ofNat_of_zero_le hx0
        have hbl : bodyLen (nb : Int) = nb := by unfold bodyLen; omega
        have c1 := Hrun.out.cell
        have HC1 := Lib.hid Hrun.out.room
        clear hbad
        go_wp2_with fail
        refine HC1.out.mono ?_
        rintro e w2 ⟨rfl, hb2⟩
        have HR2 := Lib.hid (Hrun.out.below hb2)
        have c2 := HR2.out.cell
        have t2 : w2.cell? ⟨b, o + j, none⟩ = some (.int .i64 (nb : Int)) := (hb2.cell (World.block_lt_of_cell? _ _ t0)).trans t0
        have HC2 : Hid (∀ W', Calls Try.prog 35 #[.int .i64 (nb : Int), .int .u8 (fill.toNat : Int)] W' (BodyP nb W')) := fun W' => by
          have := body_any (nb : Int) fill W' (by omega) (by omega)
          rw [hbl] at this
          exact this
        clear hb2 HC1 c1 t0
        by_cases hf : u + (10 + nb) ≤ 192
        · have HC3 : Hid (∀ W' w3 A' c' lb, Below w2.heap.size w2 W' → w3.ownsRow W'.heap.size 5 1 (.slice A' nb c') nb (u8s lb) → Below W'.heap.size W' w3 → Calls Try.prog 19 #[.pointer (some ⟨gw, 0, none⟩), .slice A' nb c'] w3 fun e w' => e = .returned (.int .i64 0) ∧ RoomS W w' gp gw (j + 1) (m + 1) (u + (10 + nb))) := fun W' w3 A' c' lb hb ho hb3 => by
            obtain ⟨A0, c0, e0, q1, q2⟩ := own_shape ho
            injection e0 with e1 _ e2
            subst e1 e2
            exact ((HR2.out.below hb).below hb3).fits (by omega) A' nb c' lb q1 (by unfold maxLen at q2; omega) (Rd.of_own ho) (by omega) hf
          have HK : Hid (∀ W', Below w2.heap.size w2 W' → W'.cell? ⟨gp, 1, none⟩ = some (.pointer (some ⟨gw, 0, none⟩)) ∧ W'.cell? ⟨b, o + j, none⟩ = some (.int .i64 (nb : Int))) := fun W' hb => ⟨(HR2.out.below hb).cell, (hb.cell (World.block_lt_of_cell? _ _ t2)).trans t2⟩
          go_wp2
          have e1 : w2.drew.cell? ⟨gp, 1, none⟩ = some (.pointer (some ⟨gw, 0, none⟩)) := c2
          have e2 : w2.drew.cell? ⟨b, o + j, none⟩ = some (.int .i64 (nb : Int)) := t2
          go_region_held3 (fun w' => w'.cell? ⟨gp, 1, none⟩ = some (.pointer (some ⟨gw, 0, none⟩)) ∧ w'.cell? ⟨b, o + j, none⟩ = some (.int .i64 (nb : Int))) (first | exact ⟨e1, e2⟩ | exact ⟨k1, k2⟩ | go_keep)
            (first
              | (go_at_call 35; refine (HC2.out _).mono ?_; rintro e w3 ⟨A', c', lb, rfl, hlb, ho, hb3⟩; (obtain ⟨k1, k2⟩ := HK.out w3 (below_then (Below.refl w2.heap.size w2).drew hb3)); (have HT := Lib.hid (HC3.out _ w3 A' c' lb (Below.refl w2.heap.size w2).drew ho hb3)); clear ho hb3 hlb)
              | (go_at_call 19; refine HT.out.mono ?_; rintro e w4 ⟨rfl, hR4⟩; (have k1 := hR4.cell); (have k2 : w4.cell? ⟨b, o + j, none⟩ = some (.int .i64 (nb : Int)) := HT0.out w4 hR4.size); (have HR4 := Lib.hid hR4); clear hR4))
          have hfi : (nb : Int) ≤ ((192 - u : Nat) : Int) - 10 := by omega
          have hsum : ((192 - (u + (10 + nb)) : Nat) : Int) = ((192 - u : Nat) : Int) - (nb : Int) - 10 := by omega
          have HRm : Hid (∀ q, Calls Try.prog 33 #[.pointer (some ⟨gw, 0, none⟩)] (w4.drewN q) fun e w' => e = .returned (.int .i64 (((192 - u : Nat) : Int) - (nb : Int) - 10)) ∧ ∃ m, w' = (w4.drewN q).drewN m) := fun q => by
            have := (HR4.out.below (bel_drewN (Below.refl _ _) q)).roomQ
            rw [hsum] at this
            exact this
          have hz : u ≤ 192 := hle.1
          obtain ⟨R, hR⟩ : ∃ R, 192 - u = R := ⟨_, rfl⟩
          rw [hR] at hfi hsum HRm
          rw [hR]
          have hR192 : R ≤ 192 := by omega
          clear HK HC3 e1 e2 c2 t2 HR2 HT HC2 hbl hsum hR
          have hwr1 : IntKind.i64.wrap ((R : Int) - 10) = (R : Int) - 10 := by rw [IntKind.wrap_i64]; omega
          have hwr2 : IntKind.i64.wrap ((R : Int) - (nb : Int)) = (R : Int) - (nb : Int) := by rw [IntKind.wrap_i64]; omega
          have hwr3 : IntKind.i64.wrap ((R : Int) - (nb : Int) - 10) = (R : Int) - (nb : Int) - 10 := by rw [IntKind.wrap_i64]; omega
          have hdec : decide ((nb : Int) ≤ (R : Int) - 10) = true := decide_eq_true hfi
          go_wp2
          go_quiet ((first | (go_at_call 33; exact Calls.quiet_of (HRm.out _))))
          have HR5 := Lib.hid (HR4.out.below (bel_drewN (Below.refl _ _) nq))
          clear HR4 HRm k1 k2
          go_wp2
          go_roundg (gk - 1)
          case measure => omega
          case rel => exact ⟨j + 1, m + 1, u + (10 + nb), by go_num, by go_num, by omega, by omega, HR5⟩
        · have HC3 : Hid (∀ W' w3 A' c' lb, Below w2.heap.size w2 W' → w3.ownsRow W'.heap.size 5 1 (.slice A' nb c') nb (u8s lb) → Below W'.heap.size W' w3 → Calls Try.prog 19 #[.pointer (some ⟨gw, 0, none⟩), .slice A' nb c'] w3 fun e w' => e = .returned (.int .i64 5) ∧ RoomS W w' gp gw (j + 1) m u) := fun W' w3 A' c' lb hb ho hb3 => by
            obtain ⟨A0, c0, e0, q1, q2⟩ := own_shape ho
            injection e0 with e1 _ e2
            subst e1 e2
            exact ((HR2.out.below hb).below hb3).not (by omega) A' nb c' lb q1 (by unfold maxLen at q2; omega) (Rd.of_own ho) (by omega) (by omega)
          have HK : Hid (∀ W', Below w2.heap.size w2 W' → W'.cell? ⟨gp, 1, none⟩ = some (.pointer (some ⟨gw, 0, none⟩)) ∧ W'.cell? ⟨b, o + j, none⟩ = some (.int .i64 (nb : Int))) := fun W' hb => ⟨(HR2.out.below hb).cell, (hb.cell (World.block_lt_of_cell? _ _ t2)).trans t2⟩
          go_wp2
          have e1 : w2.drew.cell? ⟨gp, 1, none⟩ = some (.pointer (some ⟨gw, 0, none⟩)) := c2
          have e2 : w2.drew.cell? ⟨b, o + j, none⟩ = some (.int .i64 (nb : Int)) := t2
          go_region_held3 (fun w' => w'.cell? ⟨gp, 1, none⟩ = some (.pointer (some ⟨gw, 0, none⟩)) ∧ w'.cell? ⟨b, o + j, none⟩ = some (.int .i64 (nb : Int))) (first | exact ⟨e1, e2⟩ | exact ⟨k1, k2⟩ | go_keep)
            (first
              | (go_at_call 35; refine (HC2.out _).mono ?_; rintro e w3 ⟨A', c', lb, rfl, hlb, ho, hb3⟩; (obtain ⟨k1, k2⟩ := HK.out w3 (below_then (Below.refl w2.heap.size w2).drew hb3)); (have HT := Lib.hid (HC3.out _ w3 A' c' lb (Below.refl w2.heap.size w2).drew ho hb3)); clear ho hb3 hlb)
              | (go_at_call 19; refine HT.out.mono ?_; rintro e w4 ⟨rfl, hR4⟩; (have k1 := hR4.cell); (have k2 : w4.cell? ⟨b, o + j, none⟩ = some (.int .i64 (nb : Int)) := HT0.out w4 hR4.size); (have HR4 := Lib.hid hR4); clear hR4))
          have hfi : ¬ (nb : Int) ≤ ((192 - u : Nat) : Int) - 10 := by have := hle.1; omega
          have HRm : Hid (∀ q, Calls Try.prog 33 #[.pointer (some ⟨gw, 0, none⟩)] (w4.drewN q) fun e w' => e = .returned (.int .i64 ((192 - u : Nat) : Int)) ∧ ∃ m, w' = (w4.drewN q).drewN m) := fun q => by
            have := (HR4.out.below (bel_drewN (Below.refl _ _) q)).roomQ
            exact this
          have hz : u ≤ 192 := hle.1
          obtain ⟨R, hR⟩ : ∃ R, 192 - u = R := ⟨_, rfl⟩
          rw [hR] at hfi HRm
          rw [hR]
          have hR192 : R ≤ 192 := by omega
          clear HK HC3 e1 e2 c2 t2 HR2 HT HC2 hbl hR
          have hwr1 : IntKind.i64.wrap ((R : Int) - 10) = (R : Int) - 10 := by rw [IntKind.wrap_i64]; omega
          have hwr2 : IntKind.i64.wrap ((R : Int) - (nb : Int)) = (R : Int) - (nb : Int) := by rw [IntKind.wrap_i64]; omega
          have hwr3 : IntKind.i64.wrap ((R : Int) - (nb : Int) - 10) = (R : Int) - (nb : Int) - 10 := by rw [IntKind.wrap_i64]; omega
          have hdec : decide ((nb : Int) ≤ (R : Int) - 10) = false := decide_eq_false hfi
          go_wp2
          go_quiet ((first | (go_at_call 33; exact Calls.quiet_of (HRm.out _))))
          have HR5 := Lib.hid (HR4.out.below (bel_drewN (Below.refl _ _) nq))
          clear HR4 HRm k1 k2
          go_wp2
          go_roundg (gk - 1)
          case measure => omega
          case rel => exact ⟨j + 1, m, u, rfl, by go_num, by omega, by omega, HR5⟩
    · have c1 := Hrun.out.cell
      have HQ1 := Lib.hid Hrun.out.records
      by_cases hjn1 : j < n
      all_goals by_cases hj5 : j < 40
      all_goals first
        | (exfalso; omega)
        | (clear hj
           go_wp2_with fail
           refine HQ1.out.mono ?_
           rintro e w2 ⟨⟨A2, c2, rfl⟩, hb2⟩
           have HR2 := Lib.hid (Hrun.out.below hb2)
           have c2 := HR2.out.cell
           have HQ2 := Lib.hid HR2.out.safe
           have HB2 := Lib.hid HR2.out.size
           clear hb2 HQ1 Hrun c1
           go_wp2_with fail
           refine HQ2.out.mono ?_
           rintro e w3 ⟨rfl, rfl⟩
           clear HQ2 HR2 c2
           go_wp2_with fail
           refine (known_any _).mono ?_
           rintro e w3 ⟨rfl, hb3⟩
           have HF := Lib.hid (below_then HB2.out hb3)
           clear hb3
           go_wp2
           go_ret
           exact ⟨rfl, HF.out⟩)
namespace walRoom
set_option maxRecDepth 100000 in
theorem lifted (os : Os) (started : os.Started) (H : Type) (enc : TypeId × Value → H) :
    ReturnsInHanded {} Try.checked os 7 .any (Rows.walRoomSpec.pre6 enc Try.prog Try.f7 Rows.walRoomRow.domain false) (Rows.walRoomSpec.post enc Try.prog Try.f7 false true false false) := by
  refine law_lift started (by kernel_rfl) Try.func7
    (ChangeSpec.witness6 (enc := enc) (C := Try.checked) false ⟨#[], #[.slice none 0 0, .int .u8 0], []⟩ 8 (by kernel_rfl) (by kernel_rfl) (by kernel_rfl) (by kernel_rfl))
    rfl ?_ (by kernel_rfl) (by kernel_rfl) ?_
  · intro ds h
    match ds, h with
    | [_, _], _ => rfl
  intro W base args ds p g
  have hA := g.trod
  have hval := g.val
  rw [Try.params7] at hA hval
  obtain ⟨v0, vs0, d0, ds0, p0, q0, hargs, rfl, rfl, h0, r0⟩ := trodAll_cons hA
  obtain ⟨v1, vs1, d1, ds1, p1, q1, rfl, rfl, rfl, h1, r1⟩ := trodAll_cons r0
  obtain ⟨rfl, rfl, rfl⟩ := trodAll_nil r1
  obtain rfl : args = #[v0, v1] := by cases args; simp_all
  obtain ⟨A0, n0, c0, l0, rfl, hc0, hm0, hr0⟩ := given_ints (hval 0 29 v0 rfl rfl) h0
  obtain ⟨a1, rfl, _, _, w1⟩ := open_int Try.underlying5 (hval 1 5 v1 rfl rfl) h1
  have b1 := bounds_u8 w1
  obtain ⟨m1, rfl⟩ := Int.eq_ofNat_of_zero_le b1.1
  obtain ⟨k1, rfl⟩ : ∃ k : UInt8, m1 = k.toNat := ⟨UInt8.ofNat m1, by rw [UInt8.toNat_ofNat']; omega⟩
  exact walRoom_walk A0 n0 c0 l0 k1 W hc0 hm0 hr0

theorem over : Rows.walRoomRow.holds Try.pinned (OpenSpec.ofChange Rows.walRoomSpec) :=
  OpenClaim.holds_of_wide 7 Try.f7 rfl rfl rfl rfl rfl rfl rfl ⟨rfl, rfl, rfl, rfl, rfl⟩ rfl rfl rfl rfl rfl (by kernel_rfl) Try.func7 (by kernel_rfl)
    (of_decide_eq_true (by kernel_rfl)) (by unfold Func.isWrapper; first | (rw [if_pos (by decide +kernel)]; kernel_rfl) | (rw [if_neg (by decide +kernel)]; exact ⟨rfl, rfl⟩))
    (fun os started H enc _ => lifted os started H enc)
end walRoom

theorem WalRoom_proved : Rows.WalRoomSaid := walRoom.over
#print axioms WalRoom_proved
end Go.Proofs.Ytpfccbojllabjaa
