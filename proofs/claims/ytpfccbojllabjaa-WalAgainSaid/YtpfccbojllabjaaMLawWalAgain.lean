/- WalAgain: opening a log once more, whatever was done to it, changes nothing: neither its records nor its room. Of every row of acts: no condition. -/
import Derived.Test.YtpfccbojllabjaaMWGiven
namespace Go.Proofs.Ytpfccbojllabjaa
open Go.ChangeShapes Go.WideShapes Go.ChangeAt Go.RowKit

/-- The program's disk and some logs that were opened on it; the pair at gp knows the disk. -/
def AG (W w : World) (gp gd : Nat) (d : Dk) (logs : List (Nat × Lg)) (φ : World → Prop) : Prop :=
  ∃ F, (∃ G : Nat → Prop, (∀ k, F k → ¬ G k) ∧ (∀ k, G k → k < w.heap.size) ∧ φ w ∧ ∀ (a b : World) (K : Nat → Prop), φ a → Kp K a b → (∀ k, G k → ¬ K k) → φ b) ∧ PD w F gd d ∧ ¬ F gp ∧ (∀ k, F k → W.heap.size ≤ k) ∧ Below W.heap.size W w ∧ w.cell? ⟨gp, 0, none⟩ = some (.pointer (some ⟨gd, 0, none⟩)) ∧ ∀ x ∈ logs, ∃ G, PWl w G x.1 gd d.bytes x.2 ∧ ∀ k, F k → ¬ G k
section
variable {W w w' : World} {gp gd : Nat} {d d' : Dk} {logs : List (Nat × Lg)} {φ : World → Prop}
theorem AG.below (h : AG W w gp gd d logs φ) (hb : Below w.heap.size w w') : AG W w' gp gd d logs φ := by
  obtain ⟨F, ⟨GG, y1, y2, y3, y4⟩, h1, h2, h3, h4, h5, h6⟩ := h
  exact ⟨F, ⟨GG, y1, fun k e => Nat.lt_of_lt_of_le (y2 k e) hb.size, y4 _ _ (fun _ => False) y3 (Kp.of_below hb) (fun _ _ e => e), y4⟩, h1.below hb, h2, h3, h4.trans (hb.mono h4.size), (hb.cell (World.block_lt_of_cell? _ _ h5)).trans h5, fun x hx => by obtain ⟨G, q1, q2⟩ := h6 x hx; exact ⟨G, q1.below hb, q2⟩⟩
theorem AG.cell (h : AG W w gp gd d logs φ) : w.cell? ⟨gp, 0, none⟩ = some (.pointer (some ⟨gd, 0, none⟩)) := by
  obtain ⟨F, ⟨GG, y1, y2, y3, y4⟩, h1, h2, h3, h4, h5, h6⟩ := h
  exact h5
theorem AG.size (h : AG W w gp gd d logs φ) : Below W.heap.size W w := by
  obtain ⟨F, ⟨GG, y1, y2, y3, y4⟩, h1, h2, h3, h4, h5, h6⟩ := h
  exact h4
theorem AG.crash0 (h : AG W w gp gd d logs φ) (hwl : d.waits.length ≤ 1000000000) : Calls Try.prog 14 #[.pointer (some ⟨gd, 0, none⟩), .slice none 0 0] w fun e w' => e = .returned (.tuple #[]) ∧ AG W w' gp gd (d.crash []) logs φ := by
  obtain ⟨F, ⟨GG, y1, y2, y3, y4⟩, h1, h2, h3, h4, h5, h6⟩ := h
  refine (crash_any gd d F none 0 0 [] w (by omega) hwl (RdI.nil _ _ _) (fun h => by omega) h1).mono ?_
  rintro e w' ⟨rfl, F', q1, q2⟩
  have hg := World.block_lt_of_cell? _ _ h5
  refine ⟨rfl, F', ⟨GG, fun k e e2 => by rcases q2.new k e with h | h; exact y1 k h e2; have := y2 k e2; omega, fun k e => Nat.lt_of_lt_of_le (y2 k e) q2.kp.size, y4 _ _ F y3 q2.kp (fun k e e2 => y1 k e2 e), y4⟩, q1, fun e => ?_, q2.ge h4.size h3, h4.trans (q2.kp.below h3 h4.size), cell_kp h5 q2.kp h2, fun x hx => ?_⟩
  · rcases q2.new _ e with h | h
    · exact h2 h
    · have : gp < w.heap.size := hg; omega
  · obtain ⟨G, k1, k2⟩ := h6 x hx
    refine ⟨G, by rw [bytes_of (Dk.crash_len d [])]; exact k1.kp q2.kp (fun k e e2 => k2 k e2 e), fun k e e2 => ?_⟩
    rcases q2.new k e with h | h
    · exact k2 k h e2
    · have := k1.lt k e2; omega
theorem AG.opened {s : Lg} (h : AG W w gp gd d logs φ) (hwl : d.waits.length ≤ 900000000) (ho : d.openL = (0, some s, d')) : Calls Try.prog 32 #[.pointer (some ⟨gd, 0, none⟩)] w fun e w' => ∃ g, e = .returned (.tuple #[.pointer (some ⟨g, 0, none⟩), .int .i64 0]) ∧ AG W w' gp gd d' ((g, s) :: logs) φ := by
  have hl := openL_len d
  rw [ho] at hl
  obtain ⟨F, ⟨GG, y1, y2, y3, y4⟩, h1, h2, h3, h4, h5, h6⟩ := h
  refine (open_any gd d F w hwl h1).mono ?_
  rintro e w' ⟨F', q1, q2, hx⟩
  rw [ho] at q1 hx
  have hg := World.block_lt_of_cell? _ _ h5
  rcases hx with ⟨e1, _⟩ | ⟨s', g, G, e1, rfl, hw, hG, hGF⟩
  · cases e1
  · injection e1 with e1
    subst e1
    refine ⟨g, rfl, F', ⟨GG, fun k e e2 => by rcases q2.new k e with h | h; exact y1 k h e2; have := y2 k e2; omega, fun k e => Nat.lt_of_lt_of_le (y2 k e) q2.kp.size, y4 _ _ F y3 q2.kp (fun k e e2 => y1 k e2 e), y4⟩, q1, fun e => ?_, q2.ge h4.size h3, h4.trans (q2.kp.below h3 h4.size), cell_kp h5 q2.kp h2, fun x hx => ?_⟩
    · rcases q2.new _ e with h | h
      · exact h2 h
      · have : gp < w.heap.size := hg; omega
    · rcases List.mem_cons.1 hx with rfl | hx
      · exact ⟨G, by rw [bytes_of hl]; exact hw, fun k e e2 => hGF k e2 e⟩
      · obtain ⟨G', k1, k2⟩ := h6 x hx
        refine ⟨G', by rw [bytes_of hl]; exact k1.kp q2.kp (fun k e e2 => k2 k e2 e), fun k e e2 => ?_⟩
        rcases q2.new k e with h | h
        · exact k2 k h e2
        · have := k1.lt k e2; omega
theorem AG.pb {g : Nat} {s : Lg} (h : AG W w gp gd d logs φ) (hm : (g, s) ∈ logs) : ∃ H, PB w H g gd d s := by
  obtain ⟨F, ⟨GG, y1, y2, y3, y4⟩, h1, h2, h3, h4, h5, h6⟩ := h
  obtain ⟨G, q1, q2⟩ := h6 _ hm
  refine ⟨fun k => F k ∨ G k, F, G, h1, q1, q2, fun k e => .inl e, fun k e => .inr e, ?_⟩
  rintro k (e | e)
  · exact h1.lt k e
  · exact q1.lt k e
theorem AG.waiting (h : AG W w gp gd d logs φ) : Calls Try.prog 34 #[.pointer (some ⟨gd, 0, none⟩)] w fun e w' => e = .returned (.int .i64 d.waits.length) ∧ w = w' := by
  obtain ⟨F, _, h1, _⟩ := h
  exact waiting_meth gd d F w h1
theorem AG.start {M : Nat} {d2 : Dk} (h : RunD W w gp gd M d d2) : AG W w gp gd d [] (fun _ => True) := by
  obtain ⟨H, ⟨F1, F2, vw, vr, h1, h2, h3, h4, h5, h6, h7, _⟩, k1, k2⟩ := h
  exact ⟨F1, ⟨fun _ => False, fun _ _ e => e, fun _ e => e.elim, trivial, fun _ _ _ _ _ _ => trivial⟩, h2, h5, fun k e => k1 k (h7 k e), k2, h1.cell 0, fun x hx => by simp at hx⟩
/-- A list that was told since is kept, too. -/
theorem AG.keep (h : AG W w gp gd d logs φ) {A : Option Addr} {n c : Nat} {vals : List Value} {L : List (List UInt8)} (ho : w'.ownsRow w.heap.size 40 1 (.slice A n c) n vals) (hf : Fam w' w.heap.size vals L) (hb : Below w.heap.size w w') :
    AG W w' gp gd d logs (fun x => x.ownsRow w.heap.size 40 1 (.slice A n c) n vals ∧ Fam x w.heap.size vals L) := by
  have h0 := h.below hb
  obtain ⟨F, _, h1, h2, h3, h4, h5, h6⟩ := h
  obtain ⟨F0, ⟨GG, y1, y2, y3, y4⟩, k1, k2, k3, k4, k5, k6⟩ := h0
  have hlt := h1.lt
  refine ⟨F, ⟨fun k => w.heap.size ≤ k ∧ k < w'.heap.size, fun k e e2 => by have := hlt k e; omega, fun k e => e.2, ⟨ho, hf⟩, fun a b K q1 q2 q3 => ⟨own_kp q1.1 q2 (fun k e => q3 k (ho.lt k e)), ⟨q1.2.len, fun i v hv => own_kp (q1.2.each i v hv) q2 (fun k e => q3 k ((hf.each i v hv).lt k e)), q1.2.apart⟩⟩⟩, h1.below hb, h2, h3, k4, k5, fun x hx => by obtain ⟨G, q1, q2⟩ := h6 x hx; exact ⟨G, q1.below hb, q2⟩⟩
theorem AG.kept (h : AG W w gp gd d logs φ) : φ w := by
  obtain ⟨F, ⟨GG, y1, y2, y3, y4⟩, _⟩ := h
  exact y3
end
/-- A disk behind a crash: it is opened, and once more, and behind another crash. -/
theorem again_disks (d : Dk) (hok : d.Ok) (h6 : 6 ≤ d.safe.length) : ∃ s s' d2, (d.crash []).openL = (0, some s, d2) ∧ d2.openL = (0, some s', d2) ∧ d2.crash [] = d2 ∧ d2.waits = [] ∧ d2.safe.length = d.safe.length ∧ s.gone = false ∧ s'.gone = false ∧ s'.recs = s.recs ∧ s'.safe = s.recs.length := by
  have hl := Dk.crash_len d []
  obtain ⟨d2, h1, h2, h3, h4, h5, h6'⟩ := open_free (Dk.crash_ok hok []) (by omega) (Dk.crash_free d [])
  have hw := h5 rfl
  have ha := open_again h3 h2.1
  have hf := h3.found
  rw [hf] at ha
  exact ⟨_, _, d2, h1, ha, Dk.crash_same h2 hw [], hw, by omega, rfl, rfl, rfl, rfl⟩

set_option maxRecDepth 100000 in
set_option maxHeartbeats 8000000 in
theorem walAgain_walk (A : Option Addr) (n c : Nat) (f : Nat → Ac4) (W : World) (_hc : n ≤ c) (_hm : c ≤ 9223372036854775807) (hf : Acts4 W W.heap.size A n f) :
    Calls Try.prog 6 #[.slice A n c] W fun e w' => e = .returned (.bool true) ∧ Below W.heap.size W w' := by
  have Hf := Lib.hid hf
  clear hf
  go_enter Try.func6, Try.ntmps6
  go_wp2_with fail
  refine (start_any 12 W (by omega) (by omega)).mono ?_
  rintro e w1 ⟨gp, gd, M, H, rfl, hq, hge, hb⟩
  have HR := Lib.hid (RunW.start hq hge hb)
  clear hq hge hb
  go_wp2
  go_loopg [5] n (fun k i wr => ∃ j : Nat, i = .int .i64 j ∧ j + k = n ∧ j ≤ 40 ∧ Hid (RunW W wr gp gd M j 12))
  case atStart => exact ⟨0, rfl, by omega, by omega, HR⟩
  case round =>
    clear HR
    obtain ⟨j, rfl, hk, hj60, Hrun⟩ := hrel
    by_cases hj : j < n ∧ j < 40
    · obtain ⟨hj1, hj2⟩ := hj
      obtain ⟨b, o, rfl, hb, hact⟩ := (Hf.out.up Hrun.out.size) (by omega)
      obtain ⟨hok, t0, t1, t2, t3, t4⟩ := hact j hj1
      have hok0 : (f j).Ok W W.heap.size := by
        obtain ⟨b', o', e', hb', hact'⟩ := Hf.out (by omega)
        exact (hact' j hj1).1
      have HC0 := Lib.hid (heavy_any (f j).la (f j).ln (f j).lc _ (f j).list wr (by have := hok.lcap; omega) hok.list)
      have HC1 : Hid (∀ W', Below wr.heap.size wr W' → Calls Try.prog 12 #[.pointer (some ⟨gp, 0, none⟩), .agg #[.int .i64 (f j).kind, .int .i64 (f j).n, .int .u8 ((f j).fill.toNat : Int), .slice (f j).la (f j).ln (f j).lc, .slice (f j).ka (f j).kn (f j).kc]] W' fun e w' => e = .returned (.bool true) ∧ RunW W w' gp gd M (j + 1) 12) := fun W' hb' => (Hrun.out.below hb').play (by omega) (f j) hok0
      have HB := Lib.hid Hrun.out.size
      have Hb := Lib.hid hb
      clear hact hok hok0 hb
      go_wp2_with fail
      refine HC0.out.mono ?_
      rintro e w2 ⟨hv, rfl, _, q, rfl⟩
      have HB2 : Hid (Below W.heap.size W (wr.drewN q)) := bel_drewN HB.out q
      have hbq : Below wr.heap.size wr (wr.drewN q) := bel_drewN (Below.refl _ _) q
      have HC2 := Lib.hid (HC1.out _ hbq)
      clear HC0 HC1 hbq
      have t1' : (wr.drewN q).cell? ⟨b, o + j * 5 + 1, none⟩ = some (.int .i64 (f j).n) := t1
      have t0' : (wr.drewN q).cell? ⟨b, o + j * 5, none⟩ = some (.int .i64 (f j).kind) := t0
      have t2' : (wr.drewN q).cell? ⟨b, o + j * 5 + 2, none⟩ = some (.int .u8 ((f j).fill.toNat : Int)) := t2
      have t3' : (wr.drewN q).cell? ⟨b, o + j * 5 + 3, none⟩ = some (.slice (f j).la (f j).ln (f j).lc) := t3
      have t4' : (wr.drewN q).cell? ⟨b, o + j * 5 + 4, none⟩ = some (.slice (f j).ka (f j).kn (f j).kc) := t4
      clear t0 t1 t2 t3 t4 HB
      cases hv with
      | true =>
        go_wp2_with fail
        refine (known_any _).mono ?_
        rintro e w3 ⟨rfl, hb3⟩
        have HF := Lib.hid (below_then HB2.out hb3)
        clear hb3
        go_wp2
        go_ret
        exact ⟨rfl, HF.out⟩
      | false =>
        by_cases hn : 1030 < (f j).n
        · go_wp2_with fail
          refine (known_any _).mono ?_
          rintro e w3 ⟨rfl, hb3⟩
          have HF := Lib.hid (below_then HB2.out hb3)
          clear hb3
          go_wp2
          go_ret
          exact ⟨rfl, HF.out⟩
        · go_wp2_with fail
          refine HC2.out.mono ?_
          rintro e w3 ⟨rfl, hr3⟩
          have HR4 := Lib.hid hr3
          clear hr3 HC2 t0' t1' t2' t3' t4'
          go_wp2
          go_roundg (gk - 1)
          case measure => omega
          case rel => exact ⟨j + 1, by go_num, by omega, by omega, HR4⟩
    · obtain ⟨d, hD, hdl, hdw⟩ := Hrun.out.disks
      have hdok : d.Ok := by
        obtain ⟨H', h2, _⟩ := hD
        exact h2.both.ok
      have hA := AG.start hD
      obtain ⟨s, s', d2, a1, a2, a3, a4, a5, a6, a7, a8, a9⟩ := again_disks d hdok (by omega)
      have HA1 := Lib.hid a1
      have HA2 := Lib.hid a2
      have HA3 := Lib.hid a3
      have hL : s.tellL = s.recs := by unfold Lg.tellL; rw [a6]; rfl
      have hL' : s'.tellL = s.recs := by unfold Lg.tellL; rw [a7, a8]; rfl
      have hR : s.tellR d2 = d2.bytes - usedF s.recs := by unfold Lg.tellR Lg.room; rw [a6]; rfl
      have hR' : s'.tellR d2 = d2.bytes - usedF s.recs := by unfold Lg.tellR Lg.room; rw [a7, a8]; rfl
      have hN' : s'.tellN = s.recs.length := by unfold Lg.tellN; rw [a7, a9]; rfl
      have HA := Lib.hid hA
      have c0 := hA.cell
      have HC1 := Lib.hid (hA.crash0 (by omega))
      clear hD hA hdok a1 a2 a3 Hrun
      have hkk : s.recs.length ≤ 9223372036854775807 → True := fun _ => trivial
      by_cases hjn1 : j < n
      all_goals by_cases hj5 : j < 40
      all_goals first
        | (exfalso; omega)
        | (clear hj
           go_wp2_with fail
           refine HC1.out.mono ?_
           rintro e w2 ⟨rfl, h2⟩
           have c2 := h2.cell
           have HC2 := Lib.hid (h2.opened (by simp [Dk.crash]) HA1.out)
           clear h2 HC1 c0
           go_wp2_with fail
           refine HC2.out.mono ?_
           rintro e w3 ⟨g3, rfl, h3⟩
           have H3 := Lib.hid h3
           obtain ⟨Hb3, hb3⟩ := h3.pb (List.mem_cons_self ..)
           have hrec := records_any g3 gd d2 s Hb3 w3 hb3
           rw [hL] at hrec
           have HC3 := Lib.hid hrec
           clear h3 hb3 hrec HC2 c2
           go_wp2_with fail
           refine HC3.out.mono ?_
           rintro e w4 ⟨A4, c4, vals4, rfl, ho4, hf4, hb4⟩
           have H4 := Lib.hid (H3.out.keep ho4 hf4 hb4)
           have hll4 : s.recs.length ≤ c4 ∧ c4 ≤ 9223372036854775807 := by
             obtain ⟨Ax, cx, ex, q1, q2⟩ := own_shape ho4
             injection ex with _ _ e3
             subst e3
             unfold maxLen at q2
             exact ⟨q1, q2⟩
           obtain ⟨Hb4, hb4'⟩ := H4.out.pb (List.mem_cons_self ..)
           have hrm := roomW_any g3 gd d2 s Hb4 w4 hb4'
           rw [hR] at hrm
           have HC4 := Lib.hid hrm
           clear ho4 hf4 hb4 hb4' hrm HC3 H3
           go_wp2_with fail
           refine HC4.out.mono ?_
           rintro e w5 ⟨rfl, hb5⟩
           have h5 := H4.out.below hb5
           have c5 := h5.cell
           have HC5 := Lib.hid (h5.opened (by rw [a4]; simp) HA2.out)
           clear h5 hb5 HC4 H4
           go_wp2_with fail
           refine HC5.out.mono ?_
           rintro e w6 ⟨g6, rfl, h6⟩
           have c6 := h6.cell
           have hwt := h6.waiting
           rw [a4] at hwt
           have H6 := Lib.hid h6
           have HC6 := Lib.hid hwt
           clear h6 hwt HC5 c5
           go_wp2_with fail
           refine HC6.out.mono ?_
           rintro e w7 ⟨rfl, rfl⟩
           have hcr := H6.out.crash0 (by rw [a4]; simp)
           rw [HA3.out] at hcr
           have HC7 := Lib.hid hcr
           clear hcr HC6
           go_wp2_with fail
           refine HC7.out.mono ?_
           rintro e w8 ⟨rfl, h8⟩
           have c8 := h8.cell
           have HC8 := Lib.hid (h8.opened (by rw [a4]; simp) HA2.out)
           clear h8 HC7 H6 c6
           go_wp2_with fail
           refine HC8.out.mono ?_
           rintro e w9 ⟨g9, rfl, h9⟩
           have H9 := Lib.hid h9
           have hm6 : (g6, s') ∈ (g9, s') :: (g6, s') :: (g3, s) :: ([] : List (Nat × Lg)) := List.mem_cons_of_mem _ (List.mem_cons_self ..)
           have hm9 : (g9, s') ∈ (g9, s') :: (g6, s') :: (g3, s) :: ([] : List (Nat × Lg)) := List.mem_cons_self ..
           have Hm6 := Lib.hid hm6
           have Hm9 := Lib.hid hm9
           obtain ⟨Hb9, hb9⟩ := h9.pb hm6
           have hrec := records_any g6 gd d2 s' Hb9 w9 hb9
           rw [hL'] at hrec
           have HC9 := Lib.hid hrec
           clear h9 hb9 hrec HC8 c8 hm6 hm9
           go_wp2_with fail
           refine HC9.out.mono ?_
           rintro e w10 ⟨A10, c10, vals10, rfl, ho10, hf10, hb10⟩
           have H10 := Lib.hid (H9.out.below hb10)
           have hsl := sameLists_any A10 A4 s.recs.length c10 s.recs.length c4 _ _ s.recs s.recs w10 (by omega) (by omega) (told_parts rfl ho10 hf10) (told_parts rfl H10.out.kept.1 H10.out.kept.2)
           rw [beq_self_eq_true] at hsl
           have HC10 := Lib.hid hsl
           clear ho10 hf10 hb10 hsl HC9 H9
           go_wp2_with fail
           refine HC10.out.mono ?_
           rintro e w11 ⟨rfl, q11, rfl⟩
           have H11 := Lib.hid (H10.out.below (bel_drewN (Below.refl _ _) q11))
           obtain ⟨Hb11, hb11⟩ := H11.out.pb Hm6.out
           have hrm := roomW_any g6 gd d2 s' Hb11 _ hb11
           rw [hR'] at hrm
           have HC11 := Lib.hid hrm
           clear hb11 hrm HC10 H10
           go_wp2_with fail
           refine HC11.out.mono ?_
           rintro e w12 ⟨rfl, hb12⟩
           have H12 := Lib.hid (H11.out.below hb12)
           obtain ⟨Hb12, hb12'⟩ := H12.out.pb Hm9.out
           have hrec := records_any g9 gd d2 s' Hb12 w12 hb12'
           rw [hL'] at hrec
           have HC12 := Lib.hid hrec
           clear hb12 hb12' hrec HC11 H11
           go_wp2_with fail
           refine HC12.out.mono ?_
           rintro e w13 ⟨A13, c13, vals13, rfl, ho13, hf13, hb13⟩
           have H13 := Lib.hid (H12.out.below hb13)
           have hsl := sameLists_any A13 A4 s.recs.length c13 s.recs.length c4 _ _ s.recs s.recs w13 (by omega) (by omega) (told_parts rfl ho13 hf13) (told_parts rfl H13.out.kept.1 H13.out.kept.2)
           rw [beq_self_eq_true] at hsl
           have HC13 := Lib.hid hsl
           clear ho13 hf13 hb13 hsl HC12 H12
           go_wp2_with fail
           refine HC13.out.mono ?_
           rintro e w14 ⟨rfl, q14, rfl⟩
           have H14 := Lib.hid (H13.out.below (bel_drewN (Below.refl _ _) q14))
           obtain ⟨Hb14, hb14⟩ := H14.out.pb Hm9.out
           have hsf := safe_any g9 gd d2 s' Hb14 _ hb14
           rw [hN'] at hsf
           have HC14 := Lib.hid hsf
           have HB14 := Lib.hid H14.out.size
           clear hb14 hsf HC13 H13
           go_wp2_with fail
           refine HC14.out.mono ?_
           rintro e w15 ⟨rfl, rfl⟩
           clear HC14 H14
           go_wp2_with fail
           refine (known_any _).mono ?_
           rintro e w16 ⟨rfl, hb16⟩
           have HF := Lib.hid (below_then HB14.out hb16)
           clear hb16
           go_wp2
           go_ret
           exact ⟨rfl, HF.out⟩)
namespace walAgain
set_option maxRecDepth 100000 in
theorem lifted (os : Os) (started : os.Started) (H : Type) (enc : TypeId × Value → H) :
    ReturnsInHanded {} Try.checked os 6 .any (Rows.walAgainSpec.pre6 enc Try.prog Try.f6 Rows.walAgainRow.domain false) (Rows.walAgainSpec.post enc Try.prog Try.f6 false true false false) := by
  refine law_lift started (by kernel_rfl) Try.func6
    (ChangeSpec.witness6 (enc := enc) (C := Try.checked) false ⟨#[], #[.slice none 0 0], []⟩ 8 (by kernel_rfl) (by kernel_rfl) (by kernel_rfl) (by kernel_rfl))
    rfl ?_ (by kernel_rfl) (by kernel_rfl) ?_
  · intro ds h
    match ds, h with
    | [_], _ => rfl
  intro W base args ds p g
  have hA := g.trod
  have hval := g.val
  rw [Try.params6] at hA hval
  obtain ⟨v0, vs0, d0, ds0, p0, q0, hargs, rfl, rfl, h0, r0⟩ := trodAll_cons hA
  obtain ⟨rfl, rfl, rfl⟩ := trodAll_nil r0
  obtain rfl : args = #[v0] := by cases args; simp_all
  obtain ⟨A0, n0, c0, f0, rfl, hc0, hm0, hr0⟩ := given_acts4 (hval 0 22 v0 rfl rfl) h0
  exact walAgain_walk A0 n0 c0 f0 W hc0 hm0 hr0

theorem over : Rows.walAgainRow.holds Try.pinned (OpenSpec.ofChange Rows.walAgainSpec) :=
  OpenClaim.holds_of_wide 6 Try.f6 rfl rfl rfl rfl rfl rfl rfl ⟨rfl, rfl, rfl, rfl, rfl⟩ rfl rfl rfl rfl rfl (by kernel_rfl) Try.func6 (by kernel_rfl)
    (of_decide_eq_true (by kernel_rfl)) (by unfold Func.isWrapper; first | (rw [if_pos (by decide +kernel)]; kernel_rfl) | (rw [if_neg (by decide +kernel)]; exact ⟨rfl, rfl⟩))
    (fun os started H enc _ => lifted os started H enc)
end walAgain

theorem WalAgain_proved : Rows.WalAgainSaid := walAgain.over
#print axioms WalAgain_proved
end Go.Proofs.Ytpfccbojllabjaa
