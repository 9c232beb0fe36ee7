/- The program's proposer: Propose. -/
import Derived.Test.YthkkkldkpdkabaaProF
namespace Go.Proofs.Ythkkkldkpdkabaa
open Go.RowKit Go.Maps

/-- What Propose gives: a vote whose value is the caller's own, and an error. -/
def ProposeR (w : World) (F : Nat → Prop) (g : Nat) (r : Int × Vt × Pp) (e : Ending) (w' : World) : Prop :=
  ∃ (F' : Nat → Prop) (v : Value), e = .returned (.tuple #[vtV r.2.1 v, .int .i64 r.1]) ∧ w'.ownsRow w.heap.size 5 1 v r.2.1.val.length (u8s r.2.1.val) ∧ PPM w' F' g r.2.2 ∧ Mv F F' w w' ∧ ∀ k, v.ownBlock = some k → ¬ F' k
theorem st4P (w : World) (B : Nat) (a b c d : Value) : Kp (fun j => j = B) w ((((w.setCell ⟨B, 0, none⟩ a).setCell ⟨B, 1, none⟩ b).setCell ⟨B, 2, none⟩ c).setCell ⟨B, 3, none⟩ d) :=
  (((Kp.set_ (F := fun j => j = B) (p := ⟨B, 0, none⟩) rfl _).trans (Kp.set_ (F := fun j => j = B) (p := ⟨B, 1, none⟩) rfl _)).trans (Kp.set_ (F := fun j => j = B) (p := ⟨B, 2, none⟩) rfl _)).trans (Kp.set_ (F := fun j => j = B) (p := ⟨B, 3, none⟩) rfl _)
theorem Bk.s4P {w : World} {B : Nat} {t : TypeId} {x0 x1 x2 x3 : Value} (h : Bk w B t #[x0, x1, x2, x3]) (a b c d : Value) : Bk ((((w.setCell ⟨B, 0, none⟩ a).setCell ⟨B, 1, none⟩ b).setCell ⟨B, 2, none⟩ c).setCell ⟨B, 3, none⟩ d) B t #[a, b, c, d] := (((h.set_ 0 a).set_ 1 b).set_ 2 c).set_ 3 d
def vt0 : Array Value := #[.int .u64 0, .int .u64 0, .int .i64 0, .slice none 0 0]
section
variable {w : World} {F : Nat → Prop} {g bt bp n c : Nat} {A : Option Addr} {p : Pp} {ts : List Tle} {ps : List Pze}
theorem ProposeR_none (h : PPm w F g bt bp A n c p ts ps) {w' : World} (hb : Kp (fun j => j = w.heap.size) w w') {E : Int} {r : Int × Vt × Pp} (hr : r = (E, ⟨0, Bl.zero, []⟩, p)) : ProposeR w F g r (.returned (.tuple #[.agg #[.int .u64 0, .int .u64 0, .int .i64 0, .slice none 0 0], .int .i64 E])) w' := by
  subst hr
  have hb' : Kp (fun _ => False) w w' := ⟨hb.os, hb.tape, hb.output, hb.size, fun k hk _ => hb.block k hk (by omega)⟩
  exact ⟨F, .slice none 0 0, rfl, World.ownsRow_nil _ _ _ _, (h.kp hb' (fun _ _ h => h)).pm, Mv.of (hb'.mono fun _ h => h.elim), fun k e => by cases e⟩
/-- Ahead of the end: something is proposed in the slot. -/
def PropMid (w1 wx : World) (B : Nat) (F : Nat → Prop) (g : Nat) (p' : Pp) (s : Nat) (z : Pz) : Prop :=
  ∃ (F2 : Nat → Prop) (bt bp : Nat) (A : Option Addr) (n c : Nat) (ts : List Tle) (ps : List Pze) (gz : Nat) (sl : Sl), PPm wx F2 g bt bp A n c p' ts ps ∧ (s, (z, (gz, sl))) ∈ ps ∧ Mv F F2 w1 wx ∧ Bk wx B 48 vt0
theorem prop_put {w1 W : World} {B : Nat} (h : PPm w1 F g bt bp A n c p ts ps) (hB : Bk w1 B 48 vt0) (hb : Below w1.heap.size w1 W) {vA : Option Addr} {vc : Nat} {val : List UInt8} (ho : W.ownsRow w1.heap.size 5 1 (.slice vA val.length vc) val.length (u8s val)) (hval : val.length ≤ 100) {s : Nat} (hs : p.base ≤ s ∧ s < 18446744073709551616) (hpl : p.props.length + 1 < 140737488355328) :
    ∃ W5, (Instr.mapUpdate 79 (.map (some bp)) (.int .u64 (s : Int)) (.pointer (some ⟨W.heap.size, 0, none⟩))).run Try.prog (W.alloc (.cells #[.slice vA val.length vc, .int .u32 0] 103)) = .ok () W5 ∧ PropMid w1 W5 B F g { p with props := putK s ⟨val, 0⟩ p.props } s ⟨val, 0⟩ := by
  obtain ⟨sl, hsl⟩ := own_slP ho
  have hbA : Below W.heap.size W (W.alloc (.cells #[.slice vA val.length vc, .int .u32 0] 103)) := bel1P _
  have hbW : Below w1.heap.size w1 (W.alloc (.cells #[.slice vA val.length vc, .int .u32 0] 103)) := below_then hb hbA
  have hP := h.below hbW
  have hz : Bk (W.alloc (.cells #[.slice vA val.length vc, .int .u32 0] 103)) W.heap.size 103 (pzA ((⟨val, 0⟩ : Pz), (W.heap.size, sl))) := by
    have e : pzA ((⟨val, 0⟩ : Pz), (W.heap.size, sl)) = #[.slice vA val.length vc, .int .u32 0] := by unfold pzA; rw [hsl]; rfl
    rw [e]
    exact Bk.new W _ _
  have hsz := hb.size
  have hnew : ∀ e ∈ ps, e.2.2.1 ≠ W.heap.size := fun e he => by
    have := h.lt _ (h.pf e he)
    omega
  have ho2 := own_below ho hbA (fun k e => (ho.lt k e).2)
  obtain ⟨W5, hrun, hP5, hkp⟩ := hP.pput hs.2 (z := ⟨val, 0⟩) (gz := W.heap.size) (s := sl) (by rw [hsl]; exact own_mono ho2 (Nat.zero_le _)) hz hnew (by unfold maxLen; omega) (h.ok.putp hs ⟨Nat.two_pow_pos _, hval⟩)
  refine ⟨W5, hrun, _, bt, bp, A, n, c, ts, _, W.heap.size, sl, hP5, putK_has _ _ _, ⟨?_, fun k hk => ?_⟩, ?_⟩
  · exact (Kp.of_below hbW).trans' (hkp.mono (G := F) fun k e => by subst e; exact h.fp) (fun i hi => .inl hi)
  · rcases hk with hk | rfl | hk
    · exact .inl hk
    · exact .inr hsz
    · rw [hsl] at hk
      exact .inr (ho.lt k hk).1
  · exact (hB.below hbW hB.lt).kp hkp (hP.pmap.off_bk (hB.below hbW hB.lt))
set_option maxRecDepth 100000 in
set_option maxHeartbeats 8000000 in
theorem ppropose_any (h : PPm w F g bt bp A n c p ts ps) (s : Nat) (hs : s < 18446744073709551616) (oA : Option Addr) (on oc : Nat) (own : List UInt8) (hon : on ≤ 140737488355328) (hrd : Rd w w.heap.size oA on own) (hpl : p.props.length + 1 < 140737488355328) :
    Calls Try.prog 20 #[.pointer (some ⟨g, 0, none⟩), .int .u64 (s : Int), .slice oA on oc] w (ProposeR w F g (p.propose s own)) := by
  obtain ⟨w1, hw1⟩ : ∃ w1, w1 = w.alloc (.cells #[.int .u64 0, .int .u64 0, .int .i64 0, .slice none 0 0] 48) := ⟨_, rfl⟩
  have hb1 : Below w.heap.size w w1 := by rw [hw1]; exact bel1P _
  have hk1 : Bk w1 w.heap.size 48 #[.int .u64 0, .int .u64 0, .int .i64 0, .slice none 0 0] := by rw [hw1]; exact Bk.new w _ _
  have hs1 : w1.heap.size = w.heap.size + 1 := by rw [hw1]; simp
  have HRd := Lib.hid (pready_any (h.below hb1))
  have HZ : Hid (∀ W, Below w1.heap.size w1 W → Bk W w.heap.size 48 #[.int .u64 0, .int .u64 0, .int .i64 0, .slice none 0 0] ∧ W.cell? ⟨g, 7, none⟩ = some (.int .u64 (p.base : Int)) ∧ W.cell? ⟨g, 11, none⟩ = some (.map (some bp))) := Lib.hid fun W hb => ⟨hk1.below hb hk1.lt, (h.below (below_then hb1 hb)).bk.cell 7, (h.below (below_then hb1 hb)).bk.cell 11⟩
  have HW1 := Lib.hid hw1
  have HB1 := Lib.hid hb1
  have HS1 := Lib.hid hs1
  have HP := Lib.hid h
  clear hw1 hk1 hs1
  cases hrdy : p.ready with
  | false =>
    have HD := Lib.hid (fun W hb => ProposeR_none h (w' := W) hb (r := p.propose s own) (E := 100) (by unfold Pp.propose; rw [if_pos hrdy]))
    rw [hrdy] at HRd
    clear h hb1 hrdy hrd
    go_enter Try.func20, Try.ntmps20
    go_wp2_with fail
    rw [← HW1.out]
    refine HRd.out.mono ?_
    rintro e w2 ⟨rfl, hb2⟩
    obtain ⟨hz, c7, c11⟩ := HZ.out w2 hb2
    have f0 := hz.frozen 0
    have f1 := hz.frozen 1
    have f2 := hz.frozen 2
    have f3 := hz.frozen 3
    have z0 : w2.cell? ⟨w.heap.size, 0, none⟩ = some (.int .u64 0) := hz.cell 0
    have z1 : w2.cell? ⟨w.heap.size, 1, none⟩ = some (.int .u64 0) := hz.cell 1
    have z2 : w2.cell? ⟨w.heap.size, 2, none⟩ = some (.int .i64 0) := hz.cell 2
    have z3 : w2.cell? ⟨w.heap.size, 3, none⟩ = some (.slice none 0 0) := hz.cell 3
    have HK2 : Hid (Kp (fun j => j = w.heap.size) w w2) := Lib.hid (Kp.of_below (below_then HB1.out hb2))
    have HZ2 := Lib.hid hz
    clear hz hb2
    go_wp2
    have hkp := st4P w2 w.heap.size (.int .u64 0) (.int .u64 0) (.int .i64 0) (.slice none 0 0)
    have hk4 := HZ2.out.s4P (.int .u64 0) (.int .u64 0) (.int .i64 0) (.slice none 0 0)
    generalize (((w2.setCell ⟨w.heap.size, 0, none⟩ (.int .u64 0)).setCell ⟨w.heap.size, 1, none⟩ (.int .u64 0)).setCell ⟨w.heap.size, 2, none⟩ (.int .i64 0)).setCell ⟨w.heap.size, 3, none⟩ (.slice none 0 0) = w9 at *
    have j0 : w9.cell? ⟨w.heap.size, 0, none⟩ = some (.int .u64 0) := hk4.cell 0
    have j1 : w9.cell? ⟨w.heap.size, 1, none⟩ = some (.int .u64 0) := hk4.cell 1
    have j2 : w9.cell? ⟨w.heap.size, 2, none⟩ = some (.int .i64 0) := hk4.cell 2
    have j3 : w9.cell? ⟨w.heap.size, 3, none⟩ = some (.slice none 0 0) := hk4.cell 3
    refine bodyPost_ret (by simp [results, Try.results20, go_sem, j0, j1, j2, j3]; try rfl) rfl ?_
    exact HD.out _ (HK2.out.trans hkp)
  | true =>
    rw [hrdy] at HRd
    by_cases hlo : s < p.base
    · have HD := Lib.hid (fun W hb => ProposeR_none h (w' := W) hb (r := p.propose s own) (E := 2) (by unfold Pp.propose; rw [if_neg (by rw [hrdy]; simp), if_pos hlo]))
      have n1 : (s : Int) < (p.base : Int) := by omega
      clear h hb1 hrdy hrd
      go_enter Try.func20, Try.ntmps20
      go_wp2_with fail
      rw [← HW1.out]
      refine HRd.out.mono ?_
      rintro e w2 ⟨rfl, hb2⟩
      obtain ⟨hz, c7, c11⟩ := HZ.out w2 hb2
      have f0 := hz.frozen 0
      have f1 := hz.frozen 1
      have f2 := hz.frozen 2
      have f3 := hz.frozen 3
      have z0 : w2.cell? ⟨w.heap.size, 0, none⟩ = some (.int .u64 0) := hz.cell 0
      have z1 : w2.cell? ⟨w.heap.size, 1, none⟩ = some (.int .u64 0) := hz.cell 1
      have z2 : w2.cell? ⟨w.heap.size, 2, none⟩ = some (.int .i64 0) := hz.cell 2
      have z3 : w2.cell? ⟨w.heap.size, 3, none⟩ = some (.slice none 0 0) := hz.cell 3
      have HK2 : Hid (Kp (fun j => j = w.heap.size) w w2) := Lib.hid (Kp.of_below (below_then HB1.out hb2))
      have HZ2 := Lib.hid hz
      clear hz hb2
      go_wp2
      have hkp := st4P w2 w.heap.size (.int .u64 0) (.int .u64 0) (.int .i64 0) (.slice none 0 0)
      have hk4 := HZ2.out.s4P (.int .u64 0) (.int .u64 0) (.int .i64 0) (.slice none 0 0)
      generalize (((w2.setCell ⟨w.heap.size, 0, none⟩ (.int .u64 0)).setCell ⟨w.heap.size, 1, none⟩ (.int .u64 0)).setCell ⟨w.heap.size, 2, none⟩ (.int .i64 0)).setCell ⟨w.heap.size, 3, none⟩ (.slice none 0 0) = w9 at *
      have j0 : w9.cell? ⟨w.heap.size, 0, none⟩ = some (.int .u64 0) := hk4.cell 0
      have j1 : w9.cell? ⟨w.heap.size, 1, none⟩ = some (.int .u64 0) := hk4.cell 1
      have j2 : w9.cell? ⟨w.heap.size, 2, none⟩ = some (.int .i64 0) := hk4.cell 2
      have j3 : w9.cell? ⟨w.heap.size, 3, none⟩ = some (.slice none 0 0) := hk4.cell 3
      refine bodyPost_ret (by simp [results, Try.results20, go_sem, j0, j1, j2, j3]; try rfl) rfl ?_
      exact HD.out _ (HK2.out.trans hkp)
    · have n1 : ¬ (s : Int) < (p.base : Int) := by omega
      rcases h.pget s with ⟨e1, e2⟩ | ⟨⟨⟨zval, zacc⟩, gz0, sl0⟩, hm, e1, e2⟩
      · cases hmu : p.must s with
        | some zval =>
          have hvl : zval.length ≤ 100 := p.must_len h.ok hmu
          have HL0 : Hid (∀ W, Below w1.heap.size w1 W → (Instr.lookup 79 (.map (some bp)) (.int .u64 (s : Int)) false).run Try.prog W = .ok (.pointer none) W) := Lib.hid fun W hb => by
            have hq := (h.below (below_then hb1 hb)).plook s hs
            rw [e1] at hq
            exact hq
          have HMu : Hid (∀ W, Below w1.heap.size w1 W → Calls Try.prog 17 #[.pointer (some ⟨g, 0, none⟩), .int .u64 (s : Int)] W (GiveR (p.must s) W)) := Lib.hid fun W hb => pmust_any ((h.below hb1).below hb) s hs
          rw [hmu] at HMu
          obtain ⟨p', hp'⟩ : ∃ p', p' = { p with props := putK s ⟨zval, 0⟩ p.props } := ⟨_, rfl⟩
          have HBal : Hid (p.bal = p'.bal) := Lib.hid (by rw [hp'])
          have hzB : Bk w1 w.heap.size 48 vt0 := (HZ.out w1 (Below.refl _ _)).1
          have HPut : Hid (∀ W A3 c3, Below w1.heap.size w1 W → W.ownsRow w1.heap.size 5 1 (.slice A3 zval.length c3) zval.length (u8s zval) → ∃ W5, (Instr.mapUpdate 79 (.map (some bp)) (.int .u64 (s : Int)) (.pointer (some ⟨W.heap.size, 0, none⟩))).run Try.prog (W.alloc (.cells #[.slice A3 zval.length c3, .int .u32 0] 103)) = .ok () W5 ∧ Hid (PropMid w1 W5 w.heap.size F g p' s ⟨zval, 0⟩)) := Lib.hid fun W A3 c3 hb ho => by
            obtain ⟨W5, hrun, hm⟩ := prop_put (h.below hb1) hzB hb ho hvl (s := s) ⟨by omega, hs⟩ hpl
            exact ⟨W5, hrun, Lib.hid (by rw [hp']; exact hm)⟩
          have HR : Hid (p.propose s own = (0, ⟨s, p.bal, zval⟩, p')) := Lib.hid (by unfold Pp.propose; rw [if_neg (by rw [hrdy]; simp), if_neg hlo, e2, hmu, hp'])
          clear h hb1 hrdy hrd hp' e1 e2 hmu hzB hvl
          go_enter Try.func20, Try.ntmps20
          go_wp2_with fail
          rw [← HW1.out]
          refine HRd.out.mono ?_
          rintro e w2 ⟨rfl, hb2⟩
          obtain ⟨hz, c7, c11⟩ := HZ.out w2 hb2
          have HL3 := Lib.hid (fun W hb => (HZ.out W hb).2.2)
          have hl0 := HL0.out w2 hb2
          have HB2 := Lib.hid hb2
          clear HL0 hz hb2
          go_wp2_with fail
          refine (HMu.out w2 HB2.out).mono ?_
          rintro e w3 ⟨v3, rfl, ho3, hb3⟩
          dsimp only [Option.getD_some, Option.isSome_some] at ho3 ⊢
          obtain ⟨A3, c3, rfl, _⟩ := own_shape ho3
          have hb13 := below_then HB2.out hb3
          have x11 := HL3.out w3 hb13
          obtain ⟨W5, hrun, HMid⟩ := HPut.out w3 A3 c3 hb13 (own_mono ho3 HB2.out.size)
          have hgl : g < w3.heap.size := by have := HP.out.lt _ HP.out.fg; have := HB1.out.size; have := hb13.size; omega
          clear ho3 hb3 hb13 HPut HMu HL3
          go_upto_region 14 with (fail)
          obtain ⟨W3, hW3⟩ : ∃ W3, W3 = W5 := ⟨_, rfl⟩
          subst hW3
          clear hrun x11 hgl
          obtain ⟨F2, bt2, bp2, A2, n2, c2, ts2, ps2, gz, sl2, hP2, hm2, hmv2, hz2⟩ := HMid.out
          obtain ⟨xA, xn, xc, hsv⟩ := slV_slP sl2
          have ho := hP2.pval _ hm2
          have hl2 := (hP2.acc hm2).2.1
          dsimp only at ho hl2
          rw [hsv] at ho
          obtain rfl : zval.length = xn := by
            obtain ⟨_, _, e, _⟩ := own_shape ho
            injection e with _ e _
            exact e.symm
          have hrd2 := Rd.of_own ho
          have HC2 := Lib.hid (fun W (hb : Below W3.heap.size W3 W) => cloneB_any xA zval.length xc W3.heap.size zval W (by omega) hb.size (hrd2.below hb))
          have HX2 : Hid (∀ W, Below W3.heap.size W3 W → W.cell? ⟨g, 5, none⟩ = some (.int .u64 (p'.bal.n : Int)) ∧ W.cell? ⟨g, 6, none⟩ = some (.int .i64 p'.bal.node) ∧ W.cell? ⟨g, 11, none⟩ = some (.map (some bp2)) ∧ (Instr.lookup 79 (.map (some bp2)) (.int .u64 (s : Int)) false).run Try.prog W = .ok (.pointer (some ⟨gz, 0, none⟩)) W ∧ W.cell? ⟨gz, 0, none⟩ = some (.slice xA zval.length xc) ∧ Bk W w.heap.size 48 vt0) := Lib.hid fun W hb => by
            have hPW := hP2.below hb
            have hsrt : SrtK ps2 := by
              have hq := hPW.ok.psrt
              rw [← hPW.peq] at hq
              exact hq.on
            have hg := getK_of_mem hsrt hm2
            refine ⟨hPW.bk.cell 5, hPW.bk.cell 6, hPW.bk.cell 11, ?_, ?_, hz2.below hb hz2.lt⟩
            · have hq := hPW.plook s hs
              rw [getK_on, hg] at hq
              exact hq
            · have hq := (hPW.peach _ hm2).cell 0
              rw [← hsv]
              exact hq
          have HD2 : Hid (∀ W v, Below W3.heap.size W3 W → W.ownsRow W3.heap.size 5 1 v zval.length (u8s zval) → ∀ W6, Kp (fun j => j = w.heap.size) W W6 → ProposeR w F g (p.propose s own) (.returned (.tuple #[.agg #[.int .u64 (s : Int), .int .u64 (p'.bal.n : Int), .int .i64 p'.bal.node, v], .int .i64 0])) W6) := Lib.hid fun W v hb ho6 W6 hk6 => by
            have hsz1 := HS1.out
            have hsz2 := hmv2.kp.size
            have hsz3 := hb.size
            have hnf : ¬ F2 w.heap.size := fun hf => by
              rcases hmv2.new _ hf with hf | hf
              · have := HP.out.lt _ hf
                omega
              · omega
            rw [HR.out]
            refine ⟨F2, v, ?_, ?_, (((hP2.below hb).kp hk6 (fun k hk e => hnf (by rw [← e]; exact hk)))).pm, ⟨?_, fun k hk => ?_⟩, fun k hk hf => ?_⟩
            · rw [HBal.out]
              rfl
            · exact own_mono (own_kp ho6 hk6 fun k e1 e2 => by have := (ho6.lt k e1).1; omega) (by omega)
            · have k1 : Kp F w W3 := (Kp.of_below HB1.out).trans hmv2.kp
              have k2 : Kp F w W := k1.trans (Kp.of_below hb)
              exact k2.trans' hk6 (fun i e => .inr (by omega))
            · rcases hmv2.new k hk with hf | hf
              · exact .inl hf
              · exact .inr (by omega)
            · have h1 := (ho6.lt k hk).1
              have h2 := hP2.lt k hf
              omega
          have hlt1 : w.heap.size < W3.heap.size := by have := HS1.out; have := hmv2.kp.size; omega
          have hng : ¬ g = w.heap.size := by have := HP.out.lt _ HP.out.fg; omega
          have Hng := Lib.hid hng
          have Hlt := Lib.hid hlt1
          clear hP2 hm2 hmv2 hz2 ho hrd2 hsv HMid hl2 hng hlt1 HR HBal
          generalize p'.bal.n = pbn at *
          generalize p'.bal.node = pbd at *
          obtain ⟨x5, x6, x11, hl1, xz, _⟩ := HX2.out W3 (Below.refl _ _)
          obtain ⟨_, _, _, hl2, _, _⟩ := HX2.out W3.drew (Below.refl _ _).drew
          go_region_law (go_simp; go_at_call 51; (refine (HC2.out _ (by (repeat' (first | assumption | exact Below.refl _ _ | apply Below.drew | exact bel_drewN (Below.refl _ _) _)))).mono ?_); rintro x W5 ⟨v5, rfl, ho5, hb5⟩; (have hd5 : Below W3.heap.size W3 W5 := below_then (by (repeat' (first | assumption | exact Below.refl _ _ | apply Below.drew | exact bel_drewN (Below.refl _ _) _))) hb5); (obtain ⟨y5, y6, y11, hl5, yz, hzz⟩ := HX2.out W5 hd5); (obtain ⟨A5, c5, rfl, _⟩ := own_shape ho5); (have a0 : W5.cell? ⟨w.heap.size, 0, none⟩ = some (.int .u64 0) := hzz.cell 0); (have a1 : W5.cell? ⟨w.heap.size, 1, none⟩ = some (.int .u64 0) := hzz.cell 1); (have a2 : W5.cell? ⟨w.heap.size, 2, none⟩ = some (.int .i64 0) := hzz.cell 2); (have a3 : W5.cell? ⟨w.heap.size, 3, none⟩ = some (.slice none 0 0) := hzz.cell 3); (have b0 := hzz.frozen 0); (have b1 := hzz.frozen 1); (have b2 := hzz.frozen 2); (have b3 := hzz.frozen 3))
          all_goals
            have HD5 := Lib.hid (HD2.out W5 _ hd5 (own_mono ho5 (by first | exact Nat.le_refl _ | (simp only [World.drew]; exact Nat.le_refl _))))
            have HZ5 := Lib.hid hzz
            clear hb5 hd5 ho5 hzz HC2 HX2 HD2 y5 y6 y11 hl5 yz x5 x6 x11 hl1 hl2 xz a0 a1 a2 a3 b0 b1 b2 b3
            go_wp2
            have hkp := st4P W5 w.heap.size (.int .u64 (s : Int)) (.int .u64 (pbn : Int)) (.int .i64 pbd) (.slice A5 zval.length c5)
            have hk4 := HZ5.out.s4P (.int .u64 (s : Int)) (.int .u64 (pbn : Int)) (.int .i64 pbd) (.slice A5 zval.length c5)
            generalize (((W5.setCell ⟨w.heap.size, 0, none⟩ (.int .u64 (s : Int))).setCell ⟨w.heap.size, 1, none⟩ (.int .u64 (pbn : Int))).setCell ⟨w.heap.size, 2, none⟩ (.int .i64 pbd)).setCell ⟨w.heap.size, 3, none⟩ (.slice A5 zval.length c5) = w9 at *
            have j0 : w9.cell? ⟨w.heap.size, 0, none⟩ = some (.int .u64 (s : Int)) := hk4.cell 0
            have j1 : w9.cell? ⟨w.heap.size, 1, none⟩ = some (.int .u64 (pbn : Int)) := hk4.cell 1
            have j2 : w9.cell? ⟨w.heap.size, 2, none⟩ = some (.int .i64 pbd) := hk4.cell 2
            have j3 : w9.cell? ⟨w.heap.size, 3, none⟩ = some (.slice A5 zval.length c5) := hk4.cell 3
            refine bodyPost_ret (by simp [results, Try.results20, go_sem, j0, j1, j2, j3]; try rfl) rfl ?_
            first | exact HD5.out _ hkp | exact HD5.out _ (hkp.trans (Kp.drew _ _))
        | none =>
          have HL0 : Hid (∀ W, Below w1.heap.size w1 W → (Instr.lookup 79 (.map (some bp)) (.int .u64 (s : Int)) false).run Try.prog W = .ok (.pointer none) W) := Lib.hid fun W hb => by
            have hq := (h.below (below_then hb1 hb)).plook s hs
            rw [e1] at hq
            exact hq
          have HMu : Hid (∀ W, Below w1.heap.size w1 W → Calls Try.prog 17 #[.pointer (some ⟨g, 0, none⟩), .int .u64 (s : Int)] W (GiveR (p.must s) W)) := Lib.hid fun W hb => pmust_any ((h.below hb1).below hb) s hs
          rw [hmu] at HMu
          by_cases hln : 100 < own.length
          · have HD := Lib.hid (fun W hb => ProposeR_none h (w' := W) hb (r := p.propose s own) (E := 3) (by unfold Pp.propose; rw [if_neg (by rw [hrdy]; simp), if_neg hlo, e2, hmu]; simp only; rw [if_pos hln]))
            have n2 : (on : Int) > 100 := by have := hrd.1; omega
            have n3 : 100 < on := by have := hrd.1; omega
            clear h hb1 hrdy hrd e1 e2 hmu hln
            go_enter Try.func20, Try.ntmps20
            go_wp2_with fail
            rw [← HW1.out]
            refine HRd.out.mono ?_
            rintro e w2 ⟨rfl, hb2⟩
            obtain ⟨hz, c7, c11⟩ := HZ.out w2 hb2
            have HL3 := Lib.hid (fun W hb => (HZ.out W hb).2.2)
            have hl0 := HL0.out w2 hb2
            have HB2 := Lib.hid hb2
            clear HL0 hz hb2
            go_wp2_with fail
            refine (HMu.out w2 HB2.out).mono ?_
            rintro e w3 ⟨v3, rfl, ho3, hb3⟩
            dsimp only [Option.isSome_none]
            obtain ⟨hz, _, _⟩ := HZ.out w3 (below_then HB2.out hb3)
            have f0 := hz.frozen 0
            have f1 := hz.frozen 1
            have f2 := hz.frozen 2
            have f3 := hz.frozen 3
            have z0 : w3.cell? ⟨w.heap.size, 0, none⟩ = some (.int .u64 0) := hz.cell 0
            have z1 : w3.cell? ⟨w.heap.size, 1, none⟩ = some (.int .u64 0) := hz.cell 1
            have z2 : w3.cell? ⟨w.heap.size, 2, none⟩ = some (.int .i64 0) := hz.cell 2
            have z3 : w3.cell? ⟨w.heap.size, 3, none⟩ = some (.slice none 0 0) := hz.cell 3
            have HK2 : Hid (Kp (fun j => j = w.heap.size) w w3) := Lib.hid (Kp.of_below (below_then HB1.out (below_then HB2.out hb3)))
            have HZ2 := Lib.hid hz
            clear hz hb3 ho3
            go_wp2
            have hkp := st4P w3 w.heap.size (.int .u64 0) (.int .u64 0) (.int .i64 0) (.slice none 0 0)
            have hk4 := HZ2.out.s4P (.int .u64 0) (.int .u64 0) (.int .i64 0) (.slice none 0 0)
            generalize (((w3.setCell ⟨w.heap.size, 0, none⟩ (.int .u64 0)).setCell ⟨w.heap.size, 1, none⟩ (.int .u64 0)).setCell ⟨w.heap.size, 2, none⟩ (.int .i64 0)).setCell ⟨w.heap.size, 3, none⟩ (.slice none 0 0) = w9 at *
            have j0 : w9.cell? ⟨w.heap.size, 0, none⟩ = some (.int .u64 0) := hk4.cell 0
            have j1 : w9.cell? ⟨w.heap.size, 1, none⟩ = some (.int .u64 0) := hk4.cell 1
            have j2 : w9.cell? ⟨w.heap.size, 2, none⟩ = some (.int .i64 0) := hk4.cell 2
            have j3 : w9.cell? ⟨w.heap.size, 3, none⟩ = some (.slice none 0 0) := hk4.cell 3
            refine bodyPost_ret (by simp [results, Try.results20, go_sem, j0, j1, j2, j3]; try rfl) rfl ?_
            exact HD.out _ (HK2.out.trans hkp)
          · have hvl : own.length ≤ 100 := by omega
            obtain rfl : own.length = on := hrd.1
            have n2 : ¬ ((own.length : Int) > 100) := by omega
            have n3 : ¬ 100 < own.length := hln
            obtain ⟨p', hp'⟩ : ∃ p', p' = { p with props := putK s ⟨own, 0⟩ p.props } := ⟨_, rfl⟩
            have HBal : Hid (p.bal = p'.bal) := Lib.hid (by rw [hp'])
            have hzB : Bk w1 w.heap.size 48 vt0 := (HZ.out w1 (Below.refl _ _)).1
            have HPut : Hid (∀ W A3 c3, Below w1.heap.size w1 W → W.ownsRow w1.heap.size 5 1 (.slice A3 own.length c3) own.length (u8s own) → ∃ W5, (Instr.mapUpdate 79 (.map (some bp)) (.int .u64 (s : Int)) (.pointer (some ⟨W.heap.size, 0, none⟩))).run Try.prog (W.alloc (.cells #[.slice A3 own.length c3, .int .u32 0] 103)) = .ok () W5 ∧ Hid (PropMid w1 W5 w.heap.size F g p' s ⟨own, 0⟩)) := Lib.hid fun W A3 c3 hb ho => by
              obtain ⟨W5, hrun, hm⟩ := prop_put (h.below hb1) hzB hb ho hvl (s := s) ⟨by omega, hs⟩ hpl
              exact ⟨W5, hrun, Lib.hid (by rw [hp']; exact hm)⟩
            have HR : Hid (p.propose s own = (0, ⟨s, p.bal, own⟩, p')) := Lib.hid (by unfold Pp.propose; rw [if_neg (by rw [hrdy]; simp), if_neg hlo, e2, hmu]; simp only; rw [if_neg hln, hp'])
            have HCo := Lib.hid (fun W (hb : Below w.heap.size w W) => cloneB_any oA own.length oc w.heap.size own W hon hb.size (hrd.below hb))
            clear h hb1 hrdy hrd hp' e1 e2 hmu hzB hvl hln
            go_enter Try.func20, Try.ntmps20
            go_wp2_with fail
            rw [← HW1.out]
            refine HRd.out.mono ?_
            rintro e w2 ⟨rfl, hb2⟩
            obtain ⟨hz, c7, c11⟩ := HZ.out w2 hb2
            have HL3 := Lib.hid (fun W hb => (HZ.out W hb).2.2)
            have hl0 := HL0.out w2 hb2
            have HB2 := Lib.hid hb2
            clear HL0 hz hb2
            go_wp2_with fail
            refine (HMu.out w2 HB2.out).mono ?_
            rintro e w3 ⟨v3, rfl, ho3, hb3⟩
            dsimp only [Option.isSome_none]
            have hb13 := below_then HB2.out hb3
            have HB13 := Lib.hid hb13
            clear ho3 hb3 hb13 HMu
            go_wp2_with fail
            refine (HCo.out w3 (below_then HB1.out HB13.out)).mono ?_
            rintro e w4 ⟨v4, rfl, ho4, hb4⟩
            obtain ⟨A4, c4, rfl, _⟩ := own_shape ho4
            have hb14 := below_then HB13.out hb4
            have x11 := HL3.out w4 hb14
            obtain ⟨W5, hrun, HMid⟩ := HPut.out w4 A4 c4 hb14 (own_mono ho4 HB13.out.size)
            have hgl : g < w4.heap.size := by have := HP.out.lt _ HP.out.fg; have := HB1.out.size; have := hb14.size; omega
            clear ho4 hb4 hb14 HPut HL3
            go_upto_region 14 with (fail)
            obtain ⟨W3, hW3⟩ : ∃ W3, W3 = W5 := ⟨_, rfl⟩
            subst hW3
            clear hrun x11 hgl n2 n3
            obtain ⟨F2, bt2, bp2, A2, n2, c2, ts2, ps2, gz, sl2, hP2, hm2, hmv2, hz2⟩ := HMid.out
            obtain ⟨xA, xn, xc, hsv⟩ := slV_slP sl2
            have ho := hP2.pval _ hm2
            have hl2 := (hP2.acc hm2).2.1
            dsimp only at ho hl2
            rw [hsv] at ho
            obtain rfl : own.length = xn := by
              obtain ⟨_, _, e, _⟩ := own_shape ho
              injection e with _ e _
              exact e.symm
            have hrd2 := Rd.of_own ho
            have HC2 := Lib.hid (fun W (hb : Below W3.heap.size W3 W) => cloneB_any xA own.length xc W3.heap.size own W (by omega) hb.size (hrd2.below hb))
            have HX2 : Hid (∀ W, Below W3.heap.size W3 W → W.cell? ⟨g, 5, none⟩ = some (.int .u64 (p'.bal.n : Int)) ∧ W.cell? ⟨g, 6, none⟩ = some (.int .i64 p'.bal.node) ∧ W.cell? ⟨g, 11, none⟩ = some (.map (some bp2)) ∧ (Instr.lookup 79 (.map (some bp2)) (.int .u64 (s : Int)) false).run Try.prog W = .ok (.pointer (some ⟨gz, 0, none⟩)) W ∧ W.cell? ⟨gz, 0, none⟩ = some (.slice xA own.length xc) ∧ Bk W w.heap.size 48 vt0) := Lib.hid fun W hb => by
              have hPW := hP2.below hb
              have hsrt : SrtK ps2 := by
                have hq := hPW.ok.psrt
                rw [← hPW.peq] at hq
                exact hq.on
              have hg := getK_of_mem hsrt hm2
              refine ⟨hPW.bk.cell 5, hPW.bk.cell 6, hPW.bk.cell 11, ?_, ?_, hz2.below hb hz2.lt⟩
              · have hq := hPW.plook s hs
                rw [getK_on, hg] at hq
                exact hq
              · have hq := (hPW.peach _ hm2).cell 0
                rw [← hsv]
                exact hq
            have HD2 : Hid (∀ W v, Below W3.heap.size W3 W → W.ownsRow W3.heap.size 5 1 v own.length (u8s own) → ∀ W6, Kp (fun j => j = w.heap.size) W W6 → ProposeR w F g (p.propose s own) (.returned (.tuple #[.agg #[.int .u64 (s : Int), .int .u64 (p'.bal.n : Int), .int .i64 p'.bal.node, v], .int .i64 0])) W6) := Lib.hid fun W v hb ho6 W6 hk6 => by
              have hsz1 := HS1.out
              have hsz2 := hmv2.kp.size
              have hsz3 := hb.size
              have hnf : ¬ F2 w.heap.size := fun hf => by
                rcases hmv2.new _ hf with hf | hf
                · have := HP.out.lt _ hf
                  omega
                · omega
              rw [HR.out]
              refine ⟨F2, v, ?_, ?_, (((hP2.below hb).kp hk6 (fun k hk e => hnf (by rw [← e]; exact hk)))).pm, ⟨?_, fun k hk => ?_⟩, fun k hk hf => ?_⟩
              · rw [HBal.out]
                rfl
              · exact own_mono (own_kp ho6 hk6 fun k e1 e2 => by have := (ho6.lt k e1).1; omega) (by omega)
              · have k1 : Kp F w W3 := (Kp.of_below HB1.out).trans hmv2.kp
                have k2 : Kp F w W := k1.trans (Kp.of_below hb)
                exact k2.trans' hk6 (fun i e => .inr (by omega))
              · rcases hmv2.new k hk with hf | hf
                · exact .inl hf
                · exact .inr (by omega)
              · have h1 := (ho6.lt k hk).1
                have h2 := hP2.lt k hf
                omega
            have hlt1 : w.heap.size < W3.heap.size := by have := HS1.out; have := hmv2.kp.size; omega
            have hng : ¬ g = w.heap.size := by have := HP.out.lt _ HP.out.fg; omega
            have Hng := Lib.hid hng
            have Hlt := Lib.hid hlt1
            clear hP2 hm2 hmv2 hz2 ho hrd2 hsv HMid hl2 hng hlt1 HR HBal
            generalize p'.bal.n = pbn at *
            generalize p'.bal.node = pbd at *
            obtain ⟨x5, x6, x11, hl1, xz, _⟩ := HX2.out W3 (Below.refl _ _)
            obtain ⟨_, _, _, hl2, _, _⟩ := HX2.out W3.drew (Below.refl _ _).drew
            go_region_law (go_simp; go_at_call 51; (refine (HC2.out _ (by (repeat' (first | assumption | exact Below.refl _ _ | apply Below.drew | exact bel_drewN (Below.refl _ _) _)))).mono ?_); rintro x W5 ⟨v5, rfl, ho5, hb5⟩; (have hd5 : Below W3.heap.size W3 W5 := below_then (by (repeat' (first | assumption | exact Below.refl _ _ | apply Below.drew | exact bel_drewN (Below.refl _ _) _))) hb5); (obtain ⟨y5, y6, y11, hl5, yz, hzz⟩ := HX2.out W5 hd5); (obtain ⟨A5, c5, rfl, _⟩ := own_shape ho5); (have a0 : W5.cell? ⟨w.heap.size, 0, none⟩ = some (.int .u64 0) := hzz.cell 0); (have a1 : W5.cell? ⟨w.heap.size, 1, none⟩ = some (.int .u64 0) := hzz.cell 1); (have a2 : W5.cell? ⟨w.heap.size, 2, none⟩ = some (.int .i64 0) := hzz.cell 2); (have a3 : W5.cell? ⟨w.heap.size, 3, none⟩ = some (.slice none 0 0) := hzz.cell 3); (have b0 := hzz.frozen 0); (have b1 := hzz.frozen 1); (have b2 := hzz.frozen 2); (have b3 := hzz.frozen 3))
            all_goals
              have HD5 := Lib.hid (HD2.out W5 _ hd5 (own_mono ho5 (by first | exact Nat.le_refl _ | (simp only [World.drew]; exact Nat.le_refl _))))
              have HZ5 := Lib.hid hzz
              clear hb5 hd5 ho5 hzz HC2 HX2 HD2 y5 y6 y11 hl5 yz x5 x6 x11 hl1 hl2 xz a0 a1 a2 a3 b0 b1 b2 b3
              go_wp2
              have hkp := st4P W5 w.heap.size (.int .u64 (s : Int)) (.int .u64 (pbn : Int)) (.int .i64 pbd) (.slice A5 own.length c5)
              have hk4 := HZ5.out.s4P (.int .u64 (s : Int)) (.int .u64 (pbn : Int)) (.int .i64 pbd) (.slice A5 own.length c5)
              generalize (((W5.setCell ⟨w.heap.size, 0, none⟩ (.int .u64 (s : Int))).setCell ⟨w.heap.size, 1, none⟩ (.int .u64 (pbn : Int))).setCell ⟨w.heap.size, 2, none⟩ (.int .i64 pbd)).setCell ⟨w.heap.size, 3, none⟩ (.slice A5 own.length c5) = w9 at *
              have j0 : w9.cell? ⟨w.heap.size, 0, none⟩ = some (.int .u64 (s : Int)) := hk4.cell 0
              have j1 : w9.cell? ⟨w.heap.size, 1, none⟩ = some (.int .u64 (pbn : Int)) := hk4.cell 1
              have j2 : w9.cell? ⟨w.heap.size, 2, none⟩ = some (.int .i64 pbd) := hk4.cell 2
              have j3 : w9.cell? ⟨w.heap.size, 3, none⟩ = some (.slice A5 own.length c5) := hk4.cell 3
              refine bodyPost_ret (by simp [results, Try.results20, go_sem, j0, j1, j2, j3]; try rfl) rfl ?_
              first | exact HD5.out _ hkp | exact HD5.out _ (hkp.trans (Kp.drew _ _))
      · obtain ⟨p', hp'⟩ : ∃ p', p' = p := ⟨_, rfl⟩
        have HR : Hid (p.propose s own = (0, ⟨s, p.bal, zval⟩, p')) := Lib.hid (by unfold Pp.propose; rw [if_neg (by rw [hrdy]; simp), if_neg hlo, e2, hp'])
        have HBal : Hid (p.bal = p'.bal) := Lib.hid (by rw [hp'])
        have HMid0 : Hid (∀ W, Below w1.heap.size w1 W → PropMid w1 W w.heap.size F g p' s ⟨zval, zacc⟩) := Lib.hid fun W hb => by
          rw [hp']
          exact ⟨F, bt, bp, A, n, c, ts, ps, gz0, sl0, (h.below hb1).below hb, hm, Mv.of (Kp.of_below hb), (HZ.out W hb).1⟩
        have HL0 : Hid (∀ W, Below w1.heap.size w1 W → (Instr.lookup 79 (.map (some bp)) (.int .u64 (s : Int)) false).run Try.prog W = .ok (.pointer (some ⟨gz0, 0, none⟩)) W) := Lib.hid fun W hb => by
          have hq := (h.below (below_then hb1 hb)).plook s hs
          rw [e1] at hq
          exact hq
        clear h hb1 hrdy hrd hp' e1 e2 hm
        go_enter Try.func20, Try.ntmps20
        go_wp2_with fail
        rw [← HW1.out]
        refine HRd.out.mono ?_
        rintro e w2 ⟨rfl, hb2⟩
        obtain ⟨hz, c7, c11⟩ := HZ.out w2 hb2
        have HMid := Lib.hid (HMid0.out w2 hb2)
        have hl0 := HL0.out w2 hb2
        clear HMid0 HL0 hz hb2
        obtain ⟨W3, hW3⟩ : ∃ W3, W3 = w2 := ⟨_, rfl⟩
        subst hW3
        go_upto_region 14 with (fail)
        obtain ⟨F2, bt2, bp2, A2, n2, c2, ts2, ps2, gz, sl2, hP2, hm2, hmv2, hz2⟩ := HMid.out
        obtain ⟨xA, xn, xc, hsv⟩ := slV_slP sl2
        have ho := hP2.pval _ hm2
        have hl2 := (hP2.acc hm2).2.1
        dsimp only at ho hl2
        rw [hsv] at ho
        obtain rfl : zval.length = xn := by
          obtain ⟨_, _, e, _⟩ := own_shape ho
          injection e with _ e _
          exact e.symm
        have hrd2 := Rd.of_own ho
        have HC2 := Lib.hid (fun W (hb : Below W3.heap.size W3 W) => cloneB_any xA zval.length xc W3.heap.size zval W (by omega) hb.size (hrd2.below hb))
        have HX2 : Hid (∀ W, Below W3.heap.size W3 W → W.cell? ⟨g, 5, none⟩ = some (.int .u64 (p'.bal.n : Int)) ∧ W.cell? ⟨g, 6, none⟩ = some (.int .i64 p'.bal.node) ∧ W.cell? ⟨g, 11, none⟩ = some (.map (some bp2)) ∧ (Instr.lookup 79 (.map (some bp2)) (.int .u64 (s : Int)) false).run Try.prog W = .ok (.pointer (some ⟨gz, 0, none⟩)) W ∧ W.cell? ⟨gz, 0, none⟩ = some (.slice xA zval.length xc) ∧ Bk W w.heap.size 48 vt0) := Lib.hid fun W hb => by
          have hPW := hP2.below hb
          have hsrt : SrtK ps2 := by
            have hq := hPW.ok.psrt
            rw [← hPW.peq] at hq
            exact hq.on
          have hg := getK_of_mem hsrt hm2
          refine ⟨hPW.bk.cell 5, hPW.bk.cell 6, hPW.bk.cell 11, ?_, ?_, hz2.below hb hz2.lt⟩
          · have hq := hPW.plook s hs
            rw [getK_on, hg] at hq
            exact hq
          · have hq := (hPW.peach _ hm2).cell 0
            rw [← hsv]
            exact hq
        have HD2 : Hid (∀ W v, Below W3.heap.size W3 W → W.ownsRow W3.heap.size 5 1 v zval.length (u8s zval) → ∀ W6, Kp (fun j => j = w.heap.size) W W6 → ProposeR w F g (p.propose s own) (.returned (.tuple #[.agg #[.int .u64 (s : Int), .int .u64 (p'.bal.n : Int), .int .i64 p'.bal.node, v], .int .i64 0])) W6) := Lib.hid fun W v hb ho6 W6 hk6 => by
          have hsz1 := HS1.out
          have hsz2 := hmv2.kp.size
          have hsz3 := hb.size
          have hnf : ¬ F2 w.heap.size := fun hf => by
            rcases hmv2.new _ hf with hf | hf
            · have := HP.out.lt _ hf
              omega
            · omega
          rw [HR.out]
          refine ⟨F2, v, ?_, ?_, (((hP2.below hb).kp hk6 (fun k hk e => hnf (by rw [← e]; exact hk)))).pm, ⟨?_, fun k hk => ?_⟩, fun k hk hf => ?_⟩
          · rw [HBal.out]
            rfl
          · exact own_mono (own_kp ho6 hk6 fun k e1 e2 => by have := (ho6.lt k e1).1; omega) (by omega)
          · have k1 : Kp F w W3 := (Kp.of_below HB1.out).trans hmv2.kp
            have k2 : Kp F w W := k1.trans (Kp.of_below hb)
            exact k2.trans' hk6 (fun i e => .inr (by omega))
          · rcases hmv2.new k hk with hf | hf
            · exact .inl hf
            · exact .inr (by omega)
          · have h1 := (ho6.lt k hk).1
            have h2 := hP2.lt k hf
            omega
        have hlt1 : w.heap.size < W3.heap.size := by have := HS1.out; have := hmv2.kp.size; omega
        have hng : ¬ g = w.heap.size := by have := HP.out.lt _ HP.out.fg; omega
        have Hng := Lib.hid hng
        have Hlt := Lib.hid hlt1
        clear hP2 hm2 hmv2 hz2 ho hrd2 hsv HMid hl2 hng hlt1 HR HBal
        generalize p'.bal.n = pbn at *
        generalize p'.bal.node = pbd at *
        obtain ⟨x5, x6, x11, hl1, xz, _⟩ := HX2.out W3 (Below.refl _ _)
        obtain ⟨_, _, _, hl2, _, _⟩ := HX2.out W3.drew (Below.refl _ _).drew
        go_region_law (go_simp; go_at_call 51; (refine (HC2.out _ (by (repeat' (first | assumption | exact Below.refl _ _ | apply Below.drew | exact bel_drewN (Below.refl _ _) _)))).mono ?_); rintro x W5 ⟨v5, rfl, ho5, hb5⟩; (have hd5 : Below W3.heap.size W3 W5 := below_then (by (repeat' (first | assumption | exact Below.refl _ _ | apply Below.drew | exact bel_drewN (Below.refl _ _) _))) hb5); (obtain ⟨y5, y6, y11, hl5, yz, hzz⟩ := HX2.out W5 hd5); (obtain ⟨A5, c5, rfl, _⟩ := own_shape ho5); (have a0 : W5.cell? ⟨w.heap.size, 0, none⟩ = some (.int .u64 0) := hzz.cell 0); (have a1 : W5.cell? ⟨w.heap.size, 1, none⟩ = some (.int .u64 0) := hzz.cell 1); (have a2 : W5.cell? ⟨w.heap.size, 2, none⟩ = some (.int .i64 0) := hzz.cell 2); (have a3 : W5.cell? ⟨w.heap.size, 3, none⟩ = some (.slice none 0 0) := hzz.cell 3); (have b0 := hzz.frozen 0); (have b1 := hzz.frozen 1); (have b2 := hzz.frozen 2); (have b3 := hzz.frozen 3))
        all_goals
          have HD5 := Lib.hid (HD2.out W5 _ hd5 (own_mono ho5 (by first | exact Nat.le_refl _ | (simp only [World.drew]; exact Nat.le_refl _))))
          have HZ5 := Lib.hid hzz
          clear hb5 hd5 ho5 hzz HC2 HX2 HD2 y5 y6 y11 hl5 yz x5 x6 x11 hl1 hl2 xz a0 a1 a2 a3 b0 b1 b2 b3
          go_wp2
          have hkp := st4P W5 w.heap.size (.int .u64 (s : Int)) (.int .u64 (pbn : Int)) (.int .i64 pbd) (.slice A5 zval.length c5)
          have hk4 := HZ5.out.s4P (.int .u64 (s : Int)) (.int .u64 (pbn : Int)) (.int .i64 pbd) (.slice A5 zval.length c5)
          generalize (((W5.setCell ⟨w.heap.size, 0, none⟩ (.int .u64 (s : Int))).setCell ⟨w.heap.size, 1, none⟩ (.int .u64 (pbn : Int))).setCell ⟨w.heap.size, 2, none⟩ (.int .i64 pbd)).setCell ⟨w.heap.size, 3, none⟩ (.slice A5 zval.length c5) = w9 at *
          have j0 : w9.cell? ⟨w.heap.size, 0, none⟩ = some (.int .u64 (s : Int)) := hk4.cell 0
          have j1 : w9.cell? ⟨w.heap.size, 1, none⟩ = some (.int .u64 (pbn : Int)) := hk4.cell 1
          have j2 : w9.cell? ⟨w.heap.size, 2, none⟩ = some (.int .i64 pbd) := hk4.cell 2
          have j3 : w9.cell? ⟨w.heap.size, 3, none⟩ = some (.slice A5 zval.length c5) := hk4.cell 3
          refine bodyPost_ret (by simp [results, Try.results20, go_sem, j0, j1, j2, j3]; try rfl) rfl ?_
          first | exact HD5.out _ hkp | exact HD5.out _ (hkp.trans (Kp.drew _ _))
end
end Go.Proofs.Ythkkkldkpdkabaa
