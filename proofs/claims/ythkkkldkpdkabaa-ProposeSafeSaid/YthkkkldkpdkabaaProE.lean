/- The program's proposer: Promise. -/
import Derived.Test.YthkkkldkpdkabaaProC
import Derived.Test.YthkkkldkpdkabaaProD
namespace Go.Proofs.Ythkkkldkpdkabaa
open Go.RowKit Go.Maps

theorem Pp.hears_app (p : Pp) (node : Nat) (l : List Vt) (v : Vt) : p.hears node (l ++ [v]) = (p.hears node l).hear node v := by unfold Pp.hears; rw [List.foldl_append]; rfl
theorem Pp.hears_len (node : Nat) : ∀ (l : List Vt) (p : Pp), (p.hears node l).told.length ≤ p.told.length + l.length
  | [], _ => Nat.le_refl _
  | v :: r, p => by
    have e : p.hears node (v :: r) = (p.hear node v).hears node r := rfl
    rw [e]
    have h1 := Pp.hears_len node r (p.hear node v)
    have h2 := p.hear_told_len node v
    simp only [List.length_cons]
    omega
def PromR (w : World) (F : Nat → Prop) (g : Nat) (r : Int × Pp) (e : Ending) (w' : World) : Prop := ∃ F', e = .returned (.int .i64 r.1) ∧ PPM w' F' g r.2 ∧ Mv F F' w w'
theorem bit_is (pm nd : Nat) (hp : pm < 4294967296) (hn : nd ≤ 12) : (bits .and .u32 ((pm : Int) / 2 ^ min nd 32) 1 == 1) = pm.testBit nd := by
  have e : min nd 32 = nd := by omega
  have h2 : pm / 2 ^ nd ≤ pm := Nat.div_le_self _ _
  rw [e, show (2 : Int) ^ nd = ((2 ^ nd : Nat) : Int) by simp, show ((pm : Int) / ((2 ^ nd : Nat) : Int)) = ((pm / 2 ^ nd : Nat) : Int) by simp, show (1 : Int) = ((1 : Nat) : Int) from rfl, u32_and_nat _ _ (by omega) (by omega), Nat.and_one_is_mod, Nat.testBit_eq_decide_div_mod_eq, Bool.eq_iff_iff]
  simp only [beq_iff_eq, decide_eq_true_eq]
  omega
theorem or_num (a nd : Nat) (ha : a < 4294967296) (hn : nd ≤ 12) : bits .or .u32 (a : Int) ((2 : Int) ^ min nd 32 % 4294967296) = ((a ||| 2 ^ nd : Nat) : Int) := by
  rw [bit_num nd hn]
  have h2 : 2 ^ nd ≤ 2 ^ 12 := Nat.pow_le_pow_right (by decide) hn
  exact u32_or_nat _ _ ha (by omega)
section
variable {w : World} {F G : Nat → Prop} {g bt bp n c N C : Nat} {A B : Option Addr} {p : Pp} {ts : List Tle} {ps : List Pze} {es : List Vtr}
theorem PPm.pm (h : PPm w F g bt bp A n c p ts ps) : PPM w F g p := ⟨bt, bp, A, n, c, ts, ps, h⟩
theorem PromR.same (h : PPm w F g bt bp A n c p ts ps) {w' : World} (hb : Below w.heap.size w w') {E : Int} {r : Int × Pp} (hr : r = (E, p)) : PromR w F g r (.returned (.int .i64 E)) w' := by
  subst hr
  exact ⟨F, rfl, (h.below hb).pm, Mv.of (Kp.of_below hb)⟩
set_option maxRecDepth 100000 in
set_option maxHeartbeats 8000000 in
theorem ppromise_any (h : PPm w F g bt bp A n c p ts ps) (hv : VsR w G B N C es) (hG : ∀ k, G k → ¬ F k) (hGl : ∀ k, G k → k < w.heap.size) (hN : p.told.length + N < 140737488355328) (x : Int) :
    Calls Try.prog 16 #[.pointer (some ⟨g, 0, none⟩), .int .i64 x, .slice B N C] w (PromR w F g (p.promise x (es.map (·.1)))) := by
  have HI := Lib.hid (isNode_any h x)
  have HM := Lib.hid (mayBe_any h hv (by omega))
  cases hi : p.isNode x with
  | false =>
    have HD := Lib.hid (PromR.same h (Below.refl _ _) (r := p.promise x (es.map (·.1))) (E := 2) (by unfold Pp.promise; rw [if_pos hi]))
    rw [hi] at HI
    clear h hv hG hGl hN HM hi
    go_enter Try.func16, Try.ntmps16
    go_wp2_with fail
    refine HI.out.mono ?_
    rintro e w2 ⟨rfl, rfl⟩
    go_wp2
    go_ret
    exact HD.out
  | true =>
    rw [hi] at HI
    cases hm : mayL p.bal p.base (es.map (·.1)) with
    | false =>
      have HD : Hid (∀ w2, Below w.heap.size w w2 → PromR w F g (p.promise x (es.map (·.1))) (.returned (.int .i64 91)) w2) := Lib.hid fun w2 hb => PromR.same h hb (by unfold Pp.promise; rw [if_neg (by rw [hi]; simp), if_pos hm])
      rw [hm] at HM
      clear h hv hG hGl hN hm hi
      go_enter Try.func16, Try.ntmps16
      go_wp2_with fail
      refine HI.out.mono ?_
      rintro e w2 ⟨rfl, rfl⟩
      go_wp2_with fail
      refine HM.out.mono ?_
      rintro e w3 ⟨rfl, hb3⟩
      have HD3 := Lib.hid (HD.out w3 hb3)
      clear hb3 HD
      go_wp2
      go_ret
      exact HD3.out
    | true =>
      rw [hm] at HM
      have hx := (Pp.isNode_iff h.ok.right x).1 hi
      obtain ⟨nd, rfl⟩ := Int.eq_ofNat_of_zero_le hx.1
      have hnd : nd < p.q.n := by simpa using hx.2
      have hn12 := (p.q.n_le h.ok.right).2.1
      have HC : Hid (∀ W, Below w.heap.size w W → W.cell? ⟨g, 8, none⟩ = some (.int .u32 (p.prom : Int)) ∧ W.frozen? ⟨g, 8, none⟩ = false) := Lib.hid fun W hb => ⟨(h.below hb).bk.cell 8, (h.below hb).bk.frozen 8⟩
      have e0 : ¬ ((nd : Int) < 0) := by omega
      cases hb : p.prom.testBit nd with
      | true =>
        have HD : Hid (∀ w2, Below w.heap.size w w2 → PromR w F g (p.promise nd (es.map (·.1))) (.returned (.int .i64 0)) w2) := Lib.hid fun w2 hbw => PromR.same h hbw (by unfold Pp.promise; rw [if_neg (by rw [hi]; simp), if_neg (by rw [hm]; simp), if_pos (by simpa using hb)])
        have hbit := bit_is p.prom nd (acc_lt h h.ok.prom) (by omega)
        rw [hb] at hbit
        clear h hv hG hGl hN hm hi hb hx hnd hn12
        generalize p.prom = pm at *
        go_enter Try.func16, Try.ntmps16
        go_wp2_with fail
        refine HI.out.mono ?_
        rintro e w2 ⟨rfl, rfl⟩
        go_wp2_with fail
        refine HM.out.mono ?_
        rintro e w3 ⟨rfl, hb3⟩
        have HD3 := Lib.hid (HD.out w3 hb3)
        obtain ⟨c8, f8⟩ := HC.out w3 hb3
        clear hb3 HD
        go_wp2
        go_ret
        exact HD3.out
      | false =>
        obtain ⟨p1, hp1⟩ : ∃ p1, p1 = { p with prom := p.prom ||| 2 ^ nd } := ⟨_, rfl⟩
        have hres : p.promise nd (es.map (·.1)) = (0, p1.hears nd (es.map (·.1))) := by
          unfold Pp.promise
          rw [if_neg (by rw [hi]; simp), if_neg (by rw [hm]; simp), if_neg (by simpa using hb), hp1]
          rfl
        rw [hres]
        have hok1 : p1.Ok := by
          rw [hp1]
          exact ⟨h.ok.right, h.ok.bal, h.ok.baln, h.ok.base, or_lt h.ok.prom hnd, h.ok.tsrt, h.ok.told, h.ok.top, h.ok.psrt, h.ok.props, h.ok.pre⟩
        have hbit := bit_is p.prom nd (acc_lt h h.ok.prom) (by omega)
        rw [hb] at hbit
        have hor := or_num p.prom nd (acc_lt h h.ok.prom) (by omega)
        have hv1 : ∀ v ∈ es.map (·.1), p1.base ≤ v.slot ∧ v.bal.right = true ∧ v.val.length ≤ 100 ∧ v.Num := fun v hv' => by
          have h1 := mayL_each _ _ _ hm v hv'
          obtain ⟨e, he, rfl⟩ := List.mem_map.1 hv'
          rw [hp1]
          exact ⟨h1.1, h1.2.1, h1.2.2.2, (hv.each e he).2.2.2.1⟩
        have hlen : (es.map (·.1)).length = N := by rw [List.length_map]; exact hv.len
        have hst : p1.told.length = p.told.length ∧ p1.q = p.q := by rw [hp1]; exact ⟨rfl, rfl⟩
        -- the state ahead of each round
        have HP1 : Hid (∀ W, Below w.heap.size w W → PPm ((W.setCell ⟨g, 8, none⟩ (.int .u32 ((p.prom ||| 2 ^ nd : Nat) : Int))).drew) F g bt bp A n c p1 ts ps ∧ Kp F w ((W.setCell ⟨g, 8, none⟩ (.int .u32 ((p.prom ||| 2 ^ nd : Nat) : Int))).drew)) := Lib.hid fun W hbw => by
          have hk : Kp (fun j => j = g) W (W.setCell ⟨g, 8, none⟩ (.int .u32 ((p.prom ||| 2 ^ nd : Nat) : Int))) := Kp.set_ (F := fun j => j = g) (p := ⟨g, 8, none⟩) rfl _
          refine ⟨PPm.drewN ((h.below hbw).turn (p' := p1) (by rw [hp1]; exact (h.below hbw).bk.set_ 8 _) hk (by rw [hp1]) (by rw [hp1]) (by rw [hp1]) hok1) 1, ?_⟩
          exact ((Kp.of_below hbw).trans (hk.mono fun k e => by subst e; exact h.fg)).trans (Kp.drew F _)
        have HV : Hid (∀ W F', Mv F F' w W → VsR W G B N C es ∧ ∀ k, F' k → ¬ G k) := Lib.hid fun W F' hmv => ⟨hv.kp hmv.kp hG, hmv.apart hGl fun k hk hg => hG k hg hk⟩
        obtain ⟨l, hl⟩ : ∃ l, l = es.map (·.1) := ⟨_, rfl⟩
        rw [← hl] at hv1 hlen ⊢
        have HL := Lib.hid hl
        have HV1 := Lib.hid hv1
        have HLen := Lib.hid hlen
        have HS := Lib.hid hst
        have HOk := Lib.hid hok1
        have hnd1 : nd < p1.q.n := by rw [hst.2]; exact hnd
        have htl : p1.told.length + N < 140737488355328 := by rw [hst.1]; exact hN
        have hp0 : p.prom ||| 2 ^ nd = p.prom ||| 2 ^ nd := rfl
        clear h hv hG hGl hN hm hi hb hx hnd hn12 hres hok1 hv1 hlen hst hl hp1 hp0
        generalize (p.prom ||| 2 ^ nd : Nat) = pm2 at *
        generalize p.prom = pm at *
        go_enter Try.func16, Try.ntmps16
        go_wp2_with fail
        refine HI.out.mono ?_
        rintro e w2 ⟨rfl, rfl⟩
        go_wp2_with fail
        refine HM.out.mono ?_
        rintro e w3 ⟨rfl, hb3⟩
        obtain ⟨hpm, hkp⟩ := HP1.out w3 hb3
        obtain ⟨c8, f8⟩ := HC.out w3 hb3
        have HPm := Lib.hid hpm
        have HKp := Lib.hid hkp
        clear hb3 hpm hkp HP1 HC HM HI
        go_upto_region 9 with (fail)
        go_still_tail 9, (by kernel_rfl)
        change wpList _ _ _ _ _ w3.drew
        go_wp2_with fail
        go_loopg [42] N (fun gk i wr => ∃ k : Nat, i = .int .i64 (k : Int) ∧ k + gk = N ∧ Hid (∃ F', PPM wr F' g (p1.hears nd (l.take k)) ∧ Mv F F' w wr))
        case atStart => exact ⟨0, rfl, by omega, Lib.hid ⟨F, by rw [List.take_zero]; exact HPm.out.pm, Mv.of HKp.out⟩⟩
        case round =>
          obtain ⟨k, rfl, hkg, HI⟩ := hrel
          obtain ⟨F', hP, hmv⟩ := HI.out
          by_cases hk : k < N
          · obtain ⟨hvw, hF'G⟩ := HV.out wr F' hmv
            obtain ⟨R, o, rfl, hGR, hRl, hcells⟩ := hvw.row (by omega)
            have hke : k < es.length := by rw [hvw.len]; exact hk
            obtain ⟨c0, c1, c2, c3⟩ := hcells k hke
            have hea := hvw.each _ (List.getElem_mem hke)
            have hkl : k < l.length := by rw [HLen.out]; exact hk
            have hlk : l[k] = es[k].1 := by
              have : l[k]? = (es.map (·.1))[k]? := by rw [HL.out]
              rw [List.getElem?_eq_getElem hkl, List.getElem?_map, List.getElem?_eq_getElem hke] at this
              simpa using this
            have hvk := HV1.out l[k] (List.getElem_mem hkl)
            have htake : l.take (k + 1) = l.take k ++ [l[k]] := List.take_succ_eq_append_getElem hkl
            have hq2 := Pp.hears_same nd (l.take k) p1
            have hl2 := Pp.hears_len nd (l.take k) p1
            have hl3 : (l.take k).length ≤ k := List.length_take_le _ _
            rw [hlk] at hvk htake
            have HNext : Hid (p1.hears nd (l.take (k + 1)) = (p1.hears nd (l.take k)).hear nd es[k].1) := Lib.hid (by rw [htake, Pp.hears_app])
            generalize p1.hears nd (l.take k) = pk at *
            generalize es[k] = ek at *
            obtain ⟨⟨sl, ⟨bn, bd⟩, vv⟩, xA, xn, xc⟩ := ek
            dsimp only at *
            obtain ⟨w4, hw4⟩ : ∃ w4, w4 = wr.alloc (.cells #[.int .u64 (sl : Int), .int .u64 (bn : Int), .int .i64 bd, .slice xA xn xc] 48) := ⟨_, rfl⟩
            have hb4 : Below wr.heap.size wr w4 := by rw [hw4]; exact bel1P _
            have hk4 : Bk w4 wr.heap.size 48 #[.int .u64 (sl : Int), .int .u64 (bn : Int), .int .i64 bd, .slice xA xn xc] := by rw [hw4]; exact Bk.new wr _ _
            have y0 : w4.cell? ⟨wr.heap.size, 0, none⟩ = some (.int .u64 (sl : Int)) := hk4.cell 0
            have y1 : w4.cell? ⟨wr.heap.size, 1, none⟩ = some (.int .u64 (bn : Int)) := hk4.cell 1
            have y2 : w4.cell? ⟨wr.heap.size, 2, none⟩ = some (.int .i64 bd) := hk4.cell 2
            have y3 : w4.cell? ⟨wr.heap.size, 3, none⟩ = some (.slice xA xn xc) := hk4.cell 3
            obtain ⟨bt', bp', A', n', c', ts', ps', hP4⟩ := hP.below hb4
            have HH := Lib.hid (hear_any hP4 nd (by rw [hq2.1]; exact hnd1) ⟨sl, ⟨bn, bd⟩, vv⟩ xA xn xc (hea.2.2.1.below hb4).rd ⟨by rw [hq2.2.2.1]; exact hvk.1, hvk.2.2.2.1⟩ hvk.2.1 hvk.2.2.2.2 hvk.2.2.1 (by omega))
            have hvt : vtV (⟨sl, ⟨bn, bd⟩, vv⟩ : Vt) (.slice xA xn xc) = .agg #[.int .u64 (sl : Int), .int .u64 (bn : Int), .int .i64 bd, .slice xA xn xc] := rfl
            rw [hvt] at HH
            have HM4 := Lib.hid (hmv.trans (Mv.of (Kp.of_below hb4)))
            have HW4 := Lib.hid hw4
            clear hvt hP4 hk4 hb4 hw4 hP hmv hvw hcells hea hkl hlk hvk htake hq2 hl2 hl3 hke HI
            go_upto_region 13 with (fail)
            rw [← HW4.out]
            go_wp2_with fail
            refine HH.out.mono ?_
            rintro e w5 ⟨F5, rfl, hP5, hmv5⟩
            have HN5 : Hid (∃ F', PPM w5 F' g (p1.hears nd (l.take (k + 1))) ∧ Mv F F' w w5) := Lib.hid ⟨F5, by rw [HNext.out]; exact hP5, HM4.out.trans hmv5⟩
            clear hP5 hmv5 HH HM4 HNext y0 y1 y2 y3 c0 c1 c2 c3
            go_wp2
            go_roundg (gk - 1)
            case measure => omega
            case rel => exact ⟨k + 1, by go_num, by omega, HN5⟩
          · obtain rfl : k = N := by omega
            have HD : Hid (PromR w F g (0, p1.hears nd l) (.returned (.int .i64 0)) wr) := by
              refine Lib.hid ⟨F', rfl, ?_, hmv⟩
              rw [List.take_of_length_le (by rw [HLen.out]; exact Nat.le_refl _)] at hP
              exact hP
            clear hP hmv HI hk
            go_wp2
            go_ret
            exact HD.out
end
end Go.Proofs.Ythkkkldkpdkabaa
