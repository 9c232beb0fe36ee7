/- The program's proposer: Accepted. -/
import Derived.Test.YthkkkldkpdkabaaProE
namespace Go.Proofs.Ythkkkldkpdkabaa
open Go.RowKit Go.Maps

section
variable {w : World} {F : Nat → Prop} {g bt bp n c : Nat} {A : Option Addr} {p : Pp} {ts : List Tle} {ps : List Pze}
set_option maxRecDepth 100000 in
set_option maxHeartbeats 8000000 in
theorem paccepted_any (h : PPm w F g bt bp A n c p ts ps) (x : Int) (s : Nat) (hs : s < 18446744073709551616) :
    Calls Try.prog 24 #[.pointer (some ⟨g, 0, none⟩), .int .i64 x, .int .u64 (s : Int)] w (PromR w F g (p.accepted x s)) := by
  have HI := Lib.hid (isNode_any h x)
  have c11 : w.cell? ⟨g, 11, none⟩ = some (.map (some bp)) := h.bk.cell 11
  have hlk := h.plook s hs
  cases hi : p.isNode x with
  | false =>
    have HD := Lib.hid (PromR.same h (Below.refl _ _) (r := p.accepted x s) (E := 2) (by unfold Pp.accepted; rw [if_pos hi]))
    rw [hi] at HI
    clear h hi hlk c11 hs
    go_enter Try.func24, Try.ntmps24
    go_wp2_with fail
    refine HI.out.mono ?_
    rintro e w2 ⟨rfl, rfl⟩
    go_wp2
    go_ret
    exact HD.out
  | true =>
    rw [hi] at HI
    rcases h.pget s with ⟨e1, e2⟩ | ⟨⟨z, gz, sl⟩, hm, e1, e2⟩
    · have HD := Lib.hid (PromR.same h (Below.refl _ _) (r := p.accepted x s) (E := 4) (by unfold Pp.accepted; rw [if_neg (by rw [hi]; simp), e2]))
      rw [e1] at hlk
      replace hlk : (Instr.lookup 79 (.map (some bp)) (.int .u64 (s : Int)) false).run Try.prog w = .ok (.pointer none) w := hlk
      clear h hi e1 e2 hs
      go_enter Try.func24, Try.ntmps24
      go_wp2_with fail
      refine HI.out.mono ?_
      rintro e w2 ⟨rfl, rfl⟩
      go_wp2
      go_ret
      exact HD.out
    · rw [e1] at hlk
      replace hlk : (Instr.lookup 79 (.map (some bp)) (.int .u64 (s : Int)) false).run Try.prog w = .ok (.pointer (some ⟨gz, 0, none⟩)) w := hlk
      have hx := (Pp.isNode_iff h.ok.right x).1 hi
      obtain ⟨nd, rfl⟩ := Int.eq_ofNat_of_zero_le hx.1
      have hnd : nd < p.q.n := by simpa using hx.2
      have hn12 := (p.q.n_le h.ok.right).2.1
      have hac := h.acc hm
      have z1 : w.cell? ⟨gz, 1, none⟩ = some (.int .u32 (z.acc : Int)) := (h.peach _ hm).cell 1
      have f1 : w.frozen? ⟨gz, 1, none⟩ = false := (h.peach _ hm).frozen 1
      obtain ⟨p1, hp1⟩ : ∃ p1, p1 = { p with props := putK s ⟨z.val, z.acc ||| 2 ^ nd⟩ p.props } := ⟨_, rfl⟩
      have hok1 : p1.Ok := by rw [hp1]; exact h.ok.putp ⟨hac.2.2.1, hac.2.2.2⟩ ⟨or_lt hac.1 hnd, hac.2.1⟩
      have hres : p.accepted nd s = (0, { p1 with pre := p1.climb (p1.props.length + 1) p1.pre }) := by
        unfold Pp.accepted
        rw [if_neg (by rw [hi]; simp), e2, hp1]
        rfl
      rw [hres]
      have hor := or_num z.acc nd (acc_lt h hac.1) (by omega)
      have hor2 : bits .or .u32 (z.acc : Int) (IntKind.u32.wrap ((2 : Int) ^ min nd 32)) = ((z.acc ||| 2 ^ nd : Nat) : Int) := by rw [IntKind.wrap_u32]; exact hor
      have e0 : ¬ ((nd : Int) < 0) := by omega
      have hP1 : PPm (w.setCell ⟨gz, 1, none⟩ (.int .u32 ((z.acc ||| 2 ^ nd : Nat) : Int))) F g bt bp A n c p1 ts (putK s (⟨z.val, z.acc ||| 2 ^ nd⟩, (gz, sl)) ps) := by
        rw [hp1]
        exact h.aput hm (z.acc ||| 2 ^ nd) (by rw [hp1] at hok1; exact hok1)
      have hK1 : Kp F w (w.setCell ⟨gz, 1, none⟩ (.int .u32 ((z.acc ||| 2 ^ nd : Nat) : Int))) := Kp.set_ (F := F) (p := ⟨gz, 1, none⟩) (h.pf _ hm) _
      generalize putK s (⟨z.val, z.acc ||| 2 ^ nd⟩, (gz, sl)) ps = ps1 at *
      have HP1 := Lib.hid hP1
      have HK1 := Lib.hid hK1
      have HOk := Lib.hid hok1
      have hpre := hok1.pre.2
      have habove := above_le p1.props p1.pre
      have HL2 : Hid ((Instr.lookup 79 (.map (some bp)) (.int .u64 (s : Int)) false).run Try.prog w.drew = .ok (.pointer (some ⟨gz, 0, none⟩)) w.drew) := Lib.hid (by
        have := (h.drewN 1).plook s hs
        rw [e1] at this
        exact this)
      clear h hi e1 e2 hm hx hnd hn12 hac hp1 hok1 hres hP1 hK1
      generalize (z.acc ||| 2 ^ nd : Nat) = a2 at *
      generalize z.acc = a1 at *
      go_enter Try.func24, Try.ntmps24
      go_wp2_with fail
      refine HI.out.mono ?_
      rintro e w2 ⟨rfl, rfl⟩
      go_upto_region 7 with (fail)
      have hlk2 : (Instr.lookup 79 (.map (some bp)) (.int .u64 (s : Int)) false).run Try.prog w.drew = .ok (.pointer (some ⟨gz, 0, none⟩)) w.drew := HL2.out
      go_region_law (fail)
      all_goals
        have HP2 : Hid (PPm (w.setCell ⟨gz, 1, none⟩ (.int .u32 (a2 : Int))).drew F g bt bp A n c p1 ts ps1) := Lib.hid (HP1.out.drewN 1)
        have HK2 := Lib.hid (HK1.out.trans (Kp.drew F _))
        have HD : Hid (∀ W x, PPm W F g bt bp A n c { p1 with pre := x } ts ps1 → Kp F w W → p1.pre ≤ x → (∀ s, p1.pre < s → s ≤ x → p1.isChosen s = true) → p1.isChosen (x + 1) = false → PromR w F g (0, { p1 with pre := p1.climb (p1.props.length + 1) p1.pre }) (.returned (.int .i64 0)) W) := Lib.hid fun W x hP hK hx hc he => by
          refine ⟨F, rfl, ?_, Mv.of hK⟩
          rw [Pp.climb_eq HOk.out (by omega) hx hc he]
          exact hP.pm
        clear HP1 HK1 hlk hlk2 HL2 c11 z1 f1 HI
        clear hor hor2
        generalize (w.setCell ⟨gz, 1, none⟩ (.int .u32 (a2 : Int))).drew = W2 at *
        go_wp2_with fail
        go_loopg [] (above p1.props p1.pre) (fun gk wr => ∃ x : Nat, above p1.props x = gk ∧ Hid (PPm wr F g bt bp A n c { p1 with pre := x } ts ps1 ∧ Kp F w wr ∧ p1.pre ≤ x ∧ (∀ s, p1.pre < s → s ≤ x → p1.isChosen s = true)))
        case atStart => exact ⟨p1.pre, rfl, Lib.hid ⟨HP2.out, HK2.out, Nat.le_refl _, fun s h1 h2 => by omega⟩⟩
        case round =>
          obtain ⟨x, hgk, HI⟩ := hrel
          obtain ⟨hP, hK, hx, hc⟩ := HI.out
          have hxl := hP.ok.pre
          dsimp only at hxl
          obtain ⟨k, hk⟩ : ∃ k, k = (x + 1) % 18446744073709551616 := ⟨_, rfl⟩
          have hkl : k < 18446744073709551616 := by omega
          have hck : p1.isChosen k = p1.isChosen (x + 1) := by
            by_cases h1 : x + 1 < 18446744073709551616
            · rw [hk, Nat.mod_eq_of_lt h1]
            · have e1 : p1.isChosen k = false := by
                cases h2 : p1.isChosen k with
                | false => rfl
                | true =>
                  have h3 := p1.isChosen_lt HOk.out h2
                  have h4 := HOk.out.base
                  omega
              have e2 : p1.isChosen (x + 1) = false := by
                cases h2 : p1.isChosen (x + 1) with
                | false => rfl
                | true =>
                  have h3 := p1.isChosen_lt HOk.out h2
                  omega
              rw [e1, e2]
          have ew : IntKind.u64.wrap ((x : Int) + 1) = (k : Int) := by rw [IntKind.wrap_u64]; omega
          have HC := isChosen_any hP k hkl
          have ec : Pp.isChosen { p1 with pre := x } k = p1.isChosen k := rfl
          rw [ec, hck] at HC
          have x12 : wr.cell? ⟨g, 12, none⟩ = some (.int .u64 (x : Int)) := hP.bk.cell 12
          have HPx := Lib.hid hP
          have HKx := Lib.hid hK
          have Hck := Lib.hid hck
          have Hcc := Lib.hid hc
          cases hch : p1.isChosen (x + 1) with
          | false =>
            rw [hch] at HC
            have HC := Lib.hid HC
            have HDx := Lib.hid (fun W hb => HD.out W x (hP.below hb) (hK.trans (Kp.of_below hb)) hx hc hch)
            clear hP hK hc hck ec hch HI hk
            go_wp2_with (go_at_call 53; refine HC.out.mono ?_; rintro e w5 ⟨rfl, hb5⟩; have HDy := Lib.hid (HDx.out w5 hb5); clear hb5)
            go_ret
            exact HDy.out
          | true =>
            rw [hch] at HC
            have HC := Lib.hid HC
            have hx1 := p1.isChosen_lt HOk.out hch
            have HB5 : Hid (∀ W, Below wr.heap.size wr W → W.cell? ⟨g, 12, none⟩ = some (.int .u64 (x : Int)) ∧ W.frozen? ⟨g, 12, none⟩ = false) := Lib.hid fun W hb => ⟨(hP.below hb).bk.cell 12, (hP.below hb).bk.frozen 12⟩
            have hkx : k = x + 1 := by omega
            obtain ⟨_, h64, z0, hz0⟩ := hx1
            have hab := above_lt hz0
            have HN : Hid (∀ W, Below wr.heap.size wr W → PPm (W.setCell ⟨g, 12, none⟩ (.int .u64 (k : Int))) F g bt bp A n c { p1 with pre := x + 1 } ts ps1 ∧ Kp F w (W.setCell ⟨g, 12, none⟩ (.int .u64 (k : Int))) ∧ p1.pre ≤ x + 1 ∧ (∀ s, p1.pre < s → s ≤ x + 1 → p1.isChosen s = true)) := Lib.hid fun W hb => by
              subst hkx
              refine ⟨(hP.below hb).turn ((hP.below hb).bk.set_ 12 _) (Kp.set_ (F := fun j => j = g) (p := ⟨g, 12, none⟩) rfl _) rfl rfl rfl ⟨HOk.out.right, HOk.out.bal, HOk.out.baln, HOk.out.base, HOk.out.prom, HOk.out.tsrt, HOk.out.told, HOk.out.top, HOk.out.psrt, HOk.out.props, ⟨Nat.le_succ_of_le hxl.1, h64⟩⟩, (hK.trans (Kp.of_below hb)).trans (Kp.set_ (F := F) (p := ⟨g, 12, none⟩) hP.fg _), by omega, fun s h1 h2 => ?_⟩
              by_cases h3 : s = x + 1
              · rw [h3]; exact hch
              · exact hc s h1 (by omega)
            clear hP hK hc hck ec hch HI hk hz0 hkx
            go_wp2_with (go_at_call 53; refine HC.out.mono ?_; rintro e w5 ⟨rfl, hb5⟩; obtain ⟨y12, f12⟩ := HB5.out w5 hb5; have HNx := Lib.hid (HN.out w5 hb5); clear hb5)
            go_roundg (above p1.props (x + 1))
            case measure => omega
            case rel => exact ⟨x + 1, rfl, HNx⟩
end
end Go.Proofs.Ythkkkldkpdkabaa
