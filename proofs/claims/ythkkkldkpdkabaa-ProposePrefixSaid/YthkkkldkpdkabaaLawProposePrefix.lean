/- ProposePrefix. -/
import Derived.Test.YthkkkldkpdkabaaProGv
import Derived.Test.YthkkkldkpdkabaaProK
import Derived.Test.YthkkkldkpdkabaaProQ
import Derived.Test.YthkkkldkpdkabaaRows
namespace Go.Proofs.Ythkkkldkpdkabaa
open Go.ChangeShapes Go.WideShapes Go.ChangeAt Go.RowKit Go.Maps

/-- Ahead of a round. -/
structure PreI (W w : World) (g s k last : Nat) (F : Nat → Prop) (p : Pp) : Prop where
  own : OwP W w F g p
  pre : p.Pre
  last : p.pre = last
  base : p.base = s
  len : p.props.length ≤ k
  told : p.told.length = 0
theorem qi_kq3P (W : World) (b : Bl) (hb : b.right = true) (hbn : b.n < 18446744073709551616) (s : Nat) (h0 : 0 < s) (hs : s < 18446744073709551616) (w : World) (hw : Below W.heap.size W w) : Calls Try.prog 12 #[.agg #[.int .i64 1, .int .i64 3, .int .i64 2, .int .i64 2, .slice none 0 0], .agg #[.int .u64 (b.n : Int), .int .i64 b.node], .int .u64 (s : Int)] w (NewO kq3 b s W) :=
  OwP.new kq3 none 0 0 b s W w hw (qi_kq3 w) kq3_right hb hbn h0 hs (by decide)
set_option maxRecDepth 100000 in
set_option maxHeartbeats 8000000 in
theorem proposePrefix_walk (s : Nat) (A : Option Addr) (n c : Nat) (f : Nat → Ac10) (W : World) (hs : s < 18446744073709551616) (hc : n ≤ c) (hm : c ≤ 9223372036854775807) (hr : Acts10 W W.heap.size A n f) : Calls Try.prog 8 #[.int .u64 (s : Int), .slice A n c] W fun e W' => e = .returned (.bool true) ∧ Below W.heap.size W W' := by
  have HT := Lib.hid (three_any W)
  have HK := Lib.hid (fun w => known10_any w)
  rcases Nat.eq_zero_or_pos s with h0 | h0
  · subst h0
    have HN : Hid (∀ w, Below W.heap.size W w → Calls Try.prog 12 #[.agg #[.int .i64 1, .int .i64 3, .int .i64 2, .int .i64 2, .slice none 0 0], .agg #[.int .u64 9, .int .i64 0], .int .u64 0] w fun e w' => e = .returned (.tuple #[.pointer none, .int .i64 2]) ∧ Below w.heap.size w w') := Lib.hid fun w _ =>
      pnew_bad kq3 none 0 0 ⟨9, 0⟩ 0 w (qi_kq3 w) 2 (by rw [if_neg (by rw [kq3_right]; simp)]; rfl) (by decide)
    clear hs hc hm hr
    go_enter Try.func8, Try.ntmps8
    go_wp2_with fail
    refine HT.out.mono ?_
    rintro e w1 ⟨rfl, hb1⟩
    have HB1 := Lib.hid hb1
    clear hb1
    go_wp2_with fail
    refine (HN.out w1 HB1.out).mono ?_
    rintro e w2 ⟨rfl, hb2⟩
    have HB2 := Lib.hid (below_then HB1.out hb2)
    clear hb2
    go_wp2_with fail
    refine (HK.out w2).mono ?_
    rintro e w3 ⟨rfl, hb3⟩
    have HB3 := Lib.hid (below_then HB2.out hb3)
    clear hb3
    go_wp2
    go_ret
    exact ⟨rfl, HB3.out⟩
  have HN := Lib.hid (fun w hb => qi_kq3P W ⟨9, 0⟩ (by decide) (by decide) s h0 hs w hb)
  have n0 : ¬ (s : Int) = 0 := by omega
  have HP : Hid (∀ w F g p (x : Int), OwP W w F g p → p.Pre → p.base = s → p.told.length = 0 → Calls Try.prog 16 #[.pointer (some ⟨g, 0, none⟩), .int .i64 x, .slice none 0 0] w fun e w' => ∃ F' p' r, e = .returned (.int .i64 r) ∧ OwP W w' F' g p' ∧ p'.Pre ∧ p'.base = s ∧ p'.told.length = 0 ∧ p'.props = p.props) := Lib.hid fun w F g p x h hp hb ht => by
    refine (h.promise (vsr_nil w (fun _ => False)) (fun _ h => h.elim) (fun _ h => h.elim) (by omega) x).mono ?_
    rintro e w' ⟨F', rfl, ho, hmv⟩
    refine ⟨F', _, _, rfl, ho, hp.promise _ _, by rw [(p.promise_same x _).2.2.1]; exact hb, ?_, (p.promise_same x _).2.2.2.1⟩
    unfold Pp.promise
    repeat' split
    all_goals exact ht
  have HPo : Hid (∀ w F g k last p (a : Nat), PreI W w g s k last F p → a < 18446744073709551616 → k < 1000 → Calls Try.prog 20 #[.pointer (some ⟨g, 0, none⟩), .int .u64 (a : Int), .slice none 0 0] w fun e w' => ∃ F' p' v, e = .returned v ∧ PreI W w' g s (k + 1) last F' p') := Lib.hid fun w F g k last p a h ha hk => by
    have hl := h.len
    refine (h.own.propose a ha none 0 0 [] (by decide) (Rd.nil _ _ _) (by omega)).mono ?_
    rintro e w' ⟨F', A', c', rfl, hap, ho, hmv⟩
    have hsm := p.propose_same a []
    have hln := p.propose_len a []
    exact ⟨F', _, _, rfl, ho, h.pre.propose h.own.pm.ok a [], by rw [hsm.2.2.2.2.2.2]; exact h.last, by rw [hsm.2.2.1]; exact h.base, by omega, by rw [hsm.2.2.2.2.1]; exact h.told⟩
  have HAc : Hid (∀ w F g k last p (a : Nat) (x : Int), PreI W w g s k last F p → a < 18446744073709551616 → Calls Try.prog 24 #[.pointer (some ⟨g, 0, none⟩), .int .i64 x, .int .u64 (a : Int)] w fun e w' => ∃ F' p' r last', e = .returned (.int .i64 r) ∧ last ≤ last' ∧ PreI W w' g s (k + 1) last' F' p') := Lib.hid fun w F g k last p a x h ha => by
    have hl := h.len
    refine (h.own.accepted x a ha).mono ?_
    rintro e w' ⟨F', rfl, ho, hmv⟩
    have hln := p.accepted_len x a
    have hpr := h.pre.accepted h.own.pm.ok x a
    exact ⟨F', _, _, _, rfl, by rw [← h.last]; exact hpr.2, ho, hpr.1, rfl, by rw [hln.2.2.1]; exact h.base, by omega, by rw [hln.2.1]; exact h.told⟩
  have HPf : Hid (∀ w F g k last p, PreI W w g s k last F p → Calls Try.prog 29 #[.pointer (some ⟨g, 0, none⟩)] w fun e w' => e = .returned (.int .u64 (last : Int)) ∧ w = w') := Lib.hid fun w F g k last p h => by
    have := h.own.pre
    rwa [h.last] at this
  have HC1 : Hid (∀ w F g k last p, PreI W w g s k last F p → last + 1 < 18446744073709551616 → Calls Try.prog 25 #[.pointer (some ⟨g, 0, none⟩), .int .u64 ((last + 1 : Nat) : Int)] w fun e w' => ∃ v, e = .returned (.tuple #[v, .bool false]) ∧ PreI W w' g s k last F p) := Lib.hid fun w F g k last p h hl => by
    refine (h.own.chosen (last + 1) hl).mono ?_
    rintro e w' ⟨A', c', rfl, _, hb⟩
    have hn : (p.chosen (last + 1)).isSome = false := by rw [Pp.chosen_is, ← h.last]; exact h.pre.non
    rw [hn]
    exact ⟨_, rfl, h.own.below hb, h.pre, h.last, h.base, h.len, h.told⟩
  have HC2 : Hid (∀ w F g k last p, PreI W w g s k last F p → s ≤ last → Calls Try.prog 25 #[.pointer (some ⟨g, 0, none⟩), .int .u64 (last : Int)] w fun e w' => ∃ v, e = .returned (.tuple #[v, .bool true]) ∧ PreI W w' g s k last F p) := Lib.hid fun w F g k last p h hl => by
    have hlt : last < 18446744073709551616 := by have := h.own.pm.ok.pre.2; have := h.last; omega
    refine (h.own.chosen last hlt).mono ?_
    rintro e w' ⟨A', c', rfl, _, hb⟩
    have hn : (p.chosen last).isSome = true := by rw [Pp.chosen_is]; exact h.pre.all last (by rw [h.base]; exact hl) (by rw [h.last]; exact Nat.le_refl _)
    rw [hn]
    exact ⟨_, rfl, h.own.below hb, h.pre, h.last, h.base, h.len, h.told⟩
  have HLt : Hid (∀ w F g k last p, PreI W w g s k last F p → last < 18446744073709551616) := Lib.hid fun w F g k last p h => by have := h.own.pm.ok.pre.2; have := h.last; omega
  have HA : Hid (∀ w, Below W.heap.size W w → 0 < n → ∃ b o, A = some ⟨b, o, none⟩ ∧ ∀ i, i < n → ((f i).Ok w W.heap.size ∧ w.cell? ⟨b, o + i * 5 + 1, none⟩ = some (.int .i64 (f i).node) ∧ w.cell? ⟨b, o + i * 5 + 2, none⟩ = some (.int .u64 ((f i).slot : Int)))) := Lib.hid fun w hb hn => by
    obtain ⟨b, o, e, _, hi⟩ := hr.below hb hn
    exact ⟨b, o, e, fun i h => by obtain ⟨k0, k1, k2, k3, _⟩ := hi i h; exact ⟨k0, k2, k3⟩⟩
  clear hr
  go_enter Try.func8, Try.ntmps8
  go_wp2_with fail
  refine HT.out.mono ?_
  rintro e w1 ⟨rfl, hb1⟩
  have HB1 := Lib.hid hb1
  clear hb1
  go_wp2_with fail
  refine (HN.out w1 HB1.out).mono ?_
  rintro e w2 ⟨g, F0, rfl, ho⟩
  have HO := Lib.hid ho
  clear ho
  go_wp2_with fail
  refine (HP.out _ _ _ _ 0 HO.out (Pp.Pre.new h0) rfl rfl).mono ?_
  rintro e w3 ⟨F1, p1, r1, rfl, hq1⟩
  have HQ1 := Lib.hid hq1
  clear hq1
  go_wp2_with fail
  refine (HP.out _ _ _ _ 1 HQ1.out.1 HQ1.out.2.1 HQ1.out.2.2.1 HQ1.out.2.2.2.1).mono ?_
  rintro e w4 ⟨F2, p2, r2, rfl, hq2⟩
  have HI : Hid (PreI W w4 g s 0 p2.pre F2 p2) := Lib.hid ⟨hq2.1, hq2.2.1, rfl, hq2.2.2.1, by rw [hq2.2.2.2.2, HQ1.out.2.2.2.2]; exact Nat.le_refl _, hq2.2.2.2.1⟩
  clear hq2 HQ1 HO HN HP
  generalize p2.pre = last at *
  go_wp2_with fail
  refine (HPf.out _ _ _ _ _ _ HI.out).mono ?_
  rintro e w5 ⟨rfl, rfl⟩
  obtain ⟨M, hM⟩ : ∃ M, M = min n 40 := ⟨_, rfl⟩
  have HB5 := Lib.hid HI.out.own.bel
  go_wp2_with fail
  go_loopg [7, 8] M (fun gk la i wr => ∃ (k last : Nat) (F : Nat → Prop) (p : Pp), la = .int .u64 (last : Int) ∧ i = .int .i64 (k : Int) ∧ k + gk = M ∧ Hid (PreI W wr g s (3 * k) last F p))
  case atStart => exact ⟨0, last, F2, p2, rfl, rfl, by omega, HI⟩
  case round =>
    obtain ⟨k, la, F, p, rfl, rfl, hkg, HI⟩ := hrel
    have hBr := HI.out.own.bel
    by_cases hk : k < M
    · have hkn : k < n := by omega
      have hk40 : k < 40 := by omega
      obtain ⟨b, o, rfl, hac⟩ := HA.out wr hBr (by omega)
      obtain ⟨hok, c1, c2⟩ := hac k hkn
      have hsl := hok.slot
      have HA2 : Hid (∀ w, Below W.heap.size W w → w.cell? ⟨b, o + k * 5 + 1, none⟩ = some (.int .i64 (f k).node)) := Lib.hid fun w hb => by
        obtain ⟨b', o', e, h'⟩ := HA.out w hb (by omega)
        injection e with e
        injection e with e1 e2
        subst e1 e2
        exact (h' k hkn).2.1
      generalize (f k).slot = sl at *
      generalize (f k).node = nd at *
      obtain ⟨a, ha⟩ : ∃ a, a = (s + sl % 8) % 18446744073709551616 := ⟨_, rfl⟩
      have hal : a < 18446744073709551616 := by omega
      have e1 : IntKind.u64.wrap ((s : Int) + (sl : Int) % 8) = (a : Int) := by rw [IntKind.wrap_u64]; omega
      have e2 : IntKind.u64.wrap ((s : Int) + (sl : Int).tmod 8) = (a : Int) := by rw [Int.tmod_eq_emod_of_nonneg (by omega)]; exact e1
      clear ha hac hok c1
      by_cases hlt : a < s
      · have n1 : (a : Int) < (s : Int) := by omega
        have HBr := Lib.hid hBr
        clear hBr HI
        go_wp2_with fail
        refine (HK.out _).mono ?_
        rintro e w6 ⟨rfl, hb6⟩
        have HB6 := Lib.hid (below_then HBr.out hb6)
        clear hb6
        go_wp2
        go_ret
        exact ⟨rfl, HB6.out⟩
      · have n1 : ¬ (a : Int) < (s : Int) := by omega
        clear hBr
        go_wp2_with fail
        refine (HPo.out _ _ _ _ _ _ a HI.out hal (by omega)).mono ?_
        rintro e w6 ⟨F6, p6, v6, rfl, hI6⟩
        have HI6 := Lib.hid hI6
        have c3 := HA2.out w6 hI6.own.bel
        clear hI6 HI c2
        go_wp2_with fail
        refine (HAc.out _ _ _ _ _ _ a nd HI6.out hal).mono ?_
        rintro e w7 ⟨F7, p7, r7, last7, rfl, hl7, hI7⟩
        have HI7 := Lib.hid hI7
        clear hI7 HI6 c3
        go_wp2_with fail
        refine (HAc.out _ _ _ _ _ _ a 2 HI7.out hal).mono ?_
        rintro e w8 ⟨F8, p8, r8, last8, rfl, hl8, hI8⟩
        have HI8 := Lib.hid hI8
        have hlt8 := HLt.out _ _ _ _ _ _ hI8
        clear hI8 HI7
        go_wp2_with fail
        refine (HPf.out _ _ _ _ _ _ HI8.out).mono ?_
        rintro e w9 ⟨rfl, rfl⟩
        have n2 : ¬ (last8 : Int) < (la : Int) := by omega
        have e3 : k * 3 + 3 = 3 * (k + 1) := by omega
        by_cases hw : last8 + 1 < 18446744073709551616
        · have e4 : IntKind.u64.wrap ((last8 : Int) + 1) = ((last8 + 1 : Nat) : Int) := by rw [IntKind.wrap_u64]; omega
          have n3 : ¬ ((last8 + 1 : Nat) : Int) = 0 := by omega
          have HC := Lib.hid (HC1.out _ _ _ _ _ _ HI8.out hw)
          obtain ⟨L1, hL1⟩ : ∃ L1, L1 = last8 + 1 := ⟨_, rfl⟩
          rw [← hL1] at HC e4 n3
          clear hL1
          go_wp2_with fail
          refine HC.out.mono ?_
          rintro e w10 ⟨v10, rfl, hI10⟩
          have HI10 := Lib.hid hI10
          clear hI10 HI8 HC
          by_cases hge : s ≤ last8
          · have n4 : (s : Int) ≤ (last8 : Int) := by omega
            have HC := Lib.hid (HC2.out _ _ _ _ _ _ HI10.out hge)
            go_wp2_with fail
            refine HC.out.mono ?_
            rintro e w11 ⟨v11, rfl, hI11⟩
            have HI11 := Lib.hid hI11
            clear hI11 HI10 HC
            go_wp2
            go_roundg (gk - 1)
            case measure => omega
            case rel => exact ⟨k + 1, last8, F8, p8, rfl, by go_num, by omega, HI11⟩
          · have n4 : ¬ (s : Int) ≤ (last8 : Int) := by omega
            go_wp2
            go_roundg (gk - 1)
            case measure => omega
            case rel => exact ⟨k + 1, last8, F8, p8, rfl, by go_num, by omega, HI10⟩
        · have e4 : IntKind.u64.wrap ((last8 : Int) + 1) = 0 := by rw [IntKind.wrap_u64]; omega
          have hge : s ≤ last8 := by omega
          have n4 : (s : Int) ≤ (last8 : Int) := by omega
          have HC := Lib.hid (HC2.out _ _ _ _ _ _ HI8.out hge)
          go_wp2_with fail
          refine HC.out.mono ?_
          rintro e w11 ⟨v11, rfl, hI11⟩
          have HI11 := Lib.hid hI11
          clear hI11 HI8 HC
          go_wp2
          go_roundg (gk - 1)
          case measure => omega
          case rel => exact ⟨k + 1, last8, F8, p8, rfl, by go_num, by omega, HI11⟩
    · have hkM : k = M := by omega
      have HBr := Lib.hid hBr
      clear hBr HI
      by_cases hkn : k < n
      · have hk40 : ¬ k < 40 := by omega
        go_wp2_with fail
        refine (HK.out _).mono ?_
        rintro e w6 ⟨rfl, hb6⟩
        have HB6 := Lib.hid (below_then HBr.out hb6)
        clear hb6
        go_wp2
        go_ret
        exact ⟨rfl, HB6.out⟩
      · go_wp2_with fail
        refine (HK.out _).mono ?_
        rintro e w6 ⟨rfl, hb6⟩
        have HB6 := Lib.hid (below_then HBr.out hb6)
        clear hb6
        go_wp2
        go_ret
        exact ⟨rfl, HB6.out⟩
namespace proposePrefix
set_option maxRecDepth 100000 in
theorem lifted (os : Os) (started : os.Started) (H : Type) (enc : TypeId × Value → H) :
    ReturnsInHanded {} Try.checked os 8 .any (Rows.proposePrefixSpec.pre6 enc Try.prog Try.f8 Rows.proposePrefixRow.domain false) (Rows.proposePrefixSpec.post enc Try.prog Try.f8 false true false false) := by
  refine law_lift started (by kernel_rfl) Try.func8
    (ChangeSpec.witness6 (enc := enc) (C := Try.checked) false ⟨#[], #[.int .u64 0, .slice none 0 0], []⟩ 8 (by kernel_rfl) (by kernel_rfl) (by kernel_rfl) (by kernel_rfl))
    rfl ?_ (by kernel_rfl) (by kernel_rfl) ?_
  · intro ds h
    match ds, h with
    | [_, _], _ => rfl
  intro W base args ds p g
  have hA := g.trod
  have hval := g.val
  rw [Try.params8] at hA hval
  obtain ⟨v0, vs0, d0, ds0, p0, q0, hargs, rfl, rfl, h0, r0⟩ := trodAll_cons hA
  obtain ⟨v1, vs1, d1, ds1, p1, q1, rfl, rfl, rfl, h1, r1⟩ := trodAll_cons r0
  obtain ⟨rfl, rfl, rfl⟩ := trodAll_nil r1
  obtain rfl : args = #[v0, v1] := by cases args; simp_all
  obtain ⟨a0, rfl, _, _, w0⟩ := open_int Try.underlying25 (hval 0 25 v0 rfl rfl) h0
  have b0 := bounds_u64 w0
  obtain ⟨m0, rfl⟩ := Int.eq_ofNat_of_zero_le b0.1
  obtain ⟨A1, n1, c1, f1, rfl, hc1, hm1, hr1⟩ := given_acts10 (hval 1 28 v1 rfl rfl) h1
  exact proposePrefix_walk m0 A1 n1 c1 f1 W (by omega) hc1 hm1 hr1

theorem over : Rows.proposePrefixRow.holds Try.pinned (OpenSpec.ofChange Rows.proposePrefixSpec) :=
  OpenClaim.holds_of_wide 8 Try.f8 rfl rfl rfl rfl rfl rfl rfl ⟨rfl, rfl, rfl, rfl, rfl⟩ rfl rfl rfl rfl rfl (by kernel_rfl) Try.func8 (by kernel_rfl)
    (of_decide_eq_true (by kernel_rfl)) (by unfold Func.isWrapper; first | (rw [if_pos (by decide +kernel)]; kernel_rfl) | (rw [if_neg (by decide +kernel)]; exact ⟨rfl, rfl⟩))
    (fun os started H enc _ => lifted os started H enc)
end proposePrefix

theorem ProposePrefix_proved : Rows.ProposePrefixSaid := proposePrefix.over
#print axioms ProposePrefix_proved
end Go.Proofs.Ythkkkldkpdkabaa
