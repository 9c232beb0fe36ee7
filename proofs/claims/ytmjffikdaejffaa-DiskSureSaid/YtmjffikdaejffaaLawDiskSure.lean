/- DiskSure: what was synced is there behind a crash, whatever is kept, where nothing was written since; and a sector that was written since has at each place what it had, or what one of the writes had there. -/
import Derived.Test.YtmjffikdaejffaaDSure
import Derived.Deep.RegionLaw
import Derived.Deep.QuietTactic
import Derived.BigQuiet
namespace Go.Proofs.Ytmjffikdaejffaa
open Go.ChangeShapes Go.WideShapes Go.ChangeAt Go.RowKit

/-- int(uint(a) % 8). -/
theorem mod8 (a : Int) : ∃ k : Nat, k < 8 ∧ IntKind.i64.wrap ((IntKind.u64.wrap a).tmod 8) = (k : Int) := by
  have h : IntKind.u64.wrap a = a % 18446744073709551616 := IntKind.wrap_u64 a
  rw [h, Int.tmod_eq_emod_of_nonneg (by omega), IntKind.wrap_i64]
  exact ⟨((a % 18446744073709551616) % 8).toNat, by omega, by omega⟩
theorem eight (w : World) (t : TypeId) : Bk (w.alloc (.cells #[.slice none 0 0, .slice none 0 0, .slice none 0 0, .slice none 0 0, .slice none 0 0, .slice none 0 0, .slice none 0 0, .slice none 0 0] t)) w.heap.size t (List.replicate 8 (Value.slice none 0 0)).toArray := Bk.new w t _

set_option maxRecDepth 100000 in
set_option maxHeartbeats 8000000 in
theorem diskSure_walk (AF : Option Addr) (nf cf : Nat) (lf : List UInt8) (A : Option Addr) (n c : Nat) (f : Nat → Ac) (AK : Option Addr) (nk ck : Nat) (lk : List Int) (W : World) (_hcf : nf ≤ cf) (_hmf : cf ≤ 9223372036854775807) (hfl : Rd W W.heap.size AF nf lf) (_hc : n ≤ c) (_hm : c ≤ 9223372036854775807) (hf : Acts3 W W.heap.size A n f)
    (hk : RdI W W.heap.size AK nk lk) (hnk : nk ≤ 9223372036854775807) :
    Calls Try.prog 4 #[.slice AF nf cf, .slice A n c, .slice AK nk ck] W fun e w' => e = .returned (.bool true) ∧ Below W.heap.size W w' := by
  have Hf := Lib.hid hf
  have HK := Lib.hid hk
  have HFL := Lib.hid hfl
  clear hf hk hfl
  go_enter Try.func4, Try.ntmps4
  go_wp2_with fail
  refine (new_any 8 W (by omega) (by omega)).mono ?_
  rintro e w0 ⟨g, F0, rfl, hp0, hge0, hb0⟩
  have M0 : Hid (Mine W w0 F0 g (Dk.new 8)) := ⟨hp0, hge0, hb0⟩
  clear hp0 hge0 hb0
  have hba := (Below.refl w0.heap.size w0).alloc (Nat.le_refl _) (.cells #[.slice none 0 0, .slice none 0 0, .slice none 0 0, .slice none 0 0, .slice none 0 0, .slice none 0 0, .slice none 0 0, .slice none 0 0] 38)
  have Z0 : Hid (First W (w0.alloc (.cells #[.slice none 0 0, .slice none 0 0, .slice none 0 0, .slice none 0 0, .slice none 0 0, .slice none 0 0, .slice none 0 0, .slice none 0 0] 38)) g w0.heap.size (Dk.new 8) (List.replicate 8 (Value.slice none 0 0)) []) :=
    ⟨F0, fun k => F0 k ∨ k = w0.heap.size, ⟨M0.out.below hba, fun k h => .inl h, fun k h => h.elim (M0.out.2.1 k) fun e => e ▸ M0.out.2.2.size, fun k h => h.elim (fun h => by have := M0.out.1.lt k h; simp; omega) fun e => by simp; omega⟩, .inr rfl, fun h => by have := M0.out.1.lt _ h; omega, eight w0 _, rfl, Rows32.nil _⟩
  have HBW : Hid (Below W.heap.size W w0) := M0.out.2.2
  clear M0 hba
  go_wp2
  obtain ⟨gw, hgw⟩ : ∃ gw, gw = w0.heap.size := ⟨_, rfl⟩
  rw [← hgw] at Z0 ⊢
  clear hgw
  go_loopg [10] 8 (fun k i wr => ∃ (j : Nat), i = .int .i64 j ∧ j + k = 8 ∧ Hid (∃ d cs rs, First W wr g gw d cs rs ∧ Fill d rs ∧ rs.length = j ∧ ∀ x ∈ rs, x.length = 32))
  case atStart => exact ⟨0, rfl, rfl, ⟨_, _, _, Z0.out, Fill.start, rfl, by simp⟩⟩
  case round =>
    clear Z0 HBW
    obtain ⟨j, rfl, hk, HR⟩ := hrel
    obtain ⟨d, cs, rs, hfirst, hfill, hrl, hr32⟩ := HR.out
    have H1 := Lib.hid hfirst
    have HF1 := Lib.hid hfill
    have Hr32 := Lib.hid hr32
    have Hrl := Lib.hid hrl
    clear hfirst hfill hr32 hrl HR
    by_cases hj : j < 8
    · have hbel : Below W.heap.size W wr := by
        obtain ⟨F, X, h1, _⟩ := H1.out
        exact h1.mine.2.2
      have hx : ∃ (x : Int) (r : List UInt8), 0 ≤ x ∧ x < 256 ∧ r.length = 32 ∧ Hid (∀ w, Calls Try.prog 14 #[.int .u8 x, .int .i64 0] w (Row32 w r)) ∧ ((j < nf ∧ ∃ b o, AF = some ⟨b, o, none⟩ ∧ wr.cell? ⟨b, o + j, none⟩ = some (.int .u8 x)) ∨ (¬ j < nf ∧ x = 0)) := by
        by_cases hjf : j < nf
        · obtain ⟨b, o, e, hb, hcell⟩ := HFL.out.2 (by omega)
          have hl := HFL.out.1
          refine ⟨((lf[j]'(by omega)).toNat : Int), _, by omega, by have := u8_lt (lf[j]'(by omega)); omega, rowB_len _ 32, row_full _, .inl ⟨hjf, b, o, e, ?_⟩⟩
          exact (hbel.cell (p := ⟨b, o + j, none⟩) hb).trans (hcell j (by omega))
        · exact ⟨0, _, by omega, by omega, rowB_len 0 32, row_full 0, .inr ⟨hjf, rfl⟩⟩
      obtain ⟨x, r, hx0, hx1, hr, Hrow, hcase⟩ := hx
      have Hr := Lib.hid hr
      clear hr hbel
      rcases hcase with ⟨hjf, b, o, rfl, hcell⟩ | ⟨hjf, rfl⟩
      all_goals
        go_wp2_with fail
        refine (Hrow.out _).mono ?_
        rintro e w1 ⟨Ab, cb, rfl, ho, hbl⟩
        have hrl := Hrl.out
        subst hrl
        have hbk : Bk w1 gw 38 cs.toArray ∧ cs.length = 8 := by
          obtain ⟨F, X, h1, h2, h3, h4, h5, h6⟩ := H1.out
          exact ⟨h4.below hbl h4.lt, h5⟩
        obtain ⟨u0, k1⟩ : ∃ u0, w1.cell? ⟨gw, rs.length, none⟩ = some u0 := ⟨cs[rs.length]'(by omega), by rw [hbk.1.cell]; simp⟩
        have f1 := hbk.1.frozen rs.length
        have C2 := Lib.hid (H1.out.put HF1.out hj Hr.out ho hbl)
        have HF2 := Lib.hid (HF1.out.write hj Hr.out).2
        clear ho hbl hbk HFL Hrl
        go_wp2_with fail
        refine C2.out.mono ?_
        rintro e w2 ⟨rfl, hfst⟩
        have H2 := Lib.hid hfst
        clear hfst C2 k1 f1 H1
        go_wp2
        go_roundg (gk - 1)
        case measure => omega
        case rel => exact ⟨rs.length + 1, by go_num, by omega, ⟨_, _, _, H2.out, HF2.out, by simp, fun x hx => by
          rcases List.mem_append.1 hx with hx | hx
          · exact Hr32.out x hx
          · simp at hx; subst hx; exact Hr.out⟩⟩
    · have hj8 : j = 8 := by omega
      subst hj8
      have hsy := HF1.out.sync Hrl.out
      have C3 : Hid (Calls Try.prog 16 #[.pointer (some ⟨g, 0, none⟩)] wr fun e w' => e = .returned (.int .i64 0) ∧ First W w' g gw (calm rs) cs rs) := by
        obtain ⟨F, X, h1, h2, h3, h4, h5, h6⟩ := H1.out
        have hr := sync_any g d F wr (by have := HF1.out.wl; have := Hrl.out; omega) h1.mine.1
        rw [hsy] at hr
        refine hr.mono ?_
        rintro e w' ⟨rfl, F', hp, hm⟩
        exact ⟨rfl, First.turn h1 h2 h3 h4 h5 h6 hp hm⟩
      clear hsy H1 HF1
      go_wp2_with fail
      refine C3.out.mono ?_
      rintro e w2 ⟨rfl, hfst⟩
      have H2 := Lib.hid hfst
      clear hfst C3
      go_wp2
      have H3 : Hid (∃ F X, Second W (w2.alloc (.cells #[.slice none 0 0, .slice none 0 0, .slice none 0 0, .slice none 0 0, .slice none 0 0, .slice none 0 0, .slice none 0 0, .slice none 0 0] 43)) F X g gw w2.heap.size (calm rs) cs (List.replicate 8 (Value.slice none 0 0)) rs (fun _ => []) (fun _ => [])) := by
        obtain ⟨F, X, h1, h2, h3, h4, h5, h6⟩ := H2.out
        exact ⟨F, _, Second.start h1 h2 h3 h4 h5 h6 rfl⟩
      have HU := Lib.hid (Ups.start Hrl.out Hr32.out)
      clear H2 Hr32 hj hk HFL
      obtain ⟨gp, hgp⟩ : ∃ gp, gp = w2.heap.size := ⟨_, rfl⟩
      rw [← hgp] at H3 ⊢
      clear hgp
      go_loopg [13] n (fun k i wr => ∃ q : Nat, i = .int .i64 q ∧ q + k = n ∧ q ≤ 60 ∧ Hid (∃ F X d ps V L, Second W wr F X g gw gp d cs ps rs V L ∧ Ups d rs L q ∧ ∀ a, (V a).length ≤ q))
      case atStart =>
        obtain ⟨F, X, h⟩ := H3.out
        exact ⟨0, rfl, by omega, by omega, ⟨F, X, _, _, _, _, h, HU.out, fun a => Nat.le_refl _⟩⟩
      case round =>
        clear H3 HU
        obtain ⟨q, rfl, hk, hq60, HR⟩ := hrel
        obtain ⟨F, X, d, ps, V, L, hsec, hups, hvl⟩ := HR.out
        have H4 := Lib.hid hsec
        have HU := Lib.hid hups
        have HV := Lib.hid hvl
        clear hsec hups hvl HR
        by_cases hq : q < n ∧ q < 60
        · obtain ⟨hq1, hq2⟩ := hq
          obtain ⟨b, o, rfl, hb, hact⟩ := Hf.out (by omega)
          obtain ⟨_, _, t1, t2, _, _⟩ := hact q hq1
          obtain ⟨a8, ha8, hmod⟩ := mod8 (f q).at_
          have hbel := H4.out.has.mine.2.2
          have u1 : wr.cell? ⟨b, o + q * 5 + 1, none⟩ = some (.int .i64 (f q).at_) := (hbel.cell (p := ⟨b, o + q * 5 + 1, none⟩) hb).trans t1
          have u2 : wr.cell? ⟨b, o + q * 5 + 2, none⟩ = some (.int .u8 ((f q).fill.toNat : Int)) := (hbel.cell (p := ⟨b, o + q * 5 + 2, none⟩) hb).trans t2
          have hx := u8_lt (f q).fill
          have Hrow := Lib.hid (row_full (f q).fill)
          have Hr := Lib.hid (rowB_len (f q).fill 32)
          clear hact t1 t2 hbel hb
          generalize rowB (f q).fill 32 = r at *
          generalize (f q).at_ = at_ at *
          generalize (f q).fill = fill at *
          have ha80 : (0 : Int) ≤ (a8 : Int) := by omega
          have ha88 : (a8 : Int) < 8 := by omega
          go_wp2_with fail
          refine (Hrow.out _).mono ?_
          rintro e w3 ⟨Ab, cb, rfl, ho, hbl⟩
          have H5 := Lib.hid (H4.out.below hbl)
          have HH : Hid (Held w3 X Ab 32 cb r) := Held.make (e := H4.out.has.lt) ho
          have C2 := Lib.hid (H5.out.write HU.out (by omega) ha8 Hr.out HH.out)
          have HU2 := Lib.hid (HU.out.write ha8 Hr.out).2
          clear ho hbl H4 HU HH u1 u2
          go_wp2_with fail
          refine C2.out.mono ?_
          rintro e w4 ⟨rfl, F', X', hsec, hheld⟩
          have H6 := Lib.hid hsec
          have HH := Lib.hid hheld
          clear hsec hheld C2 H5
          obtain ⟨v, hv⟩ : ∃ v, ps[a8]? = some v := ⟨ps[a8]'(by rw [H6.out.lp]; exact ha8), List.getElem?_eq_getElem _⟩
          have k1 : w4.cell? ⟨gp, a8, none⟩ = some v := by rw [H6.out.bp.cell]; simpa using hv
          have Hv := Lib.hid hv
          obtain ⟨i0, hi0, hz0, hz1, hz2⟩ := info_parts Try.infoBytesT
          have Hi0 := Lib.hid hi0
          have Hz0 := Lib.hid hz0
          have Hz1 := Lib.hid hz1
          have Hz2 := Lib.hid hz2
          have hal := (Below.refl w4.heap.size w4).alloc (Nat.le_refl _) (.cells #[.slice Ab 32 cb] 37)
          have Hal := Lib.hid hal
          obtain ⟨nv, hnv⟩ : ∃ nv, nv = (V a8).length := ⟨_, rfl⟩
          have hnv60 : nv ≤ 60 := by have := HV.out a8; omega
          have HROW : Hid ((w4.alloc (.cells #[.slice Ab 32 cb] 37)).ownsRow 0 37 1 v nv (V a8)) := by
            rw [hnv]
            exact ((H6.out.one a8 v hv).below hal).row
          have Hnv := Lib.hid hnv
          clear hi0 hz0 hz1 hz2 hal hnv hv
          go_wp2_with (at_builtin; go_loud (refine wpList_append_app _ rfl _ _ 42 rfl 0 37 i0 (.slice none 0 0) 1 24 Try.underlying42 Hi0.out Hz0.out Hz1.out Hz2.out rfl _ nv (V a8) rfl HROW.out (some ⟨w4.heap.size, 0, none⟩) 1 1 [Value.slice Ab 32 cb] rfl rfl (by intro h; cases h) (cell_new1 _ _ _) (by intro u hu; simp at hu; subst hu; rfl) (by unfold maxLen; omega) (by omega) (Nat.zero_le _) ?_))
          intro v5 w5 ha
          obtain ⟨A5, c5, rfl, _⟩ := own_shape ha.own
          have hbk5 : Bk w5 gp 43 ps.toArray := ((H6.out.below Hal.out).bp).kp (Kp.of_row (F := fun k => v.ownBlock = some k) ha.grow fun _ e => e) (fun e => own_bk ((H6.out.below Hal.out).one a8 v Hv.out).row (H6.out.below Hal.out).bp (by decide) e)
          have k2 : w5.cell? ⟨gp, a8, none⟩ = some v := by rw [hbk5.cell]; simpa using Hv.out
          have f2 := hbk5.frozen a8
          obtain ⟨X2, hsec⟩ := H6.out.push Hv.out HH.out Hal.out Hnv.out ha
          have H7 := Lib.hid hsec
          clear ha hsec H6 HH k1 HROW Hal hbk5
          go_wp2
          go_roundg (gk - 1)
          case measure => omega
          case rel => exact ⟨q + 1, by go_num, by omega, by omega, ⟨_, _, _, _, _, _, H7.out, HU2.out, fun i => by
            have := HV.out i
            show (if i = a8 then V i ++ [_] else V i).length ≤ q + 1
            split
            · simp; omega
            · omega⟩⟩
        · obtain ⟨S, hS, hcr⟩ := H4.out.crash (c := ck) HU.out (by omega) hnk HK.out
          have HS := Lib.hid hS
          have C3 := Lib.hid hcr
          clear hS hcr
          by_cases hqn : q < n
          all_goals try have hq5 : ¬ (q < 60) := by omega
          all_goals
            go_wp2_with fail
            refine C3.out.mono ?_
            rintro e w3 ⟨rfl, F', X', hsec⟩
            have H5 := Lib.hid hsec
            clear hsec C3 H4 HU
            have hnv : ∀ i, (L i).length = (V i).length ∨ 8 ≤ i := fun i => by
              by_cases hi : i < 8
              · have hv : ps[i]? = some (ps[i]'(by rw [H5.out.lp]; exact hi)) := List.getElem?_eq_getElem _
                exact .inl (H5.out.one i _ hv).len.symm
              · exact .inr (by omega)
            have HLn : Hid (∀ i, i < 8 → (L i).length ≤ 60) := fun i hi => by
              have := HV.out i
              rcases hnv i with h | h
              · omega
              · omega
            clear hnv HV hk hq
            go_wp2
            go_loopg [16] 8 (fun k i wv => ∃ i' : Nat, i = .int .i64 i' ∧ i' + k = 8 ∧ Hid (Second W wv F' X' g gw gp (calm S) cs ps rs V L))
            case atStart => exact ⟨0, rfl, rfl, H5.out⟩
            case round =>
              clear H5
              obtain ⟨i', rfl, hk1, H6⟩ := hrel
              by_cases hi : i' < 8
              · have hi0 : (0 : Int) ≤ (i' : Int) := by omega
                have hi8 : (i' : Int) < 8 := by omega
                have CR := Lib.hid (H6.out.read HS.out hi)
                go_wp2_with fail
                refine CR.out.mono ?_
                rintro e w7 ⟨As, cs7, rfl, hh, hb⟩
                have H7 := Lib.hid (H6.out.below hb)
                have HH := Lib.hid hh
                clear hh hb CR H6
                obtain ⟨nL, hnL⟩ : ∃ nL, nL = (L i').length := ⟨_, rfl⟩
                have hnL60 : nL ≤ 60 := by rw [hnL]; exact HLn.out i' hi
                have HnL := Lib.hid hnL
                clear hnL
                obtain ⟨g16, hg16⟩ : ∃ g16, g16 = gk := ⟨_, rfl⟩
                subst hg16
                go_wp2
                go_loopg [19] 32 (fun k x wk => ∃ p : Nat, x = .int .i64 p ∧ p + k = 32 ∧ Hid (Second W wk F' X' g gw gp (calm S) cs ps rs V L ∧ Held wk F' As 32 cs7 (S.getD i' [])))
                case atStart => exact ⟨0, rfl, rfl, ⟨H7.out, HH.out⟩⟩
                case round =>
                  clear H7 HH
                  obtain ⟨p, rfl, hk2, HR⟩ := hrel
                  by_cases hp : p < 32
                  · obtain ⟨hsec, hheld⟩ := HR.out
                    have hp0 : (0 : Int) ≤ (p : Int) := by omega
                    have hp32 : (p : Int) < 32 := by omega
                    obtain ⟨bs, os, rfl, _, hs⟩ := hheld.at32
                    obtain ⟨bw, ow, cw, k1, hw⟩ := hsec.was Hrl.out hi
                    have s1 := hs p hp
                    have s2 := hw p hp
                    clear hs hw hsec hheld
                    have Hok := Lib.hid (HS.out.ok hi hp)
                    generalize hs0 : (S.getD i' []).getD p 0 = s0 at *
                    generalize (rs.getD i' []).getD p 0 = r0 at *
                    have hx1 := u8_lt s0
                    have hx2 := u8_lt r0
                    obtain ⟨g19, hg19⟩ : ∃ g19, g19 = gk := ⟨_, rfl⟩
                    subst hg19
                    go_wp2
                    go_quiet (fail)
                    go_wp2
                    have hbq := (Kp.drewN (fun _ => False) wr nq).none_
                    have HR2 := Lib.hid (And.intro (HR.out.1.below hbq) (HR.out.2.below hbq))
                    clear hbq HR k1 s1 s2
                    have Hnext : Hid (s0.toNat = r0.toNat → s0 = r0) := fun h => UInt8.toNat_inj.1 h
                    go_loopg [20, 21] nL (fun k ok x wj => ∃ (t : Nat) (ob : Bool), x = .int .i64 t ∧ ok = .bool ob ∧ t + k = nL ∧ Hid ((s0 = r0 ∨ ∃ t', t' < t ∧ s0 = ((L i').getD t' []).getD p 0) → ob = true) ∧ Hid (Second W wj F' X' g gw gp (calm S) cs ps rs V L ∧ Held wj F' (some ⟨bs, os, none⟩) 32 cs7 (S.getD i' [])))
                    case atStart => exact ⟨0, _, rfl, rfl, by omega, (by rintro (h | ⟨t', h, _⟩)
                                                                         · subst h; simp
                                                                         · omega), HR2.out⟩
                    case round =>
                      clear HR2
                      obtain ⟨t, ob, rfl, rfl, hk3, Hob, HR⟩ := hrel
                      obtain ⟨hsec, hheld⟩ := HR.out
                      obtain ⟨Ap, cp, kp, hput⟩ := hsec.puts hi
                      rw [← HnL.out] at kp hput
                      by_cases ht : t < nL
                      · obtain ⟨qb, rfl, bb, ob', cb', c1, c2⟩ := hput t ht
                        obtain ⟨bs', os', e, _, hs⟩ := hheld.at32
                        injection e with e
                        injection e with e1 e2
                        subst e1 e2
                        have s1 := hs p hp
                        have s2 := c2 p hp
                        rw [hs0] at s1
                        generalize hb0 : ((L i').getD t []).getD p 0 = b0 at *
                        have hx3 := u8_lt b0
                        have ht0 : (0 : Int) ≤ (t : Int) := by omega
                        have htn : (t : Int) < (nL : Int) := by omega
                        clear hs c2 hput hsec hheld
                        have HO := Lib.hid hs0
                        have HB0 := Lib.hid hb0
                        clear hs0 hb0
                        cases ob with
                        | true =>
                          go_wp2
                          go_quiet (fail)
                          go_wp2
                          have hbq := (Kp.drewN (fun _ => False) wr nq).none_
                          have HR3 := Lib.hid (And.intro (HR.out.1.below hbq) (HR.out.2.below hbq))
                          clear hbq
                          go_roundg (gk - 1)
                          case measure => omega
                          case rel => exact ⟨t + 1, true, by go_num, rfl, by omega, (fun _ => rfl), HR3.out⟩
                        | false =>
                          go_wp2
                          go_quiet (fail)
                          go_wp2
                          have hbq := (Kp.drewN (fun _ => False) wr nq).none_
                          have HR3 := Lib.hid (And.intro (HR.out.1.below hbq) (HR.out.2.below hbq))
                          clear hbq
                          go_roundg (gk - 1)
                          case measure => omega
                          case rel => exact ⟨t + 1, _, by go_num, rfl, by omega, (by
                            rintro (h | ⟨t', h1, h2⟩)
                            · exact absurd (Hob.out (.inl h)) (by simp)
                            · by_cases h3 : t' < t
                              · exact absurd (Hob.out (.inr ⟨t', h3, h2⟩)) (by simp)
                              · have h4 : t' = t := by omega
                                subst h4
                                rw [HB0.out] at h2
                                subst h2
                                simp), HR3.out⟩
                      · have hob1 : ob = true := by
                          refine Hob.out ?_
                          rcases Hok.out with h | ⟨t', h1, h2⟩
                          · exact .inl h
                          · exact .inr ⟨t', by have := HnL.out; omega, h2⟩
                        subst hob1
                        clear hput hsec hheld
                        go_wp2
                        go_roundg (g19 - 1)
                        case measure => omega
                        case rel => exact ⟨p + 1, by go_num, by omega, HR.out⟩
                  · go_wp2
                    go_roundg (g16 - 1)
                    case measure => omega
                    case rel => exact ⟨i' + 1, by go_num, by omega, HR.out.1⟩
              · have HB := Lib.hid H6.out.has.mine.2.2
                clear H6
                go_wp2_with fail
                refine (known_any _).mono ?_
                rintro e w10 ⟨rfl, hb⟩
                have HB2 := Lib.hid (HB.out.trans (hb.mono HB.out.size))
                clear hb
                go_wp2
                go_ret
                exact ⟨rfl, HB2.out⟩
namespace diskSure
set_option maxRecDepth 100000 in
theorem lifted (os : Os) (started : os.Started) (H : Type) (enc : TypeId × Value → H) :
    ReturnsInHanded {} Try.checked os 4 .any (Rows.diskSureSpec.pre6 enc Try.prog Try.f4 Rows.diskSureRow.domain false) (Rows.diskSureSpec.post enc Try.prog Try.f4 false true false false) := by
  refine law_lift started (by kernel_rfl) Try.func4
    (ChangeSpec.witness6 (enc := enc) (C := Try.checked) false ⟨#[], #[.slice none 0 0, .slice none 0 0, .slice none 0 0], []⟩ 8 (by kernel_rfl) (by kernel_rfl) (by kernel_rfl) (by kernel_rfl))
    rfl ?_ (by kernel_rfl) (by kernel_rfl) ?_
  · intro ds h
    match ds, h with
    | [_, _, _], _ => rfl
  intro W base args ds p g
  have hA := g.trod
  have hval := g.val
  rw [Try.params4] at hA hval
  obtain ⟨v0, vs0, d0, ds0, p0, q0, hargs, rfl, rfl, h0, r0⟩ := trodAll_cons hA
  obtain ⟨v1, vs1, d1, ds1, p1, q1, rfl, rfl, rfl, h1, r1⟩ := trodAll_cons r0
  obtain ⟨v2, vs2, d2, ds2, p2, q2, rfl, rfl, rfl, h2, r2⟩ := trodAll_cons r1
  obtain ⟨rfl, rfl, rfl⟩ := trodAll_nil r2
  obtain rfl : args = #[v0, v1, v2] := by cases args; simp_all
  obtain ⟨A0, n0, c0, l0, rfl, hc0, hm0, hr0⟩ := given_bytes (hval 0 37 v0 rfl rfl) h0
  obtain ⟨A1, n1, c1, f1, rfl, hc1, hm1, hr1⟩ := given_acts3 (hval 1 22 v1 rfl rfl) h1
  obtain ⟨A2, n2, c2, l2, rfl, hc2, hm2, hr2⟩ := given_ints (hval 2 32 v2 rfl rfl) h2
  exact diskSure_walk A0 n0 c0 l0 A1 n1 c1 f1 A2 n2 c2 l2 W hc0 hm0 hr0 hc1 hm1 hr1 hr2 (by omega)

theorem over : Rows.diskSureRow.holds Try.pinned (OpenSpec.ofChange Rows.diskSureSpec) :=
  OpenClaim.holds_of_wide 4 Try.f4 rfl rfl rfl rfl rfl rfl rfl ⟨rfl, rfl, rfl, rfl, rfl⟩ rfl rfl rfl rfl rfl (by kernel_rfl) Try.func4 (by kernel_rfl)
    (of_decide_eq_true (by kernel_rfl)) (by unfold Func.isWrapper; first | (rw [if_pos (by decide +kernel)]; kernel_rfl) | (rw [if_neg (by decide +kernel)]; exact ⟨rfl, rfl⟩))
    (fun os started H enc _ => lifted os started H enc)
end diskSure

theorem DiskSure_proved : Rows.DiskSureSaid := diskSure.over
#print axioms DiskSure_proved
end Go.Proofs.Ytmjffikdaejffaa
