/- BinReader is true at every bytes and every acts. Conditions: none. -/
import Derived.Test.YtlnbebeghfhfdaaReaderS
import Derived.Test.YtlnbebeghfhfdaaKnown
import Derived.Deep.RegionWith
import Derived.Deep.RegionHeld3
import Derived.Deep.DeepCutAuto
import Derived.BigQuiet
import Derived.Deep.QuietTactic
namespace Go.Proofs.Ytlnbebeghfhfdaa
open Go.ChangeShapes Go.WideShapes Go.ChangeAt Go.RowKit

set_option maxHeartbeats 2000000 in
set_option maxRecDepth 100000 in
theorem binReader_walk (A : Option Addr) (n c : Nat) (l : List UInt8) (La : Option Addr) (nl cl : Nat) (f : Nat → Bool × Int) (w : World) (hc : n ≤ c) (hm : c ≤ 9223372036854775807) (h : Rd w w.heap.size A n l)
    (_hcl : nl ≤ cl) (_hml : cl ≤ 9223372036854775807) (hf : Acts w w.heap.size La nl f) :
    Calls Try.prog 9 #[.slice A n c, .slice La nl cl] w fun e w' => e = .returned (.bool true) ∧ Below w.heap.size w w' := by
  by_cases hbig : 4096 < n
  · go_enter Try.func9, Try.ntmps9
    go_wp2_with fail
    refine (known_any _).mono ?_
    rintro e w' ⟨rfl, hb⟩
    go_wp2
    go_ret
    exact ⟨rfl, hb⟩
  · have hl := h.1
    obtain ⟨i1, hi1, hy0, hy1, hy2⟩ := info_parts Try.infoBytes
    have Cl := Lib.hid (lent_any A n c w.heap.size l w (by omega) h)
    have Hl := Lib.hid hl
    have Hr := Lib.hid h
    have Hf := Lib.hid hf
    have Hbig := Lib.hid hbig
    clear hl h hf
    go_enter Try.func9, Try.ntmps9
    go_wp2_with fail
    refine Cl.out.mono ?_
    rintro e' w1 ⟨g, cap, rfl, hx, hb⟩
    have hcap := lent_cap hx
    have Hx := Lib.hid (lent_rd Hl.out hx)
    have Hx0 := Lib.hid hx
    have Hb1 := Lib.hid hb
    clear hx hb Cl
    have Cn := Lib.hid (new_any (some ⟨g, 0, none⟩) n cap l w1 (by omega) Hx.out)
    go_wp2_with fail
    refine Cn.out.mono ?_
    rintro e' w2 ⟨R, A', c', rfl, hR, hbr0, hb2, hbr⟩
    have z1 := Hb1.out.size
    have Hb2 := Lib.hid (below_then Hb1.out hb2)
    have Hx2 := Lib.hid (own_below Hx0.out hb2 fun k hk => (Hx0.out.lt k hk).2)
    have Hbr := Lib.hid hbr
    have hgR : g < R := Nat.lt_of_lt_of_le (Hx0.out.lt g rfl).2 hR
    clear hbr hb2 Cn hbr0
    have Cw := Lib.hid (whole_any g cap w.heap.size n c _ A l w2 (by omega) Hx2.out (Hr.out.up Hb2.out))
    go_wp2_with fail
    refine Cw.out.mono ?_
    rintro e' w' ⟨rfl, rfl⟩
    clear Cw
    have Cs := Lib.hid (spoil_any g n cap w.heap.size l w2 (by omega) (lent_own Hl.out Hx2.out))
    go_wp2_with fail
    refine Cs.out.mono ?_
    rintro e' w3 ⟨rfl, hg3⟩
    have HR := Lib.hid (Hbr.out g w3 (Hx0.out.lt g rfl).2 hg3)
    have Hb3 := Lib.hid (Hb2.out.grown hg3 Hb2.out.size fun k hk => by injection hk with hk; have := (Hx0.out.lt g rfl).1; omega)
    have z3 := hg3.size
    clear hg3 Cs Hbr Hx2 Hx0 Hb2 Hb1 Hx
    go_wp2_with fail
    have hal := (Below.refl w3.heap.size w3).alloc (Nat.le_refl _) (.cells #[.slice A n c, .int .i64 0, .int .i64 0] 61)
    have HB4 := below_then Hb3.out hal
    have start : Hid (Round w (w3.alloc (.cells #[.slice A n c, .int .i64 0, .int .i64 0] 61)) (w3.heap.size + 1) R w3.heap.size n c l A none 0 0 0 0 n c' A' l [] []) :=
      ⟨HR.out.below hal (by have := HR.out.blk.lt; omega), ⟨Bk.new w3 _ _, ⟨hc, hm⟩, ((Hr.out.below HB4).more (by have := Hb3.out.size; omega)), by omega⟩, ⟨fun _ => rfl, fun h => absurd rfl h, by omega, by omega⟩,
        World.ownsRow_nil _ _ _ _, rfl, Fam.nil _ _, by simp, HB4, by simp, HR.out.blk.lt, by omega, by omega⟩
    generalize hw4 : w3.alloc (.cells #[.slice A n c, .int .i64 0, .int .i64 0] 61) = w4 at *
    generalize w3.heap.size = M at *
    clear HB4 hal HR Hb3 z3 z1 hgR hR hcap hw4
    go_loopg [8, 9] 60 (fun k tv iv wr => ∃ (i p err K cK n' c' : Nat) (At A' : Option Addr) (rem : List UInt8) (vals : List Value) (ls : List (List UInt8)), iv = .int .i64 i ∧ tv = .slice At K cK ∧ i + k = 60 ∧ K ≤ i ∧ Hid (Round w wr (M + 1) R M n c l A At K cK p err n' c' A' rem vals ls))
    case atStart => exact ⟨0, 0, 0, 0, 0, n, c', none, A', l, [], [], rfl, rfl, rfl, Nat.le_refl _, start⟩
    case round =>
      clear start A' c'
      obtain ⟨i, p, err, K, cK, n', c', At, A', rem, vals, ls, rfl, rfl, hk, hKi, H⟩ := hrel
      by_cases hi : i < nl ∧ i < 60
      · obtain ⟨hin1, hin2⟩ := hi
        obtain ⟨b, o, rfl, hb, hact⟩ := (Hf.out.up H.out.below) (by omega)
        obtain ⟨t0, t1, hm1, hm2⟩ := hact i hin1
        clear hact
        generalize (f i).1 = T at *
        generalize (f i).2 = Mo at *
        have hn' := H.out.n_le
        have hle : l.length ≤ 9223372036854775807 := by have := Hl.out; omega
        cases T with
        | false =>
          obtain ⟨v, p', e', rem', hU, hUR, hpar, hv⟩ := next_num l rem p err hle H.out.par
          have Cb := uint_meth R A' n' c' err rem wr H.out.br
          rw [hU] at Cb
          have Cb := Lib.hid Cb
          have Hpar := Lib.hid hpar
          clear hU hpar
          go_wp2_with fail
          refine Cb.out.mono ?_
          rintro e0 w5 ⟨rfl, ⟨A1, n1, c1, hbr1⟩, hg1⟩
          have Cr := ruint_meth M A n c p err l w5 (H.out.mr1 Hr.out hg1)
          rw [hUR] at Cr
          have Cr := Lib.hid Cr
          have Hbr1 := Lib.hid hbr1
          have Hg1 := Lib.hid hg1
          clear hUR hbr1 hg1 Cb
          go_wp2_with fail
          refine Cr.out.mono ?_
          rintro e0 w6 ⟨rfl, hmr2, hg2⟩
          have H' := Lib.hid (H.out.num Hbr1.out Hg1.out hmr2 hg2 Hpar.out)
          have m2 : w6.cell? ⟨M, 2, none⟩ = some (.int .i64 e') := H'.out.mr.blk.cell 2
          have L1 := Lib.hid H'.out.left1
          have L2 := Lib.hid H'.out.left2
          have E1 := Lib.hid H'.out.err1
          clear hmr2 hg2 Cr Hbr1 Hg1 Hpar H
          go_wp2_with fail
          go_quiet ((first
            | (go_at_call 38; exact Calls.quiet_of_same (L1.out _))
            | (go_at_call 39; exact Calls.quiet_of (L2.out _))
            | (go_at_call 40; exact Calls.quiet_of_same (E1.out _))))
          go_wp2
          go_roundg (gk - 1)
          case measure => omega
          case rel => exact ⟨i + 1, p', e', K, cK, n1, c1, At, A1, rem', vals, ls, by go_num, rfl, by omega, by omega, H'.out.drewN _⟩
        | true =>
          obtain ⟨t, p', e', rem', hB, hBR, hpar, htl⟩ := next_text l rem p err Mo hle H.out.par
          have Cb := bytes_meth R A' n' c' err Mo rem wr (by omega) hm1 hm2 H.out.br
          rw [hB] at Cb
          have Cb := Lib.hid Cb
          have Hpar := Lib.hid hpar
          have htl' : t.length ≤ 4096 := by have := Hl.out; omega
          clear hB hpar htl
          go_wp2_with fail
          refine Cb.out.mono ?_
          rintro e0 w5 ⟨s, rfl, hos, ⟨A1, n1, c1, hbr1⟩, hg1⟩
          obtain ⟨As, cs, rfl, _⟩ := own_shape hos
          have Cr := rbytes_meth M A n c p err Mo l w5 (by omega) hm1 hm2 (H.out.mr1 Hr.out hg1)
          rw [hBR] at Cr
          have Cr := Lib.hid Cr
          have Hbr1 := Lib.hid hbr1
          have Hg1 := Lib.hid hg1
          have Hos := Lib.hid hos
          have t1' : w5.cell? ⟨b, o + i * 2 + 1, none⟩ = some (.int .i64 Mo) := (World.cell?_of_block (hg1.block b (by have := H.out.below.size; omega) (fun e => by injection e with e; have := H.out.rge; omega))).trans t1
          clear hBR hbr1 hg1 Cb hos
          go_wp2_with fail
          refine Cr.out.mono ?_
          rintro e0 w6 ⟨s2, rfl, hot, hmr2, hg2⟩
          obtain ⟨At2, ct, rfl, _⟩ := own_shape hot
          have Sa := same_any _ _ _ _ cs ct _ _ _ _ w6 (Rd.of_own (own_grown Hos.out hg2 (by have := H.out.mlt; have := H.out.size; omega))) (Rd.of_own hot)
          rw [beq_self_eq_true] at Sa
          have Sa := Lib.hid Sa
          have To := Lib.hid (H.out.num Hbr1.out Hg1.out hmr2 hg2 Hpar.out).told
          have Ts := (H.out.num Hbr1.out Hg1.out hmr2 hg2 Hpar.out).size
          have Tx := fun w7 v' o => H.out.text (w3 := w7) (v' := v') (o := o) Hos.out Hbr1.out Hg1.out hmr2 hg2 Hpar.out htl'
          have Tx := Lib.hid Tx
          clear Cr hot hmr2 hg2 Hbr1 Hg1 Hpar Hos H t0 t1 t1'
          go_wp2_with fail
          refine Sa.out.mono ?_
          rintro e0 w' ⟨rfl, rfl⟩
          clear Sa
          go_wp2_with (at_builtin; refine wpList_append_app _ rfl _ _ 31 rfl (M + 1) 24 i1 (.slice none 0 0) 1 24 Try.underlying31 hi1 hy0 hy1 hy2 rfl _ _ _ rfl (To.out.alloc _) (some ⟨w6.heap.size, 0, none⟩) 1 1 [Value.slice As t.length cs] rfl rfl (by intro h; cases h) (cell_new1 _ _ _) (by intro u hu; simp at hu; subst hu; rfl) (by unfold maxLen; omega) (by omega) (by simp; omega) ?_)
          intro v' w7 ha
          obtain ⟨At', cK', rfl, h7⟩ := Tx.out _ _ _ ha
          have H' := Lib.hid h7
          have m2 : w7.cell? ⟨M, 2, none⟩ = some (.int .i64 e') := H'.out.mr.blk.cell 2
          have L1 := Lib.hid H'.out.left1
          have L2 := Lib.hid H'.out.left2
          have E1 := Lib.hid H'.out.err1
          clear ha h7 Tx To
          go_wp2_with fail
          go_quiet ((first
            | (go_at_call 38; exact Calls.quiet_of_same (L1.out _))
            | (go_at_call 39; exact Calls.quiet_of (L2.out _))
            | (go_at_call 40; exact Calls.quiet_of_same (E1.out _))))
          go_wp2
          go_roundg (gk - 1)
          case measure => omega
          case rel => exact ⟨i + 1, p', e', K + 1, cK', n1, c1, At', A1, rem', _, _, by go_num, rfl, by omega, by omega, H'.out.drewN _⟩
      · have hK : K ≤ 60 := by omega
        have Ow := Lib.hid (H.out.own hK)
        by_cases h1 : i < nl
        all_goals by_cases h2 : i < 60
        all_goals first
          | (exfalso; omega)
          | (go_wp2_with fail
             refine (uint_nil _).mono ?_
             rintro e0 w' ⟨rfl, rfl⟩
             go_wp2_with fail
             refine (bytes_nil _ 5).mono ?_
             rintro e0 w' ⟨rfl, rfl⟩
             go_wp2_with fail
             refine (left_nil _).mono ?_
             rintro e0 w' ⟨rfl, rfl⟩
             go_wp2_with fail
             refine (err_nil _).mono ?_
             rintro e0 w' ⟨rfl, rfl⟩
             go_wp2_with fail
             refine (known_any _).mono ?_
             rintro e0 w7 ⟨rfl, hk7⟩
             have O := Lib.hid (Ow.out _ hk7)
             clear hk7
             go_wp2_with fail
             refine O.out.mono ?_
             rintro e0 w8 ⟨rfl, hb8⟩
             have HB := Lib.hid hb8
             clear hb8
             go_wp2
             go_ret
             exact ⟨rfl, HB.out⟩)
namespace binReader
set_option maxRecDepth 100000 in
theorem lifted (os : Os) (started : os.Started) (H : Type) (enc : TypeId × Value → H) :
    ReturnsInHanded {} Try.checked os 9 .any (Rows.binReaderSpec.pre6 enc Try.prog Try.f9 Rows.binReaderRow.domain false) (Rows.binReaderSpec.post enc Try.prog Try.f9 false true false false) := by
  refine law_lift started (by kernel_rfl) Try.func9
    (ChangeSpec.witness6 (enc := enc) (C := Try.checked) false ⟨#[], #[.slice none 0 0, .slice none 0 0], []⟩ 8 (by kernel_rfl) (by kernel_rfl) (by kernel_rfl) (by kernel_rfl))
    rfl ?_ (by kernel_rfl) (by kernel_rfl) ?_
  · intro ds h
    match ds, h with
    | [_, _], _ => rfl
  intro W base args ds p g
  have hA := g.trod
  have hval := g.val
  rw [Try.params9] at hA hval
  obtain ⟨v0, vs0, d0, ds0, p0, q0, hargs, rfl, rfl, h0, r0⟩ := trodAll_cons hA
  obtain ⟨v1, vs1, d1, ds1, p1, q1, rfl, rfl, rfl, h1, r1⟩ := trodAll_cons r0
  obtain ⟨rfl, rfl, rfl⟩ := trodAll_nil r1
  obtain rfl : args = #[v0, v1] := by cases args; simp_all
  obtain ⟨A0, n0, c0, l0, rfl, hc0, hm0, hr0⟩ := given_bytes (hval 0 24 v0 rfl rfl) h0
  obtain ⟨A1, n1, c1, l1, rfl, hc1, hm1, hr1⟩ := given_acts (hval 1 56 v1 rfl rfl) h1
  exact binReader_walk A0 n0 c0 l0 A1 n1 c1 l1 W hc0 hm0 hr0 hc1 hm1 hr1

theorem over : Rows.binReaderRow.holds Try.pinned (OpenSpec.ofChange Rows.binReaderSpec) :=
  OpenClaim.holds_of_wide 9 Try.f9 rfl rfl rfl rfl rfl rfl rfl ⟨rfl, rfl, rfl, rfl, rfl⟩ rfl rfl rfl rfl rfl (by kernel_rfl) Try.func9 (by kernel_rfl)
    (of_decide_eq_true (by kernel_rfl)) (by unfold Func.isWrapper; first | (rw [if_pos (by decide +kernel)]; kernel_rfl) | (rw [if_neg (by decide +kernel)]; exact ⟨rfl, rfl⟩))
    (fun os started H enc _ => lifted os started H enc)
end binReader

theorem BinReader_proved : Rows.BinReaderSaid := binReader.over
#print axioms BinReader_proved
end Go.Proofs.Ytlnbebeghfhfdaa
