/- SessOrder is true at every row of lists, of picks, every window and span. -/
import Derived.Test.YtjbfhffdnjahfaaSesLs
import Derived.Test.YtjbfhffdnjahfaaRows
namespace Go.Proofs.Ytjbfhffdnjahfaa
open Go.ChangeShapes Go.WideShapes Go.ChangeAt Go.RowKit Go.Deep

structure Pk7 where
  how : Int
  at_ : Int
  ack : Bool
def PicksIn (w : World) (B : Nat) (A : Option Addr) (n : Nat) (f : Nat → Pk7) : Prop :=
  0 < n → ∃ b o, A = some ⟨b, o, none⟩ ∧ b < B ∧ ∀ i, i < n → w.cell? ⟨b, o + i * 3, none⟩ = some (.int .i64 (f i).how) ∧ w.cell? ⟨b, o + i * 3 + 1, none⟩ = some (.int .i64 (f i).at_) ∧ w.cell? ⟨b, o + i * 3 + 2, none⟩ = some (.bool (f i).ack)
set_option maxRecDepth 100000 in
theorem given_picks {H : Type} {enc : TypeId × Value → H} {W : World} {base : Nat} {v : Value} {d : DataW H} {p : List MemPlace} (hv : Value.okWide Try.prog W .any base 69 v) (h : DataW.Trod enc Try.prog W 0 (fun _ => true) true 69 v d p) :
    ∃ (A : Option Addr) (n c : Nat) (f : Nat → Pk7), v = .slice A n c ∧ n ≤ c ∧ c ≤ 9223372036854775807 ∧ PicksIn W W.heap.size A n f := by
  obtain ⟨A, n, c, rfl⟩ := okWide_slice Try.underlying69 hv
  obtain ⟨fuel, hf⟩ := h
  have dflt : Pk7 := ⟨0, 0, false⟩
  rcases open_slice Try.underlying69 hf with ⟨hcs, _⟩ | ⟨a, len, cap, m, k, D, Pl, hcs, _, hl, hm, hmm, _, hi⟩
  · simp [Value.cells] at hcs
    obtain ⟨rfl, rfl, rfl⟩ := hcs
    exact ⟨none, 0, 0, fun _ => dflt, rfl, by omega, by omega, fun h => by omega⟩
  · simp [Value.cells] at hcs
    obtain ⟨rfl, rfl, rfl⟩ := hcs
    have hmm' : m = c := by simpa using hmm
    have key : ∀ i, ∃ x : Pk7, i < n → W.cell? (a.add (i * 3)) = some (.int .i64 x.how) ∧ W.cell? (a.add (i * 3 + 1)) = some (.int .i64 x.at_) ∧ W.cell? (a.add (i * 3 + 2)) = some (.bool x.ack) := by
      intro i
      by_cases hin : i < n
      · obtain ⟨cs', hc, ht'⟩ := hi i (by omega)
        have hC : Try.prog.cellsOf 74 = 3 := by kernel_rfl
        rw [hC] at hc
        obtain ⟨ys, n', hn', hy, hlen, hyl, hff⟩ := DataW.trod_struct Try.underlying74 ht'
        obtain ⟨_, hcl, hat⟩ := World.cells?_some hc
        match cs', hcl with
        | [u0, u1, u2], _ =>
          have hyl' : ys.length = 3 := hyl
          have e3 : Try.prog.cellsOf 3 = 1 := by kernel_rfl
          have e4 : Try.prog.cellsOf 4 = 1 := by kernel_rfl
          have f0 : DataW.trod enc Try.prog W 0 (fun _ => true) true n' 3 (List.take (Try.prog.cellsOf 3) (List.drop 0 [u0, u1, u2])) = ys[0]? := hff 0 _ rfl
          have f1 : DataW.trod enc Try.prog W 0 (fun _ => true) true n' 3 (List.take (Try.prog.cellsOf 3) (List.drop 1 [u0, u1, u2])) = ys[1]? := hff 1 _ rfl
          have f2 : DataW.trod enc Try.prog W 0 (fun _ => true) true n' 4 (List.take (Try.prog.cellsOf 4) (List.drop 2 [u0, u1, u2])) = ys[2]? := hff 2 _ rfl
          rw [List.getElem?_eq_getElem (by omega)] at f0 f1 f2
          simp only [e3, e4, List.drop_zero, List.drop_succ_cons, List.take_succ_cons, List.take_zero] at f0 f1 f2
          obtain ⟨z0, hz0, _, hw0⟩ := DataW.trod_int Try.underlying3 f0
          obtain ⟨z1, hz1, _, hw1⟩ := DataW.trod_int Try.underlying3 f1
          obtain ⟨z2, hz2, _⟩ := DataW.trod_bool Try.underlying4 f2
          injection hz0 with hz0
          injection hz1 with hz1
          injection hz2 with hz2
          have a0 := hat 0 (by omega)
          have a1 := hat 1 (by omega)
          have a2 := hat 2 (by omega)
          rw [Go.Deep.add_add] at a0 a1 a2
          rw [Nat.add_zero] at a0
          exact ⟨⟨z0, z1, z2⟩, fun _ => ⟨a0.trans (by rw [← hz0]; rfl), a1.trans (by rw [← hz1]; rfl), a2.trans (by rw [← hz2]; rfl)⟩⟩
      · exact ⟨dflt, fun h => absurd h hin⟩
    obtain ⟨f, hf'⟩ := Classical.axiomOfChoice key
    refine ⟨some a, n, c, f, rfl, hl, by unfold maxLen at hm; omega, fun hn => ?_⟩
    obtain ⟨b, o, spot⟩ := a
    have hc0 := (hf' 0 hn).1
    have hspot : spot = none := by simpa [Addr.add] using World.cell?_spot hc0
    subst hspot
    refine ⟨b, o, rfl, World.block_lt_of_cell? W _ (by simpa [Addr.add] using hc0), fun i hi => ?_⟩
    obtain ⟨h1, h2, h3⟩ := hf' i hi
    rw [Addr.add_lit] at h1 h2 h3
    exact ⟨h1, by rw [Nat.add_assoc]; exact h2, by rw [Nat.add_assoc]; exact h3⟩
set_option maxHeartbeats 8000000 in
set_option maxRecDepth 100000 in
theorem sessOrder_walk (window span : Int) (A : Option Addr) (n c : Nat) (ls : List (List UInt8)) (A2 : Option Addr) (n2 c2 : Nat) (f : Nat → Pk7) (W : World) (_ : -9223372036854775808 ≤ window) (_ : window ≤ 9223372036854775807) (_ : -9223372036854775808 ≤ span) (_ : span ≤ 9223372036854775807) (hc : n ≤ c) (hm : c ≤ 9223372036854775807) (hp : Prt W W.heap.size A n ls) (_ : n2 ≤ c2) (_ : c2 ≤ 9223372036854775807) (hs : PicksIn W W.heap.size A2 n2 f) :
    Calls Try.prog 5 #[.int .i64 window, .int .i64 span, .slice A n c, .slice A2 n2 c2] W fun e w' => e = .returned (.bool true) ∧ Below W.heap.size W w' := by
  have HKn := Lib.hid sknown_any
  have HFw := Lib.hid (few_any A n c W.heap.size ls W (by omega) hp)
  have HP := Lib.hid hp
  have HS := Lib.hid hs
  have Hn := Lib.hid hp.1
  have HSt := Lib.hid (fun h1 h2 => start_any window span A n c ls W hp h1 h2)
  clear hp hs
  cases hfw : fewB ls with
  | false =>
    rw [hfw] at HFw
    go_enter Try.func5, Try.ntmps5
    go_wp2_with fail
    refine HFw.out.mono ?_
    rintro e w1 ⟨rfl, rfl⟩
    go_wp2_with fail
    refine (HKn.out w1).mono ?_
    rintro e w2 ⟨rfl, hb⟩
    have HB := Lib.hid hb
    clear hb
    go_wp2
    go_ret
    exact ⟨rfl, HB.out⟩
  | true =>
    rw [hfw] at HFw
    have hbods : ∀ b ∈ ls, b.length ≤ 1000 := by
      unfold fewB at hfw
      rw [Bool.and_eq_true] at hfw
      intro b hb
      simpa using List.all_eq_true.1 hfw.1 b hb
    have hn60 : ls.length ≤ 60 := by
      unfold fewB at hfw
      rw [Bool.and_eq_true] at hfw
      simpa using hfw.2
    have HST := Lib.hid (HSt.out hn60 hbods)
    rw [Hn.out] at hn60
    clear hfw hbods HSt
    go_enter Try.func5, Try.ntmps5
    go_wp2_with fail
    refine HFw.out.mono ?_
    rintro e w1 ⟨rfl, rfl⟩
    go_wp2_with fail
    refine HST.out.mono ?_
    rintro e w2 ⟨gx, gy, g, rfl, x0, b0⟩
    have X0 := Lib.hid x0
    clear x0 b0 HST HFw
    go_wp2_with fail
    obtain ⟨N, hN⟩ : ∃ N, N = min n2 300 := ⟨_, rfl⟩
    go_loopg [10] N (fun gk j wr => ∃ k : Nat, j = .int .i64 (k : Int) ∧ k + gk = N ∧ Hid (LnX w1 wr gx gy g ls k))
    case atStart => exact ⟨0, rfl, by omega, X0⟩
    case round =>
      obtain ⟨k, rfl, hkg, HX⟩ := hrel
      by_cases hk : k < N
      · have k1 : (k : Int) < (n2 : Int) := by omega
        have k2 : (k : Int) < 300 := by omega
        obtain ⟨b, o, rfl, hlt, hcs⟩ := HS.out (by omega)
        obtain ⟨z0, z1, z2⟩ := hcs k (by omega)
        have hbw : Below w1.heap.size w1 wr := by
          obtain ⟨Fx, Fy, sx, ry, vt, vb, vo, ts, bk, out, hl, _⟩ := HX.out
          exact hl.tw.below
        replace z0 := (hbw.cell (p := ⟨b, o + k * 3, none⟩) hlt).trans z0
        replace z1 := (hbw.cell (p := ⟨b, o + k * 3 + 1, none⟩) hlt).trans z1
        replace z2 := (hbw.cell (p := ⟨b, o + k * 3 + 2, none⟩) hlt).trans z2
        have HPK := Lib.hid (HX.out.pick (by omega) (f k).how (f k).at_ (f k).ack)
        generalize f k = fk at *
        obtain ⟨fh, fa, fc⟩ := fk
        dsimp only at z0 z1 z2 HPK
        clear hcs hbw HX
        go_wp2_with fail
        refine HPK.out.mono ?_
        rintro e w3 ⟨rfl, x3⟩
        have X3 := Lib.hid x3
        obtain ⟨Fx, Fy, sx, ry, vt, vb, vo, ts, bk, out, hl, hok, _⟩ := x3
        obtain ⟨Ao, co, hvo, _⟩ := own_shape hl.outR.own
        obtain ⟨t1, t2, t3, t4⟩ := hok.told
        obtain ⟨no, hno⟩ : ∃ no, no = out.length := ⟨_, rfl⟩
        obtain ⟨ql, hql⟩ : ∃ ql, ql = sx.queue.length := ⟨_, rfl⟩
        rw [← hno] at hvo
        rw [List.length_map, ← hno] at t1 t2 t3
        rw [← hql] at t3 t4
        rw [Hn.out] at t3 t4
        have hrle := hok.rle
        rw [Hn.out] at hrle
        have y0 : w3.cell? ⟨g, 0, none⟩ = some (.pointer (some ⟨gx, 0, none⟩)) := hl.box.cell 0
        have y4 : w3.cell? ⟨g, 4, none⟩ = some vo := hl.box.cell 4
        rw [hvo] at y4
        have hor := hl.outR
        rw [hvo] at hor
        have HBG : Hid (∀ q, Calls Try.prog 31 #[.slice Ao no co, .slice A n c] (w3.drewN q) fun e w' => e = .returned (.bool true) ∧ ∃ m, w' = (w3.drewN q).drewN m) := Lib.hid fun q => by
          refine (begins_any Ao A no co n c w3.heap.size w1.heap.size (out.map (·.1)) ls (w3.drewN q) (by omega) hc hm ?_ ?_ t2).mono ?_
          · exact (hor.prt hno).below (bel_drewN (Below.refl _ _) q)
          · exact (HP.out.below hl.tw.below).below (bel_drewN (Below.refl _ _) q)
          · rintro e w' ⟨rfl, m, rfl⟩
            exact ⟨rfl, m, rfl⟩
        have HLF : Hid (∀ q, Calls Try.prog 20 #[.pointer (some ⟨gx, 0, none⟩)] (w3.drewN q) fun e w' => e = .returned (.int .i64 (ql : Int)) ∧ w' = w3.drewN q) := Lib.hid fun q => by
          rw [hql]
          exact ((hl.tw.mvb (bel_drewN (Below.refl _ _) q)).left).mono fun _ _ h => ⟨h.1, h.2.symm⟩
        have hcmp : ¬ (no : Int) < (n : Int) - (ql : Int) := by omega
        have hcmd : decide ((no : Int) < (n : Int) - (ql : Int)) = false := decide_eq_false hcmp
        have HXD : Hid (∀ q, LnX w1 (w3.drewN q) gx gy g ls (k + 1)) := Lib.hid fun q => by
          obtain ⟨Fx, Fy, sx, ry, vt, vb, vo, ts, bk, out, hl, hrest⟩ := X3.out
          exact ⟨Fx, Fy, sx, ry, vt, vb, vo, ts, bk, out, hl.below (bel_drewN (Below.refl _ _) q), hrest⟩
        clear hl hok hor hvo hno hql t1 t2 HPK z0 z1 z2 X3 hrle
        go_wp2_with fail
        go_quiet ((first
          | (go_at_call 31; exact Calls.quiet_of (HBG.out _))
          | (go_at_call 20; exact Calls.quiet_of_same (HLF.out _))))
        go_wp2
        go_roundg (gk - 1)
        case measure => omega
        case rel => exact ⟨k + 1, by go_num, by omega, Lib.hid (HXD.out _)⟩
      · obtain rfl : k = N := by omega
        have hbw : Below w1.heap.size w1 wr := by
          obtain ⟨Fx, Fy, sx, ry, vt, vb, vo, ts, bk, out, hl, _⟩ := HX.out
          exact hl.tw.below
        have HBW := Lib.hid hbw
        clear hbw
        by_cases k1 : k < n2
        · have k1' : (k : Int) < (n2 : Int) := by omega
          have k2' : ¬ (k : Int) < 300 := by omega
          go_wp2_with fail
          refine (HKn.out wr).mono ?_
          rintro e w9 ⟨rfl, hb9⟩
          have HB := Lib.hid (below_then HBW.out hb9)
          clear hb9
          go_wp2
          go_ret
          exact ⟨rfl, HB.out⟩
        · have k1' : ¬ (k : Int) < (n2 : Int) := by omega
          go_wp2_with fail
          refine (HKn.out wr).mono ?_
          rintro e w9 ⟨rfl, hb9⟩
          have HB := Lib.hid (below_then HBW.out hb9)
          clear hb9
          go_wp2
          go_ret
          exact ⟨rfl, HB.out⟩

namespace sessOrder
set_option maxRecDepth 100000 in
theorem lifted (os : Os) (started : os.Started) (H : Type) (enc : TypeId × Value → H) :
    ReturnsInHanded {} Try.checked os 5 .any (Rows.sessOrderSpec.pre6 enc Try.prog Try.f5 Rows.sessOrderRow.domain false) (Rows.sessOrderSpec.post enc Try.prog Try.f5 false true false false) := by
  refine law_lift started (by kernel_rfl) Try.func5
    (ChangeSpec.witness6 (enc := enc) (C := Try.checked) false ⟨#[], #[.int .i64 0, .int .i64 0, .slice none 0 0, .slice none 0 0], []⟩ 8 (by kernel_rfl) (by kernel_rfl) (by kernel_rfl) (by kernel_rfl))
    rfl ?_ (by kernel_rfl) (by kernel_rfl) ?_
  · intro ds h
    match ds, h with
    | [_, _, _, _], _ => rfl
  intro W base args ds p g
  have hA := g.trod
  have hval := g.val
  rw [Try.params5] at hA hval
  obtain ⟨v0, vs0, d0, ds0, p0, q0, hargs, rfl, rfl, h0, r0⟩ := trodAll_cons hA
  obtain ⟨v1, vs1, d1, ds1, p1, q1, rfl, rfl, rfl, h1, r1⟩ := trodAll_cons r0
  obtain ⟨v2, vs2, d2, ds2, p2, q2, rfl, rfl, rfl, h2, r2⟩ := trodAll_cons r1
  obtain ⟨v3, vs3, d3, ds3, p3, q3, rfl, rfl, rfl, h3, r3⟩ := trodAll_cons r2
  obtain ⟨rfl, rfl, rfl⟩ := trodAll_nil r3
  obtain rfl : args = #[v0, v1, v2, v3] := by cases args; simp_all
  obtain ⟨a0, rfl, _, _, w0⟩ := open_int Try.underlying3 (hval 0 3 v0 rfl rfl) h0
  have b0 := bounds_i64 w0
  obtain ⟨a1, rfl, _, _, w1⟩ := open_int Try.underlying3 (hval 1 3 v1 rfl rfl) h1
  have b1 := bounds_i64 w1
  obtain ⟨A2, n2, c2, ls2, rfl, hc2, hm2, hr2⟩ := given_prt (hval 2 33 v2 rfl rfl) h2
  obtain ⟨A3, n3, c3, f3, rfl, hc3, hm3, hr3⟩ := given_picks (hval 3 69 v3 rfl rfl) h3
  exact sessOrder_walk a0 a1 A2 n2 c2 ls2 A3 n3 c3 f3 W b0.1 b0.2 b1.1 b1.2 hc2 hm2 hr2 hc3 hm3 hr3

theorem over : Rows.sessOrderRow.holds Try.pinned (OpenSpec.ofChange Rows.sessOrderSpec) :=
  OpenClaim.holds_of_wide 5 Try.f5 rfl rfl rfl rfl rfl rfl rfl ⟨rfl, rfl, rfl, rfl, rfl⟩ rfl rfl rfl rfl rfl (by kernel_rfl) Try.func5 (by kernel_rfl)
    (of_decide_eq_true (by kernel_rfl)) (by unfold Func.isWrapper; first | (rw [if_pos (by decide +kernel)]; kernel_rfl) | (rw [if_neg (by decide +kernel)]; exact ⟨rfl, rfl⟩))
    (fun os started H enc _ => lifted os started H enc)
end sessOrder

theorem SessOrder_proved : Rows.SessOrderSaid := sessOrder.over
#print axioms SessOrder_proved
end Go.Proofs.Ytjbfhffdnjahfaa
