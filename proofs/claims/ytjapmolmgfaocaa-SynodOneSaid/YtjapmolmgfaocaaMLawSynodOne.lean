/- SynodOne: AT MOST ONE VALUE. -/
import Derived.Test.YtjapmolmgfaocaaM1SynX3
import Derived.Test.YtjapmolmgfaocaaM1SynRo
import Derived.Test.YtjapmolmgfaocaaM1Same
namespace Go.Proofs.Ytjapmolmgfaocaa
open Go.ChangeShapes Go.WideShapes Go.ChangeAt Go.RowKit Go.Maps

theorem Ro.arrive_q (r : Ro) (m : Ml) : (r.arrive m).q = r.q := by
  unfold Ro.arrive
  split
  · split
    · exact (Ro.send_same _ _).1
    · rfl
  split
  · split
    · exact (Ro.sends_same _ _ _ _ _ _).1
    · rfl
  split
  · split
    · exact (Ro.send_same _ _).1
    · rfl
  split <;> rfl
theorem Ro.take_q (r : Ro) (a : Int) : (r.take a).2.q = r.q := by
  unfold Ro.take
  split
  · exact (Ro.arrive_q _ _)
  · rfl
theorem Ro.takes_q (r : Ro) : ∀ k, (r.takes k).q = r.q
  | 0 => rfl
  | k + 1 => (Ro.take_q _ 0).trans (Ro.takes_q r k)
theorem Ro.play_q (r : Ro) (kd a : Int) (v : List UInt8) (n : Nat) : (r.play kd a v n).q = r.q := by
  unfold Ro.play
  split
  · unfold Ro.start
    split
    · rfl
    split
    · rfl
    split
    · rfl
    · exact (Ro.sends_same _ _ _ _ _ _).1
  split
  · exact Ro.take_q r _
  split
  · unfold Ro.drop; split <;> rfl
  split
  · unfold Ro.twice
    split
    · split
      · rfl
      · exact (Ro.send_same _ _).1
    · rfl
  split
  · unfold Ro.crash; split <;> rfl
  · exact Ro.takes_q r 60
/-- Ahead of each round. -/
def SOne (W w : World) (g N : Nat) (q : Qm) (won : Bool) (fA : Option Addr) (fn : Nat) : Prop :=
  ∃ col r x first, OwR W w col g N q.n r ∧ PI r x (fun _ => True) ∧ r.q = q ∧ (won = true → Chosen q x first ∧ Fr w col fA fn first)
/-- Behind Learned. -/
def SOneL (W w : World) (g N : Nat) (q : Qm) (won : Bool) (fA : Option Addr) (fn : Nat) (A : Option Addr) (n : Nat) (ok : Bool) : Prop :=
  ∃ col r x first l, OwR W w col g N q.n r ∧ PI r x (fun _ => True) ∧ r.q = q ∧ (won = true → Chosen q x first ∧ Fr w col fA fn first) ∧ Fr w col A n l ∧ (ok = true → Chosen q x l)
section
variable {W w w' : World} {g N : Nat} {q : Qm} {won : Bool} {fA : Option Addr} {fn : Nat}
theorem SOne.start {w : World} {col : Nat → Nat} (h : OwR W w col g N q.n (Ro.new q)) (hq : q.right = 0) : SOne W w g N q false none 0 :=
  ⟨col, _, _, [], h, PI.new hq, rfl, fun e => by cases e⟩
theorem SOne.play (h : SOne W w g N q won fA fn) (kd a : Int) (vA : Option Addr) (vn vc : Nat) (v : List UInt8) (hv : Rd w W.heap.size vA vn v) : Calls Try.prog 12 #[.pointer (some ⟨g, 0, none⟩), .agg #[.int .i64 kd, .int .i64 a, .slice vA vn vc], .int .i64 (q.n : Int)] w fun e w' => e = .returned (.tuple #[]) ∧ Hid (SOne W w' g N q won fA fn) ∧ Hid (Below W.heap.size W w') := by
  obtain ⟨col, r, x, first, h1, h2, h3, h4⟩ := h
  refine (play_any h1 kd a vA vn vc v (Fr.given hv h1.ge h1.bel.size)).mono ?_
  rintro e w' ⟨rfl, hs⟩
  obtain ⟨col', p1, p2⟩ := hs.out
  obtain ⟨x', hp, he⟩ := h2.play kd a v q.n
  refine ⟨rfl, Lib.hid ⟨col', _, x', first, p1, hp.monoL (fun _ _ => trivial), (Ro.play_q _ _ _ _ _).trans h3, fun e => ⟨(h4 e).1.ext he, (h4 e).2.cl p2⟩⟩, Lib.hid p1.bel⟩
theorem SOne.learned (h : SOne W w g N q won fA fn) (k : Nat) : Calls Try.prog 13 #[.pointer (some ⟨g, 0, none⟩), .int .i64 (k : Int)] w fun e w' => (∃ A n c ok, e = .returned (.tuple #[.slice A n c, .bool ok]) ∧ Hid (SOneL W w' g N q won fA fn A n ok)) ∧ Hid (Below W.heap.size W w') := by
  obtain ⟨col, r, x, first, h1, h2, h3, h4⟩ := h
  refine (h1.learned (k : Int)).mono ?_
  rintro e w' ⟨A, c, rfl, hs⟩
  refine ⟨⟨A, _, c, _, rfl, Lib.hid ⟨col, r, x, first, _, h1.below hs.out.1, h2, h3, fun e => ⟨(h4 e).1, (h4 e).2.below hs.out.1⟩, hs.out.2.1, fun e => ?_⟩⟩, Lib.hid (h1.below hs.out.1).bel⟩
  unfold Ro.learned at e ⊢
  split at e
  · rename_i hh
    rw [if_pos hh]
    have := h2.lrn _ e
    rw [h3] at this
    exact this
  · cases e
theorem SOneL.same {A : Option Addr} {n c fc : Nat} (h : SOneL W w g N q true fA fn A n true) : Calls Try.prog 14 #[.slice A n c, .slice fA fn fc] w fun e w' => e = .returned (.bool true) ∧ w = w' := by
  obtain ⟨col, r, x, first, l, h1, h2, h3, h4, h5, h6⟩ := h
  obtain ⟨c1, c2⟩ := h4 rfl
  have hc := h6 rfl
  rw [← h3] at c1 hc
  have he : l = first := Chosen.one h2 c1 hc
  refine (same_any A fA n fn c fc _ _ l first w h5.rd c2.rd).mono ?_
  rintro e w' ⟨rfl, rfl⟩
  exact ⟨by rw [he]; simp, rfl⟩
theorem SOneL.no {A : Option Addr} {n : Nat} (h : SOneL W w g N q won fA fn A n false) : SOne W w g N q won fA fn := by
  obtain ⟨col, r, x, first, l, h1, h2, h3, h4, _⟩ := h
  exact ⟨col, r, x, first, h1, h2, h3, h4⟩
theorem SOneL.yes {A : Option Addr} {n : Nat} (h : SOneL W w g N q won fA fn A n true) : SOne W w g N q true A n := by
  obtain ⟨col, r, x, first, l, h1, h2, h3, _, h5, h6⟩ := h
  exact ⟨col, r, x, l, h1, h2, h3, fun _ => ⟨h6 rfl, h5⟩⟩
end
set_option maxRecDepth 100000 in
set_option maxHeartbeats 8000000 in
theorem synodOne_walk (x : Gq) (A : Option Addr) (n c : Nat) (f : Nat → Ga) (W : World) (hq : Qi W x.q x.A x.n x.c) (hc1 : n ≤ c) (hc2 : c ≤ 9223372036854775807) (hA : As11 W W.heap.size A n f) : Calls Try.prog 3 #[x.v, .slice A n c] W fun e W' => e = .returned (.bool true) ∧ Below W.heap.size W W' := by
  obtain ⟨q, qA, qn, qc⟩ := x
  unfold Gq.v
  dsimp only at *
  obtain ⟨w1, HW1, HB1, HK1⟩ := boxed q.kind q.nodes q.one q.two qA qn qc W
  have hk1 := HK1.out
  have b0 : w1.cell? ⟨W.heap.size, 0, none⟩ = some (.int .i64 q.kind) := hk1.cell 0
  have b1 : w1.cell? ⟨W.heap.size, 1, none⟩ = some (.int .i64 q.nodes) := hk1.cell 1
  have b2 : w1.cell? ⟨W.heap.size, 2, none⟩ = some (.int .i64 q.one) := hk1.cell 2
  have b3 : w1.cell? ⟨W.heap.size, 3, none⟩ = some (.int .i64 q.two) := hk1.cell 3
  have b4 : w1.cell? ⟨W.heap.size, 4, none⟩ = some (.slice qA qn qc) := hk1.cell 4
  have HR := Lib.hid (room_any (hq.up HB1.out))
  have HL : Hid (∀ w, Below W.heap.size W w → Calls Try.prog 10 #[.slice A n c] w (LongR w)) := Lib.hid fun w hb => long_any (hA.below hb) ⟨hc1, hc2⟩
  have HKn := Lib.hid (fun w => known11_any w)
  have HAc : Hid (∀ w, Below W.heap.size W w → ∀ k, k < n → ∃ b o, A = some ⟨b, o, none⟩ ∧ w.cell? ⟨b, o + k * 3, none⟩ = some (.int .i64 (f k).kind) ∧ w.cell? ⟨b, o + k * 3 + 1, none⟩ = some (.int .i64 (f k).a) ∧ w.cell? ⟨b, o + k * 3 + 2, none⟩ = some (.slice (f k).A (f k).n (f k).c) ∧ Rd w W.heap.size (f k).A (f k).n (f k).val) := Lib.hid fun w hb k hk => by
    obtain ⟨b, o, e, _, hi⟩ := (hA.below hb) (by omega)
    obtain ⟨q0, q1, q2, q3⟩ := hi k hk
    exact ⟨b, o, e, q1, q2, q3, q0.body⟩
  clear hq hA hk1 HK1
  unfold qV at HR ⊢
  obtain ⟨kd, nd, on, tw, l⟩ := q
  dsimp only at *
  go_enter Try.func3, Try.ntmps3
  go_upto_region 1 with (fail)
  rw [← HW1.out]
  go_wp2_with fail
  refine HR.out.mono ?_
  rintro e w2 ⟨g, N, col, q, hqr, rfl, ho⟩
  have HO : Hid (SOne W w2 g N q false none 0) := Lib.hid (SOne.start ⟨ho.rm, fun k hk => Nat.le_trans HB1.out.size (ho.ge k hk), below_then HB1.out ho.bel⟩ hqr)
  have HB2 : Hid (Below W.heap.size W w2) := Lib.hid (below_then HB1.out ho.bel)
  have hqm := (q.n_le hqr).2.1
  clear ho hqr b0 b1 b2 b3 b4 HR
  generalize hqn : q.n = qm at *
  have Hqn := Lib.hid hqn
  clear hqn
  go_wp2_with fail
  refine (HL.out w2 HB2.out).mono ?_
  rintro e w3 ⟨lb, rfl, rfl⟩
  cases lb with
  | true =>
    go_wp2_with fail
    refine (HKn.out _).mono ?_
    rintro e w4 ⟨rfl, hb4⟩
    have HB4 := Lib.hid (below_then HB2.out hb4)
    clear hb4
    go_wp2
    go_ret
    exact ⟨rfl, HB4.out⟩
  | false =>
    go_wp2_with fail
    go_loopg [7, 8, 9] n (fun gk wv fv i wr => ∃ (k : Nat) (won : Bool) (fA : Option Addr) (fn fc : Nat), wv = .bool won ∧ fv = .slice fA fn fc ∧ i = .int .i64 (k : Int) ∧ k + gk = n ∧ Hid (SOne W wr g N q won fA fn) ∧ Hid (Below W.heap.size W wr))
    case atStart => exact ⟨0, false, none, 0, 0, rfl, rfl, rfl, by omega, HO, HB2⟩
    case round =>
      obtain ⟨k, won, fA, fn, fc, rfl, rfl, rfl, hkg, HS, HB⟩ := hrel
      by_cases hk : k < n
      · by_cases h2 : k < 200
        · have hkI : (k : Int) < (n : Int) := by omega
          have h2I : (k : Int) < 200 := by omega
          obtain ⟨b, o, rfl, a0, a1, a2, hrd⟩ := HAc.out wr HB.out k hk
          have HP := Lib.hid (SOne.play HS.out (f k).kind (f k).a (f k).A (f k).n (f k).c (f k).val hrd)
          rw [Hqn.out] at HP
          clear hrd
          go_wp2_with fail
          refine HP.out.mono ?_
          rintro e w5 ⟨rfl, HS5, HB5⟩
          clear a0 a1 a2 HP
          obtain ⟨gko, hgko⟩ : ∃ z, z = gk := ⟨_, rfl⟩
          go_wp2_with fail
          go_loopg [7, 8, 10] qm (fun gj wv fv j wr2 => ∃ (i : Nat) (won : Bool) (fA : Option Addr) (fn fc : Nat), wv = .bool won ∧ fv = .slice fA fn fc ∧ j = .int .i64 (i : Int) ∧ i + gj = qm ∧ Hid (SOne W wr2 g N q won fA fn) ∧ Hid (Below W.heap.size W wr2))
          case atStart => exact ⟨0, won, fA, fn, fc, rfl, rfl, rfl, by omega, HS5, HB5⟩
          case round =>
            obtain ⟨i, won2, fA2, fn2, fc2, rfl, rfl, rfl, hig, HS6, HB6⟩ := hrel
            by_cases hi : i < qm
            · have hiI : (i : Int) < (qm : Int) := by omega
              have HLn := Lib.hid (SOne.learned HS6.out i)
              go_wp2_with fail
              refine HLn.out.mono ?_
              rintro e w7 ⟨⟨vA, vn, vc, ok, rfl, HSL⟩, HB7⟩
              clear HLn
              cases ok with
              | false =>
                have HS7 := Lib.hid (SOneL.no HSL.out)
                clear HSL HS6
                go_wp2
                go_roundg (gk - 1)
                case measure => omega
                case rel => exact ⟨i + 1, won2, fA2, fn2, fc2, rfl, rfl, by go_num, by omega, HS7, HB7⟩
              | true =>
                have HS7 := Lib.hid (SOneL.yes HSL.out)
                cases won2 with
                | false =>
                  clear HSL HS6
                  go_wp2
                  go_roundg (gk - 1)
                  case measure => omega
                  case rel => exact ⟨i + 1, true, vA, vn, vc, rfl, rfl, by go_num, by omega, HS7, HB7⟩
                | true =>
                  have HSm := Lib.hid (SOneL.same (c := vc) (fc := fc2) HSL.out)
                  clear HSL HS6
                  go_wp2_with fail
                  refine HSm.out.mono ?_
                  rintro e w8 ⟨rfl, rfl⟩
                  go_wp2
                  go_roundg (gk - 1)
                  case measure => omega
                  case rel => exact ⟨i + 1, true, vA, vn, vc, rfl, rfl, by go_num, by omega, HS7, HB7⟩
            · have hiI : ¬ (i : Int) < (qm : Int) := by omega
              go_wp2
              go_roundg (gko - 1)
              case measure => omega
              case rel => exact ⟨k + 1, won2, fA2, fn2, fc2, rfl, rfl, by go_num, by omega, HS6, HB6⟩
        · have hkI : (k : Int) < (n : Int) := by omega
          have h2I : ¬ (k : Int) < 200 := by omega
          go_wp2_with fail
          refine (HKn.out _).mono ?_
          rintro e w4 ⟨rfl, hb4⟩
          have HB4 := Lib.hid (below_then HB.out hb4)
          clear hb4
          go_wp2
          go_ret
          exact ⟨rfl, HB4.out⟩
      · have hkI : ¬ (k : Int) < (n : Int) := by omega
        go_wp2_with fail
        refine (HKn.out _).mono ?_
        rintro e w4 ⟨rfl, hb4⟩
        have HB4 := Lib.hid (below_then HB.out hb4)
        clear hb4
        go_wp2
        go_ret
        exact ⟨rfl, HB4.out⟩
namespace synodOne
set_option maxRecDepth 100000 in
theorem lifted (os : Os) (started : os.Started) (H : Type) (enc : TypeId × Value → H) :
    ReturnsInHanded {} Try.checked os 3 .any (Rows.synodOneSpec.pre6 enc Try.prog Try.f3 Rows.synodOneRow.domain false) (Rows.synodOneSpec.post enc Try.prog Try.f3 false true false false) := by
  refine law_lift started (by kernel_rfl) Try.func3
    (ChangeSpec.witness6 (enc := enc) (C := Try.checked) false ⟨#[], #[.agg #[.int .i64 0, .int .i64 0, .int .i64 0, .int .i64 0, .slice none 0 0], .slice none 0 0], []⟩ 8 (by kernel_rfl) (by kernel_rfl) (by kernel_rfl) (by kernel_rfl))
    rfl ?_ (by kernel_rfl) (by kernel_rfl) ?_
  · intro ds h
    match ds, h with
    | [_, _], _ => rfl
  intro W base args ds p g
  have hA := g.trod
  have hval := g.val
  rw [Try.params3] at hA hval
  obtain ⟨v0, vs0, d0, ds0, p0, q0, hargs, rfl, rfl, h0, r0⟩ := trodAll_cons hA
  obtain ⟨v1, vs1, d1, ds1, p1, q1, rfl, rfl, rfl, h1, r1⟩ := trodAll_cons r0
  obtain ⟨rfl, rfl, rfl⟩ := trodAll_nil r1
  obtain rfl : args = #[v0, v1] := by cases args; simp_all
  obtain ⟨x0, hx0, rfl⟩ := given_q (hval 0 24 v0 rfl rfl) h0
  obtain ⟨A1, n1, c1, f1, rfl, hc1, hm1, hr1⟩ := given_as11 (hval 1 25 v1 rfl rfl) h1
  exact synodOne_walk x0 A1 n1 c1 f1 W hx0 hc1 hm1 hr1

theorem over : Rows.synodOneRow.holds Try.pinned (OpenSpec.ofChange Rows.synodOneSpec) :=
  OpenClaim.holds_of_wide 3 Try.f3 rfl rfl rfl rfl rfl rfl rfl ⟨rfl, rfl, rfl, rfl, rfl⟩ rfl rfl rfl rfl rfl (by kernel_rfl) Try.func3 (by kernel_rfl)
    (of_decide_eq_true (by kernel_rfl)) (by unfold Func.isWrapper; first | (rw [if_pos (by decide +kernel)]; kernel_rfl) | (rw [if_neg (by decide +kernel)]; exact ⟨rfl, rfl⟩))
    (fun os started H enc _ => lifted os started H enc)
end synodOne

theorem SynodOne_proved : Rows.SynodOneSaid := synodOne.over
#print axioms SynodOne_proved
end Go.Proofs.Ytjapmolmgfaocaa
