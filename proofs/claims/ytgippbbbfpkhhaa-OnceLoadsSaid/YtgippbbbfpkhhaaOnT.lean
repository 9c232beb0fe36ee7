/- Layer 13's laws: a table of the call's own; long. -/
import Derived.Test.YtgippbbbfpkhhaaOnS
import Derived.Test.YtgippbbbfpkhhaaOnGv
import Derived.Lib.SlBytesConst
namespace Go.Proofs.Ytgippbbbfpkhhaa
open Go.RowKit Go.Maps

/-- A table of the call's own, made since W. -/
structure OW (W w : World) (F : Nat → Prop) (g : Nat) (t : Tb) : Prop where
  p : PT w F g t
  ok : t.Ok
  new : ∀ k, F k → W.heap.size ≤ k
  bel : Below W.heap.size W w
section
variable {W w w' : World} {F F' : Nat → Prop} {g : Nat} {t t' : Tb} {s : Sl3} {l : List UInt8}
theorem OW.below (h : OW W w F g t) (hb : Below w.heap.size w w') : OW W w' F g t := ⟨h.p.below hb, h.ok, h.new, h.bel.trans (hb.mono h.bel.size)⟩
theorem OW.step (h : OW W w F g t) (hp : PT w' F' g t') (ho : t'.Ok) (hm : Mv F F' w w') : OW W w' F' g t' := ⟨hp, ho, hm.ge h.bel.size h.new, h.bel.trans (hm.kp.below h.new h.bel.size)⟩
theorem OW.kp {G : Nat → Prop} (h : OW W w F g t) (hk : Kp G w w') (hd : ∀ k, F k → ¬ G k) (hg : ∀ k, G k → W.heap.size ≤ k) : OW W w' F g t := ⟨h.p.kp hk hd, h.ok, h.new, h.bel.trans (hk.below hg h.bel.size)⟩
theorem RdA.of_own {base : Nat} (ho : w.ownsRow base 5 1 (s3W s) l.length (u8s l)) (hF : ∀ k, (s3W s).ownBlock = some k → ¬ F k) : RdA w F s l := (RdF.of_own ho).mono hF
theorem RdA.old (h : OW W w F g t) {A : Option Addr} {n c : Nat} (hr : Rd w W.heap.size A n l) (hc : n ≤ c ∧ c ≤ maxLen) : RdA w F (A, n, c) l :=
  ⟨hc.1, hc.2, hr.1, fun hn => by
    obtain ⟨b, o, e, hb, hcl⟩ := hr.2 hn
    exact ⟨b, o, e, fun hf => by have := h.new b hf; omega, Nat.lt_of_lt_of_le hb h.bel.size, hcl⟩⟩
theorem Mv.belowO (hb : Below w.heap.size w w') : Mv F F w w' := Mv.of (Kp.of_below hb)
/-- Begin: a reply of the call's own. -/
def BegO (W w : World) (F : Nat → Prop) (g : Nat) (b : Bg) (e : Ending) (w' : World) : Prop :=
  ∃ A c, e = .returned (.tuple #[.int .i64 (b.kind : Int), .slice A b.rep.length c, .int .i64 b.err]) ∧ Hid (∃ F', OW W w' F' g b.tb ∧ Mv F F' w w' ∧ w'.ownsRow w.heap.size 5 1 (.slice A b.rep.length c) b.rep.length (u8s b.rep) ∧ RdA w' F' (A, b.rep.length, c) b.rep)
theorem OW.begin (h : OW W w F g t) (id num : Nat) (hid : id < 18446744073709551616) (hnum : num < 18446744073709551616) : Calls Try.prog 13 #[.pointer (some ⟨g, 0, none⟩), .int .u64 (id : Int), .int .u64 (num : Int)] w (BegO W w F g (t.begin id num)) := by
  refine (cbegin_any h.p h.ok id num hid).mono ?_
  rintro e w' ⟨⟨A, n, c⟩, rfl, HX⟩
  obtain ⟨ho, F', hp, hm, hF⟩ := HX.out
  obtain ⟨A', c', hs, _⟩ := own_shape ho
  unfold s3W at hs ho hF ⊢
  dsimp only at hs ho hF ⊢
  injection hs with h1 h2 h3
  subst h1 h2 h3
  exact ⟨A, c, rfl, Lib.hid ⟨F', h.step hp (h.ok.begin hid hnum) hm, hm, ho, RdA.of_own (s := (A, (t.begin id num).rep.length, c)) ho hF⟩⟩
def EndO (W w : World) (F : Nat → Prop) (g : Nat) (r : Int × Tb) (e : Ending) (w' : World) : Prop := e = .returned (.int .i64 r.1) ∧ Hid (∃ F', OW W w' F' g r.2 ∧ Mv F F' w w')
theorem OW.ended (h : OW W w F g t) (id num : Nat) (hid : id < 18446744073709551616) (A : Option Addr) (n c : Nat) (l : List UInt8) (hr : RdA w F (A, n, c) l) (hn : n ≤ 1000000) : Calls Try.prog 18 #[.pointer (some ⟨g, 0, none⟩), .int .u64 (id : Int), .int .u64 (num : Int), .slice A n c] w (EndO W w F g (t.ended id num l)) := by
  refine (cend_any h.p h.ok id num hid A n c l hr hn).mono ?_
  rintro e w' ⟨rfl, HX⟩
  obtain ⟨F', hp, hm⟩ := HX.out
  exact ⟨rfl, Lib.hid ⟨F', h.step hp h.ok.ended hm, hm⟩⟩
def NewO (w : World) (m : Nat) (e : Ending) (w' : World) : Prop := ∃ g F, e = .returned (.tuple #[.pointer (some ⟨g, 0, none⟩), .int .i64 0]) ∧ Hid (OW w w' F g (Tb.new m))
theorem ow_new (m : Nat) (w : World) (h : 1 ≤ m ∧ m ≤ 64) : Calls Try.prog 11 #[.int .i64 (m : Int)] w (NewO w m) := by
  refine (cnew_any m w h).mono ?_
  rintro e w' ⟨g, F, rfl, HX⟩
  obtain ⟨h1, h2, h3⟩ := HX.out
  exact ⟨g, F, rfl, Lib.hid ⟨h1, Tb.Ok.new h, h2, h3⟩⟩
/-- A second table beside the first. -/
theorem OW.two {g2 : Nat} {F2 : Nat → Prop} {t2 : Tb} (h : OW W w F g t) (h2 : OW w w' F2 g2 t2) : OW W w' F g t ∧ (∀ k, F k → ¬ F2 k) ∧ OW W w' F2 g2 t2 :=
  ⟨h.below h2.bel, fun k h1 h3 => by have := h.p.lt k h1; have := h2.new k h3; omega, ⟨h2.p, h2.ok, fun k hk => Nat.le_trans h.bel.size (h2.new k hk), h.bel.trans (h2.bel.mono h.bel.size)⟩⟩
end
def Long13 (f : Nat → Gl) (n : Nat) (w : World) (e : Ending) (w' : World) : Prop := ∃ b, e = .returned (.bool b) ∧ w = w' ∧ (b = false → ∀ k, k < n → k < 300 → (f k).n ≤ 1000)
set_option maxRecDepth 100000 in
set_option maxHeartbeats 2000000 in
theorem long13_any {w : World} {B n c : Nat} {A : Option Addr} {f : Nat → Gl} (hA : As13 w B A n f) (hc : n ≤ c ∧ c ≤ 9223372036854775807) : Calls Try.prog 9 #[.slice A n c] w (Long13 f n w) := by
  obtain ⟨h1, h2⟩ := hc
  have HA := Lib.hid hA
  clear hA
  go_enter Try.func9, Try.ntmps9
  go_wp2_with fail
  go_loopg [3] n (fun gk i wr => ∃ k : Nat, i = .int .i64 (k : Int) ∧ k + gk = n ∧ w = wr ∧ Hid (∀ j, j < k → (f j).n ≤ 1000))
  case atStart => exact ⟨0, rfl, by omega, rfl, Lib.hid fun j hj => by omega⟩
  case round =>
    obtain ⟨k, rfl, hkg, rfl, HP⟩ := hrel
    by_cases hk : k < n
    · by_cases h200 : k < 300
      · have hkI : (k : Int) < (n : Int) := by omega
        have hk2 : (k : Int) < 300 := by omega
        obtain ⟨b, o, rfl, _, hi⟩ := HA.out (by omega)
        obtain ⟨_, _, _, _, q3⟩ := hi k hk
        clear hi
        by_cases hl : 1000 < (f k).n
        · have hlI : (1000 : Int) < ((f k).n : Int) := by omega
          go_wp2
          go_ret
          exact ⟨true, rfl, rfl, fun h => by cases h⟩
        · have hlI : ¬ (1000 : Int) < ((f k).n : Int) := by omega
          have HP2 : Hid (∀ j, j < k + 1 → (f j).n ≤ 1000) := Lib.hid fun j hj => by
            by_cases e : j = k
            · subst e; omega
            · exact HP.out j (by omega)
          go_wp2
          go_roundg (gk - 1)
          case measure => omega
          case rel => exact ⟨k + 1, by go_num, by omega, rfl, HP2⟩
      · have hkI : (k : Int) < (n : Int) := by omega
        have hk2 : ¬ (k : Int) < 300 := by omega
        go_wp2
        go_ret
        exact ⟨false, rfl, rfl, fun _ j _ hj => HP.out j (by omega)⟩
    · have hkI : ¬ (k : Int) < (n : Int) := by omega
      go_wp2
      go_ret
      exact ⟨false, rfl, rfl, fun _ j hj _ => HP.out j (by omega)⟩
theorem conv_bytesO (w : World) (C : Array Value) (n c g : Nat) (hg : g = w.heap.size) : (convert 33 33 (.slice (some ⟨g, 0, none⟩) n c)).run Try.prog (w.alloc (.cells C 5)) = .ok (.slice (some ⟨g, 0, none⟩) n c) (w.alloc (.cells C 5 (C.size, C.size + 1))) := by
  subst hg
  exact Lib.run_convert_bytes_const w 33 5 C n c Try.underlying33 Try.underlying5
theorem Rd.markO {w : World} (x : UInt8) (xi : Int) (hx : xi = (x.toNat : Int)) : Rd (w.alloc (.cells #[.int .u8 xi] 5 (1, 2))) (w.alloc (.cells #[.int .u8 xi] 5 (1, 2))).heap.size (some ⟨w.heap.size, 0, none⟩) 1 [x] := by
  subst hx
  refine ⟨rfl, fun _ => ⟨w.heap.size, 0, rfl, by simp, fun j hj => ?_⟩⟩
  have : j = 0 := by simp at hj; omega
  subst this
  rw [World.cell?_alloc_mark]
  rfl
end Go.Proofs.Ytgippbbbfpkhhaa

/- Layer 13's laws: the chapter's example, walked. -/
namespace Go.Proofs.Ytgippbbbfpkhhaa
open Go.RowKit Go.Maps

def kt1 : Tb := ⟨2, [⟨7, 1, true, []⟩], 1, 0⟩
def kt2 : Tb := ⟨2, [⟨7, 1, false, [97]⟩], 1, 0⟩
def kt3 : Tb := ⟨2, [⟨7, 1, false, [97]⟩], 1, 1⟩
def kt4 : Tb := ⟨2, [⟨7, 3, true, []⟩], 2, 1⟩
def kt5 : Tb := ⟨2, [⟨7, 3, true, []⟩, ⟨8, 1, true, []⟩], 3, 1⟩
theorem kb_a : (Tb.new 2).begin 7 1 = ⟨1, [], 0, kt1⟩ := by rfl
theorem kb_b : kt1.begin 7 1 = ⟨3, [], 0, kt1⟩ := by rfl
theorem kb_c : kt1.ended 7 1 [97] = (0, kt2) := by rfl
theorem kb_d : kt2.begin 7 1 = ⟨2, [97], 0, kt3⟩ := by rfl
theorem kb_e : kt3.begin 7 3 = ⟨1, [], 0, kt4⟩ := by rfl
theorem kb_f : kt4.begin 7 2 = ⟨0, [], 70, kt4⟩ := by rfl
theorem kb_g : kt4.begin 8 1 = ⟨1, [], 0, kt5⟩ := by rfl
theorem kb_h : kt5.begin 9 1 = ⟨0, [], 130, kt5⟩ := by rfl
theorem kb_i : encT (Tb.new 2) = [2, 0] := by
  unfold encT
  show Lib.uvarint 2 ++ Lib.uvarint 0 ++ [] = [2, 0]
  rw [uvarint_zero, Lib.uvarint_small (by decide)]
  rfl
/-- Begin, with numbers written out. -/
theorem OW.beginK {W w : World} {F : Nat → Prop} {g : Nat} {t : Tb} (h : OW W w F g t) (id num : Nat) (idi numi : Int) (h1 : idi = (id : Int)) (h2 : numi = (num : Int)) (hid : id < 18446744073709551616) (hnum : num < 18446744073709551616) (kind : Nat) (ki : Int) (hk : (kind : Int) = ki) (rep : List UInt8) (n : Nat) (hn : rep.length = n) (err : Int) (t' : Tb) (he : t.begin id num = ⟨kind, rep, err, t'⟩) :
    Calls Try.prog 13 #[.pointer (some ⟨g, 0, none⟩), .int .u64 idi, .int .u64 numi] w fun e w' => ∃ A c, e = .returned (.tuple #[.int .i64 ki, .slice A n c, .int .i64 err]) ∧ Hid (∃ F', OW W w' F' g t' ∧ Mv F F' w w' ∧ RdA w' F' (A, n, c) rep) := by
  subst h1 h2 hk hn
  have := h.begin id num hid hnum
  rw [he] at this
  refine this.mono ?_
  rintro e w' ⟨A, c, rfl, HX⟩
  obtain ⟨F', a, b, _, d⟩ := HX.out
  exact ⟨A, c, rfl, Lib.hid ⟨F', a, b, d⟩⟩
set_option maxHeartbeats 8000000 in
set_option maxRecDepth 100000 in
theorem known13_any (W : World) : Calls Try.prog 10 #[] W fun e w' => e = .returned (.bool true) ∧ Below W.heap.size W w' := by
  have HN := Lib.hid (ow_new 2 W (by decide))
  have kc := conv_bytesO
  go_enter Try.func10, Try.ntmps10
  go_wp2_with fail
  refine HN.out.mono ?_
  clear HN
  rintro e w1 ⟨g, F, rfl, H1⟩
  have Hs := Lib.hid (H1.out.beginK 7 1 7 1 rfl rfl (by decide) (by decide) 1 1 rfl [] 0 rfl 0 kt1 kb_a)
  clear H1
  go_wp2_with fail
  refine Hs.out.mono ?_
  clear Hs
  rintro e w2 ⟨A2, c2, rfl, H2⟩
  obtain ⟨F2, o2, -, -⟩ := H2.out
  have Hs := Lib.hid (o2.beginK 7 1 7 1 rfl rfl (by decide) (by decide) 3 3 rfl [] 0 rfl 0 kt1 kb_b)
  clear H2 o2
  go_wp2_with fail
  refine Hs.out.mono ?_
  clear Hs
  rintro e w3 ⟨A3, c3, rfl, H3⟩
  obtain ⟨F3, o3, -, -⟩ := H3.out
  have hb3 := bel1N w3 (.cells #[.int .u8 97] 5 (1, 2))
  have hr3 : RdA (w3.alloc (.cells #[.int .u8 97] 5 (1, 2))) F3 (some ⟨w3.heap.size, 0, none⟩, 1, 1) [97] := ⟨Nat.le_refl 1, (by decide : 1 ≤ maxLen), rfl, fun _ => by
    obtain ⟨b, o, e, hb, hc⟩ := (Rd.markO (w := w3) 97 97 rfl).2 (by decide)
    injection e with e
    injection e with e1 e2
    subst e1 e2
    exact ⟨_, _, rfl, fun hf => by have := o3.p.lt _ hf; omega, hb, hc⟩⟩
  have Hs := Lib.hid ((o3.below hb3).ended 7 1 (by decide) (some ⟨w3.heap.size, 0, none⟩) 1 1 [97] hr3 (by decide))
  rw [kb_c] at Hs
  clear H3 o3 hb3 hr3
  go_wp2_with fail
  refine Hs.out.mono ?_
  clear Hs
  rintro e w4 ⟨rfl, H4⟩
  obtain ⟨F4, o4, -⟩ := H4.out
  have Hs := Lib.hid (o4.beginK 7 1 7 1 rfl rfl (by decide) (by decide) 2 2 rfl [97] 1 rfl 0 kt3 kb_d)
  clear H4 o4
  go_wp2_with fail
  refine Hs.out.mono ?_
  clear Hs
  rintro e w5 ⟨A5, c5, rfl, H5⟩
  obtain ⟨F5, o5, -, r5⟩ := H5.out
  have Hr := Lib.hid r5
  have Hs := Lib.hid (o5.beginK 7 3 7 3 rfl rfl (by decide) (by decide) 1 1 rfl [] 0 rfl 0 kt4 kb_e)
  clear H5 o5 r5
  go_wp2_with fail
  refine Hs.out.mono ?_
  clear Hs
  rintro e w6 ⟨A6, c6, rfl, H6⟩
  obtain ⟨F6, o6, m6, -⟩ := H6.out
  have Hr6 := Lib.hid (Hr.out.mv m6)
  have Hs := Lib.hid (o6.beginK 7 2 7 2 rfl rfl (by decide) (by decide) 0 0 rfl [] 0 rfl 70 kt4 kb_f)
  clear H6 o6 m6 Hr
  go_wp2_with fail
  refine Hs.out.mono ?_
  clear Hs
  rintro e w7 ⟨A7, c7, rfl, H7⟩
  obtain ⟨F7, o7, m7, -⟩ := H7.out
  have Hr7 := Lib.hid (Hr6.out.mv m7)
  have Hs := Lib.hid (o7.beginK 8 1 8 1 rfl rfl (by decide) (by decide) 1 1 rfl [] 0 rfl 0 kt5 kb_g)
  clear H7 o7 m7 Hr6
  go_wp2_with fail
  refine Hs.out.mono ?_
  clear Hs
  rintro e w8 ⟨A8, c8, rfl, H8⟩
  obtain ⟨F8, o8, m8, -⟩ := H8.out
  have Hr8 := Lib.hid (Hr7.out.mv m8)
  have Hs := Lib.hid (o8.beginK 9 1 9 1 rfl rfl (by decide) (by decide) 0 0 rfl [] 0 rfl 130 kt5 kb_h)
  clear H8 o8 m8 Hr7
  go_wp2_with fail
  refine Hs.out.mono ?_
  clear Hs
  rintro e w9 ⟨A9, c9, rfl, H9⟩
  obtain ⟨F9, o9, m9, -⟩ := H9.out
  have Hr9 := Lib.hid (Hr8.out.mv m9)
  have Hs := Lib.hid (counts_any o9.p)
  rw [show kt5.nb = 3 from rfl, show kt5.na = 1 from rfl] at Hs
  have HO9 := Lib.hid o9
  clear H9 o9 m9 Hr8
  go_wp2_with fail
  refine Hs.out.mono ?_
  clear Hs
  rintro e wa ⟨rfl, Ha⟩
  have HOa := Lib.hid (HO9.out.below Ha.out)
  have Hra := Lib.hid (Hr9.out.mv (Mv.belowO Ha.out))
  have Hs := Lib.hid (ow_new 2 wa (by decide))
  clear HO9 Hr9 Ha
  go_wp2_with fail
  refine Hs.out.mono ?_
  clear Hs
  rintro e wb ⟨g2, Fb, rfl, Hb⟩
  have hrb := (Hra.out.mv (Mv.belowO Hb.out.bel)).rd
  have k1 : (convert 33 9 (.slice A5 1 c5)).run Try.prog wb = .ok (.string ⟨#[97]⟩) wb := hrb.str Try.underlying33 Try.underlying5 Try.underlying9 c5
  have Hs := Lib.hid (csave_any Hb.out.p Hb.out.ok)
  rw [kb_i] at Hs
  have HBb : Hid (Below W.heap.size W wb) := Lib.hid (below_then HOa.out.bel Hb.out.bel)
  clear hrb Hra HOa Hb
  go_wp2_with fail
  refine Hs.out.mono ?_
  clear Hs
  rintro e wc ⟨Ac, cc, rfl, Hc⟩
  have k2 : (convert 33 9 (.slice Ac 2 cc)).run Try.prog wc = .ok (.string ⟨#[2, 0]⟩) wc := (Rd.of_own Hc.out.1).str Try.underlying33 Try.underlying5 Try.underlying9 cc
  have HB := Lib.hid (below_then HBb.out Hc.out.2)
  clear Hc k1
  go_wp2
  go_ret
  exact ⟨rfl, HB.out⟩
end Go.Proofs.Ytgippbbbfpkhhaa
