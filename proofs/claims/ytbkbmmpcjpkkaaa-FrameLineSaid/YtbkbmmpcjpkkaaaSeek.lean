/- The next place of a frame: the program's and the document's. -/
import Derived.Test.YtbkbmmpcjpkkaaaFrameGet
namespace Go.Proofs.Ytbkbmmpcjpkkaaa
open Go.RowKit

theorem getF_err {l : List UInt8} {e : Nat} (h : getF l = .error e) : 0 < e ∧ e ≤ 100 := by
  unfold getF at h
  repeat' split at h
  all_goals first | (injection h with h; omega) | cases h
theorem getA_err {l : List UInt8} {k e : Nat} (hk : k ≤ l.length) (h : getF (l.drop k) = .error e) : getA l (k : Int) = (0, [], 0, (e : Int)) := by
  unfold getA
  rw [if_neg (by omega), Int.toNat_natCast, h]
theorem getA_ok {l : List UInt8} {k m : Nat} {f : Fr} (hk : k ≤ l.length) (h : getF (l.drop k) = .ok (f, m)) : getA l (k : Int) = (f.1, f.2, ((k + m : Nat) : Int), 0) := by
  unfold getA
  rw [if_neg (by omega), Int.toNat_natCast, h]
  simp

set_option maxHeartbeats 1000000 in
theorem frameSeek_any (A : Option Addr) (n c : Nat) (at_ : Int) (l : List UInt8) (w : World) (hc : n ≤ c) (hn : n ≤ 140737488355328) (hm : c ≤ 9223372036854775807) (h : Rd w w.heap.size A n l) (h1 : -9223372036854775808 ≤ at_) (h2 : at_ ≤ 9223372036854775807) :
    Calls Try.prog 22 #[.slice A n c, .int .i64 at_] w fun e w' => e = .returned (.int .i64 (seekF l at_.toNat : Nat)) ∧ Below w.heap.size w w' := by
  have HL := Lib.hid h.1
  have H := Lib.hid h
  have HG : Hid (∀ W k, Below w.heap.size w W → Calls Try.prog 20 #[.slice A n c, .int .i64 (k : Nat)] W fun e w' =>
      ∃ v, e = .returned (.tuple #[.agg #[.int .u8 ((getA l k).1.toNat : Int), v], .int .i64 (getA l k).2.2.1, .int .i64 (getA l k).2.2.2]) ∧ w'.ownsRow W.heap.size 5 1 v (getA l k).2.1.length (u8s (getA l k).2.1) ∧ Below W.heap.size W w') :=
    Lib.hid fun W k hW => frameGet_any A n c k l W hc hn hm ((h.below hW).more hW.size)
  clear h
  obtain ⟨k0, hk0⟩ : ∃ k0 : Nat, at_.toNat = k0 := ⟨_, rfl⟩
  have hmx : max at_ 0 = (k0 : Int) := by omega
  rw [hk0]
  · go_enter Try.func22, Try.ntmps22
    go_wp2
    try rw [hmx]
    go_loopg [5] (n - k0) (fun g r wr => ∃ (k : Nat), r = .int .i64 k ∧ n - k = g ∧ Hid (seekF l k = seekF l k0) ∧ k < 9223372036854775808 ∧ Hid (Below w.heap.size w wr))
    case atStart => exact ⟨k0, by go_num, rfl, rfl, by omega, Below.refl _ _⟩
    case round =>
      obtain ⟨k, rfl, hk, Hs, hk63, Hb⟩ := hrel
      by_cases hkn : k < n
      · cases hg : getF (l.drop k) with
        | error e =>
          have HC := Lib.hid (HG.out _ k Hb.out)
          rw [getA_err (by rw [HL.out]; omega) hg] at HC
          have he := getF_err hg
          have hne : ((e : Int) == 0) = false := by simp; omega
          have hnx := seekF_err l k e (by rw [HL.out]; exact hkn) hg
          rw [Hs.out] at hnx
          have Hn := Lib.hid hnx
          clear hg hnx
          go_wp2_with fail
          refine HC.out.mono ?_
          rintro x w2 ⟨v, rfl, ho, hb⟩
          obtain ⟨Av, cv, rfl, _⟩ := own_shape ho
          have Hb2 := Lib.hid (Hb.out.trans (hb.mono Hb.out.size))
          clear ho hb HC
          go_wp2
          go_roundg (gk - 1)
          case measure => omega
          case rel => exact ⟨k + 1, by go_num, by omega, Lib.hid Hn.out.symm, by omega, Lib.hid (Hb2.out.alloc Hb2.out.size _)⟩
        | ok fk =>
          obtain ⟨f, m⟩ := fk
          have HC := Lib.hid (HG.out _ k Hb.out)
          rw [getA_ok (by rw [HL.out]; omega) hg] at HC
          have hnx := seekF_ok l k _ (by rw [HL.out]; exact hkn) hg
          rw [Hs.out] at hnx
          have Hn := Lib.hid hnx
          have hfm := (getF_le hg).2.2.2
          clear hg hnx
          go_wp2_with fail
          refine HC.out.mono ?_
          rintro x w2 ⟨v, rfl, ho, hb⟩
          obtain ⟨Av, cv, rfl, _⟩ := own_shape ho
          have Hb2 := Lib.hid (Hb.out.trans (hb.mono Hb.out.size))
          clear ho hb HC
          go_wp2
          go_ret
          exact ⟨by rw [Hn.out]; rfl, Hb2.out.alloc Hb2.out.size _⟩
      · have hnx := seekF_ge l k (by rw [HL.out]; omega)
        rw [Hs.out, HL.out] at hnx
        have Hn := Lib.hid hnx
        clear hnx
        go_wp2
        go_ret
        exact ⟨by rw [Hn.out]; rfl, Hb.out⟩
set_option maxHeartbeats 1000000 in
theorem refSeek_any (A : Option Addr) (n c : Nat) (at_ : Int) (l : List UInt8) (w : World) (hc : n ≤ c) (hn : n ≤ 140737488355328) (hm : c ≤ 9223372036854775807) (h : Rd w w.heap.size A n l) (h1 : -9223372036854775808 ≤ at_) (h2 : at_ ≤ 9223372036854775807) :
    Calls Try.prog 23 #[.slice A n c, .int .i64 at_] w fun e w' => e = .returned (.int .i64 (seekF l at_.toNat : Nat)) ∧ Below w.heap.size w w' := by
  have HL := Lib.hid h.1
  have H := Lib.hid h
  have HG : Hid (∀ W k, Below w.heap.size w W → Calls Try.prog 21 #[.slice A n c, .int .i64 (k : Nat)] W fun e w' =>
      ∃ v, e = .returned (.tuple #[.agg #[.int .u8 ((getA l k).1.toNat : Int), v], .int .i64 (getA l k).2.2.1, .int .i64 (getA l k).2.2.2]) ∧ w'.ownsRow W.heap.size 5 1 v (getA l k).2.1.length (u8s (getA l k).2.1) ∧ Below W.heap.size W w') :=
    Lib.hid fun W k hW => refGetF_any A n c k l W hc hn hm ((h.below hW).more hW.size)
  clear h
  obtain ⟨k0, hk0⟩ : ∃ k0 : Nat, at_.toNat = k0 := ⟨_, rfl⟩
  rw [hk0]
  by_cases h0 : at_ < 0
  all_goals
    go_enter Try.func23, Try.ntmps23
    go_wp2
    go_loopg [5] (n - k0) (fun g r wr => ∃ (k : Nat), r = .int .i64 k ∧ n - k = g ∧ Hid (seekF l k = seekF l k0) ∧ k < 9223372036854775808 ∧ Hid (Below w.heap.size w wr))
    case atStart => exact ⟨k0, by congr 1; omega, rfl, rfl, by omega, Below.refl _ _⟩
    case round =>
      obtain ⟨k, rfl, hk, Hs, hk63, Hb⟩ := hrel
      by_cases hkn : k < n
      · cases hg : getF (l.drop k) with
        | error e =>
          have HC := Lib.hid (HG.out _ k Hb.out)
          rw [getA_err (by rw [HL.out]; omega) hg] at HC
          have he := getF_err hg
          have hne : ((e : Int) == 0) = false := by simp; omega
          have hnx := seekF_err l k e (by rw [HL.out]; exact hkn) hg
          rw [Hs.out] at hnx
          have Hn := Lib.hid hnx
          clear hg hnx
          go_wp2_with fail
          refine HC.out.mono ?_
          rintro x w2 ⟨v, rfl, ho, hb⟩
          obtain ⟨Av, cv, rfl, _⟩ := own_shape ho
          have Hb2 := Lib.hid (Hb.out.trans (hb.mono Hb.out.size))
          clear ho hb HC
          go_wp2
          go_roundg (gk - 1)
          case measure => omega
          case rel => exact ⟨k + 1, by go_num, by omega, Lib.hid Hn.out.symm, by omega, Lib.hid (Hb2.out.alloc Hb2.out.size _)⟩
        | ok fk =>
          obtain ⟨f, m⟩ := fk
          have HC := Lib.hid (HG.out _ k Hb.out)
          rw [getA_ok (by rw [HL.out]; omega) hg] at HC
          have hnx := seekF_ok l k _ (by rw [HL.out]; exact hkn) hg
          rw [Hs.out] at hnx
          have Hn := Lib.hid hnx
          have hfm := (getF_le hg).2.2.2
          clear hg hnx
          go_wp2_with fail
          refine HC.out.mono ?_
          rintro x w2 ⟨v, rfl, ho, hb⟩
          obtain ⟨Av, cv, rfl, _⟩ := own_shape ho
          have Hb2 := Lib.hid (Hb.out.trans (hb.mono Hb.out.size))
          clear ho hb HC
          go_wp2
          go_ret
          exact ⟨by rw [Hn.out]; rfl, Hb2.out.alloc Hb2.out.size _⟩
      · have hnx := seekF_ge l k (by rw [HL.out]; omega)
        rw [Hs.out, HL.out] at hnx
        have Hn := Lib.hid hnx
        clear hnx
        go_wp2
        go_ret
        exact ⟨by rw [Hn.out]; rfl, Hb.out⟩
end Go.Proofs.Ytbkbmmpcjpkkaaa
