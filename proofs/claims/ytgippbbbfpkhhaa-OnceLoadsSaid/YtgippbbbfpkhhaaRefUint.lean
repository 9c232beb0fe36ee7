/- ref01.Uint answers the number that stands at a place, or the error. -/
import Derived.Test.YtgippbbbfpkhhaaProg
import Derived.Test.YtgippbbbfpkhhaaWords
import Derived.Test.YtgippbbbfpkhhaaGets2
import Derived.Deep.LoopGhost
import Derived.BigQuiet
import Derived.Deep.QuietTactic
namespace Go.Proofs.Ytgippbbbfpkhhaa
open Go.RowKit

set_option maxHeartbeats 4000000 in
set_option maxRecDepth 100000 in
theorem refUint_out (A : Option Addr) (n c : Nat) (at_ : Int) (w : World) (h : at_ < 0 ∨ (n : Int) < at_) :
    Calls Try.prog 65 #[.slice A n c, .int .i64 at_] w fun e w' => e = .returned (.tuple #[.int .u64 0, .int .i64 0, .int .i64 2]) ∧ w = w' := by
  by_cases h1 : at_ < 0
  · clear h
    go_enter Try.func65, Try.ntmps65
    go_wp2
    go_ret3
    exact ⟨rfl, rfl⟩
  · have h2 : (n : Int) < at_ := by omega
    clear h
    go_enter Try.func65, Try.ntmps65
    go_wp2
    go_ret3
    exact ⟨rfl, rfl⟩

set_option maxRecDepth 100000 in
set_option maxHeartbeats 1000000 in
theorem short_any (A : Option Addr) (n c : Nat) (a k : Int) (w : World) (h : (k == 10) = false) :
    Calls Try.prog 72 #[.slice A n c, .int .i64 a, .int .i64 k] w fun e w' => e = .returned (.tuple #[.int .u64 0, .int .i64 0, .int .i64 10]) ∧ w = w' := by
  go_enter Try.func72, Try.ntmps72
  go_wp2
  go_ret3
  exact ⟨rfl, rfl⟩

set_option maxHeartbeats 4000000 in
set_option maxRecDepth 100000 in
theorem refUint_in (A : Option Addr) (n c at_ B : Nat) (l : List UInt8) (w : World) (hc : n ≤ c) (hm : c ≤ 9223372036854775807) (h : Rd w B A n l) (hlt : at_ ≤ n) :
    Calls Try.prog 65 #[.slice A n c, .int .i64 at_] w fun e w' => e = .returned (.tuple #[.int .u64 (uintAt l at_).1, .int .i64 (uintAt l at_).2.1, .int .i64 (uintAt l at_).2.2]) ∧ w = w' := by
  have hd : decide (n < at_) = false := by simp; omega
  have hd2 : decide ((at_ : Int) < 0) = false := by simp
  have hua := uintAt_in l at_ (by rw [h.1]; exact hlt)
  have Hua := Lib.hid hua
  clear hua
  have hl := h.1
  have Hl := Lib.hid hl
  clear hl
  go_enter Try.func65, Try.ntmps65
  go_wp2
  go_loopg [7] 10 (fun g i wr => ∃ (k : Nat), i = .int .i64 k ∧ k + g = 10 ∧ at_ + k ≤ n ∧ Lead (l.drop at_) k ∧ Big (l.drop at_) k ∧ w = wr)
  case atStart => exact ⟨0, rfl, by omega, by omega, Lead.zero _, Big.zero _, rfl⟩
  case round =>
    obtain ⟨k, rfl, hk, hkn, hlead, hbig, rfl⟩ := hrel
    by_cases hk10 : k < 10
    · by_cases hkl : at_ + k < n
      · obtain ⟨b, o, rfl, _, hcell⟩ := h.2 (by omega)
        have hsl : k < (l.drop at_).length := by rw [List.length_drop, Hl.out]; omega
        have hat : w.cell? ⟨b, o + (at_ + k), none⟩ = some (.int .u8 ((l.drop at_)[k].toNat : Int)) := by
          rw [List.getElem_drop]; exact hcell (at_ + k) (by rw [Hl.out]; exact hkl)
        by_cases h128 : 128 ≤ (l.drop at_)[k].toNat
        · have Hs := Lib.hid (hlead.step hk10 hsl h128)
          have hbig' := hbig.step hsl h128
          clear hlead hcell hbig
          generalize (l.drop at_)[k].toNat = x at *
          go_wp2
          go_roundg (gk - 1)
          case measure => omega
          case rel => exact ⟨k + 1, by go_num, by omega, by omega, Hs.out, hbig', rfl⟩
        · have Hlast := Lib.hid (fun hf => hlead.last hk10 hsl hf (by omega))
          have Hform := Lib.hid (fun hf => hlead.form hk10 hsl hf)
          have hk10' : ((k : Int) == 10) = false := by simp; omega
          have hx2 : (l.drop at_)[k].toNat < 128 := by omega
          have Hb : Hid (∀ j (hj : j < (l.drop at_).length), w.cell? ⟨b, o + (at_ + j), none⟩ = some (.int .u8 ((l.drop at_)[j].toNat : Int))) := by
            intro j hj
            rw [List.getElem_drop]
            exact hcell (at_ + j) (by rw [List.length_drop] at hj; omega)
          clear hlead hcell
          generalize hxe : (l.drop at_)[k].toNat = x at *
          clear hxe
          by_cases hf : (k = 9 ∧ 1 < x) ∨ (0 < k ∧ x = 0)
          · have hfin := Hform.out hf
            rw [hfin] at Hua
            have key : (¬ x = 0 ∧ 0 < k ∧ k = 9 ∧ 1 < x) ∨ (x = 0 ∧ 0 < k) := by omega
            clear Hlast Hform h128 hf hfin Hb hbig
            rcases key with ⟨h1, h0, h9, h2⟩ | ⟨h1, h0⟩
            · have hx0 : ((x : Int) == 0) = false := by simp; omega
              have hx1 : decide (1 < (x : Int)) = true := by simp; omega
              have hk9 : ((k : Int) == 9) = true := by simp; omega
              clear h1 h9
              go_wp2
              go_ret3
              rw [Hua.out]
              exact ⟨rfl, rfl⟩
            · have hx0 : ((x : Int) == 0) = true := by simp; omega
              clear h1
              go_wp2
              go_ret3
              rw [Hua.out]
              exact ⟨rfl, rfl⟩
          · obtain ⟨hfin, htot⟩ := Hlast.out hf
            rw [hfin] at Hua
            generalize hte : x * 128 ^ k + valU ((l.drop at_).take k) = tot at *
            have Hte := Lib.hid hte
            have key : (0 < k ∧ ¬ x = 0 ∧ k = 9 ∧ x ≤ 1) ∨ (0 < k ∧ ¬ x = 0 ∧ ¬ k = 9) ∨ ¬ 0 < k := by omega
            clear Hlast Hform h128 hf hfin hte
            have Htot := Lib.hid htot
            clear htot
            rcases key with ⟨h0, h1, h9, h2⟩ | ⟨h0, h1, h9⟩ | h0
            · have hx0 : ((x : Int) == 0) = false := by simp; omega
              have hx1 : decide (1 < (x : Int)) = false := by simp; omega
              have hk9 : ((k : Int) == 9) = true := by simp; omega
              clear h1 h9 h2
              go_wp2
              go_loopg [9, 10] k (fun g v i wr => ∃ (j vv : Nat), i = .int .i64 ((j : Int) - 1) ∧ v = .int .u64 vv ∧ j = g ∧ j ≤ k ∧ Hid (vv * 128 ^ j + valU ((l.drop at_).take j) = tot) ∧ w = wr)
              case atStart => exact ⟨k, x, rfl, rfl, rfl, Nat.le_refl _, Hte, rfl⟩
              case round =>
                obtain ⟨j, vv, rfl, rfl, rfl, hj, Hf, rfl⟩ := hrel
                cases j with
                | zero =>
                  have e : vv = tot := by have := Hf.out; simpa [valU] using this
                  subst e
                  go_wp2
                  go_ret3
                  rw [Hua.out]
                  exact ⟨rfl, rfl⟩
                | succ j =>
                  have hjl : j < (l.drop at_).length := by omega
                  have hcj := Hb.out j hjl
                  have h128 := hbig.at_ j (by omega) hjl
                  have hlt2 := (l.drop at_)[j].toNat_lt
                  have Hn := Lib.hid (fold_step hjl Hf.out)
                  have hle := fold_le Hf.out
                  have hle2 := fold_le0 Hn.out
                  have ht := Htot.out
                  clear Hb hbig
                  generalize (l.drop at_)[j].toNat = y at *
                  have e : ((j + 1 : Nat) : Int) - 1 = (j : Int) := by omega
                  rw [e]
                  clear e
                  go_wp2
                  go_roundg j
                  case measure => omega
                  case rel => exact ⟨j, vv * 128 + (y - 128), rfl, by go_num, rfl, by omega, Hn, rfl⟩
            · have hx0 : ((x : Int) == 0) = false := by simp; omega
              have hk9 : ((k : Int) == 9) = false := by simp; omega
              clear h1 h9
              go_wp2
              go_loopg [9, 10] k (fun g v i wr => ∃ (j vv : Nat), i = .int .i64 ((j : Int) - 1) ∧ v = .int .u64 vv ∧ j = g ∧ j ≤ k ∧ Hid (vv * 128 ^ j + valU ((l.drop at_).take j) = tot) ∧ w = wr)
              case atStart => exact ⟨k, x, rfl, rfl, rfl, Nat.le_refl _, Hte, rfl⟩
              case round =>
                obtain ⟨j, vv, rfl, rfl, rfl, hj, Hf, rfl⟩ := hrel
                cases j with
                | zero =>
                  have e : vv = tot := by have := Hf.out; simpa [valU] using this
                  subst e
                  go_wp2
                  go_ret3
                  rw [Hua.out]
                  exact ⟨rfl, rfl⟩
                | succ j =>
                  have hjl : j < (l.drop at_).length := by omega
                  have hcj := Hb.out j hjl
                  have h128 := hbig.at_ j (by omega) hjl
                  have hlt2 := (l.drop at_)[j].toNat_lt
                  have Hn := Lib.hid (fold_step hjl Hf.out)
                  have hle := fold_le Hf.out
                  have hle2 := fold_le0 Hn.out
                  have ht := Htot.out
                  clear Hb hbig
                  generalize (l.drop at_)[j].toNat = y at *
                  have e : ((j + 1 : Nat) : Int) - 1 = (j : Int) := by omega
                  rw [e]
                  clear e
                  go_wp2
                  go_roundg j
                  case measure => omega
                  case rel => exact ⟨j, vv * 128 + (y - 128), rfl, by go_num, rfl, by omega, Hn, rfl⟩
            · have hk9 : ((k : Int) == 9) = false := by simp; omega
              go_wp2
              go_loopg [9, 10] k (fun g v i wr => ∃ (j vv : Nat), i = .int .i64 ((j : Int) - 1) ∧ v = .int .u64 vv ∧ j = g ∧ j ≤ k ∧ Hid (vv * 128 ^ j + valU ((l.drop at_).take j) = tot) ∧ w = wr)
              case atStart => exact ⟨k, x, rfl, rfl, rfl, Nat.le_refl _, Hte, rfl⟩
              case round =>
                obtain ⟨j, vv, rfl, rfl, rfl, hj, Hf, rfl⟩ := hrel
                cases j with
                | zero =>
                  have e : vv = tot := by have := Hf.out; simpa [valU] using this
                  subst e
                  go_wp2
                  go_ret3
                  rw [Hua.out]
                  exact ⟨rfl, rfl⟩
                | succ j =>
                  have hjl : j < (l.drop at_).length := by omega
                  have hcj := Hb.out j hjl
                  have h128 := hbig.at_ j (by omega) hjl
                  have hlt2 := (l.drop at_)[j].toNat_lt
                  have Hn := Lib.hid (fold_step hjl Hf.out)
                  have hle := fold_le Hf.out
                  have hle2 := fold_le0 Hn.out
                  have ht := Htot.out
                  clear Hb hbig
                  generalize (l.drop at_)[j].toNat = y at *
                  have e : ((j + 1 : Nat) : Int) - 1 = (j : Int) := by omega
                  rw [e]
                  clear e
                  go_wp2
                  go_roundg j
                  case measure => omega
                  case rel => exact ⟨j, vv * 128 + (y - 128), rfl, by go_num, rfl, by omega, Hn, rfl⟩
      · have Hfin := Lib.hid (hlead.short hk10 (by rw [List.length_drop, Hl.out]; omega))
        have hk10' : ((k : Int) == 10) = false := by simp; omega
        rw [Hfin.out] at Hua
        clear hlead hbig Hfin
        go_wp2_with (go_at_call 72; refine (short_any _ _ _ _ _ _ hk10').mono ?_; rintro e w' ⟨rfl, rfl⟩)
        go_ret3
        rw [Hua.out]
        exact ⟨rfl, rfl⟩
    · obtain rfl : k = 10 := by omega
      rw [hlead.ten] at Hua
      clear hlead hbig
      go_wp2
      go_ret3
      rw [Hua.out]
      exact ⟨rfl, rfl⟩

/-- ref01.Uint of whatever bytes, at whatever place. -/
theorem refUint_any (A : Option Addr) (n c B : Nat) (at_ : Int) (l : List UInt8) (w : World) (hc : n ≤ c) (hm : c ≤ 9223372036854775807) (h : Rd w B A n l) :
    Calls Try.prog 65 #[.slice A n c, .int .i64 at_] w fun e w' => e = .returned (.tuple #[.int .u64 (uintAt l at_).1, .int .i64 (uintAt l at_).2.1, .int .i64 (uintAt l at_).2.2]) ∧ w = w' := by
  by_cases h1 : at_ < 0 ∨ (n : Int) < at_
  · rw [uintAt_out l at_ (by rw [h.1]; exact h1)]
    exact refUint_out A n c at_ w h1
  · obtain ⟨k, rfl⟩ := Int.eq_ofNat_of_zero_le (show 0 ≤ at_ by omega)
    exact refUint_in A n c k B l w hc hm h (by omega)

end Go.Proofs.Ytgippbbbfpkhhaa
