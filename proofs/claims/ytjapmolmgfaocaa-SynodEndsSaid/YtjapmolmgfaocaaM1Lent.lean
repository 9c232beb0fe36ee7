/- Of the proofs of layer 4, merged: Lent. -/
import Derived.Test.YtjapmolmgfaocaaProg
import Derived.Test.YtjapmolmgfaocaaM1RefPut
import Derived.Deep.LoopGhost

/- ref00.Copy, Lent, Whole, Spoil. -/
namespace Go.Proofs.Ytjapmolmgfaocaa
open Go.RowKit

theorem cells_new2 (w : World) (x y : Value) (t : TypeId) : ∀ a, (some ⟨w.heap.size, 0, none⟩ : Option Addr) = some a → ∀ j u, [x, y][j]? = some u → (w.alloc (.cells #[x, y] t)).cell? (a.add j) = some u := by
  intro a ha j u hu
  obtain rfl := Option.some.inj ha
  rw [Addr.add_lit, Nat.zero_add, World.cell?_alloc_at _ _ _ _ rfl]
  match j, hu with
  | 0, hu => simpa using hu
  | 1, hu => simpa using hu

set_option maxHeartbeats 1000000 in
set_option maxRecDepth 100000 in
theorem spoil_any (g n cap base : Nat) (l : List UInt8) (w : World) (hn : n ≤ 140737488355000) (hx : w.ownsRow base 5 1 (.slice (some ⟨g, 0, none⟩) n cap) n (u8s l)) :
    Calls Try.prog 26 #[.slice (some ⟨g, 0, none⟩) n cap] w fun e w' => e = .returned (.tuple #[]) ∧ w.grownBy w' (some g) := by
  have hl : l.length = n := by have := hx.1; rw [u8s_len] at this; omega
  go_enter Try.func26, Try.ntmps26
  go_wp2
  go_loopg [2] n (fun k i wr => ∃ (j : Nat) (l' : List UInt8), i = .int .i64 j ∧ j + k = n ∧ l'.length = n ∧ wr.ownsRow base 5 1 (.slice (some ⟨g, 0, none⟩) n cap) n (u8s l') ∧ w.grownBy wr (some g))
  case atStart => exact ⟨0, l, rfl, by omega, hl, hx, World.grownBy.refl w _⟩
  case round =>
    clear hx hl l
    obtain ⟨j, l, rfl, hk, hl, hx, hg⟩ := hrel
    by_cases hj : j < n
    · have hcell : wr.cell? ⟨g, j, none⟩ = some (.int .u8 ((l[j]'(by omega)).toNat : Int)) := by
        rw [hx.cellAt j (by omega), u8s_at l j (by omega)]
      have hfr := hx.frozenAt j
      have hx2 := u8_lt (l[j]'(by omega))
      generalize (l[j]'(by omega)).toNat = y at *
      have hxor : bits .xor .u8 (y : Int) 165 = ((y ^^^ 165 : Nat) : Int) := u8_xor_nat y 165 hx2 (by decide)
      have hlt : y ^^^ 165 < 2 ^ 8 := Nat.xor_lt_two_pow (by omega) (by decide)
      obtain ⟨h1, h2⟩ := hx.stored j (.int .u8 ((y ^^^ 165 : Nat) : Int))
      have hset := u8s_set l j (y ^^^ 165).toUInt8
      rw [Lib.toUInt8_toNat (by omega)] at hset
      rw [hset] at h1
      have Hh : Hid (((wr.setCell ⟨g, j, none⟩ (.int .u8 ((y ^^^ 165 : Nat) : Int))).ownsRow base 5 1 (.slice (some ⟨g, 0, none⟩) n cap) n (u8s (l.set j (y ^^^ 165).toUInt8))) ∧ w.grownBy (wr.setCell ⟨g, j, none⟩ (.int .u8 ((y ^^^ 165 : Nat) : Int))) (some g)) := ⟨h1, hg.trans h2⟩
      have Hl := Lib.hid hl
      clear h1 h2 hg hx hset hl
      generalize y ^^^ 165 = z at *
      go_wp2
      go_roundg (gk - 1)
      case measure => omega
      case rel => exact ⟨j + 1, _, by go_num, by omega, by rw [List.length_set, Hl.out], Hh.out⟩
    · have Hg := Lib.hid hg
      clear hg hl
      go_wp2
      go_end0
      exact ⟨rfl, Hg.out⟩
end Go.Proofs.Ytjapmolmgfaocaa
