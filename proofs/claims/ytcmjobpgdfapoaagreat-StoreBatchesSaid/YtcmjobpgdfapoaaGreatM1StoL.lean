/- Of the proofs of layer 4, merged: StoL. -/
import Derived.Test.YtcmjobpgdfapoaaGreatMPWal6
import Derived.Laws.StructEq

/- Layer 5's laws: heavy, same. -/
namespace Go.Proofs.YtcmjobpgdfapoaaGreat
open Go.RowKit

set_option maxRecDepth 100000 in
set_option maxHeartbeats 1000000 in
theorem sheavy_any (A : Option Addr) (n c : Nat) (l : List Chg) (w : World) (hn : n ≤ 9223372036854775807) (h : ChRd w w.heap.size A n l) :
    Calls Tryz.prog 10 #[.slice A n c] w fun e w' => (∃ b, e = .returned (.bool b)) ∧ Below w.heap.size w w' := by
  have Hl := Lib.hid h.1
  have HP := Lib.hid h
  clear h
  go_enter Tryz.func10, Tryz.ntmps10
  go_wp2
  go_loopg [3, 4] n (fun g z i wr => ∃ (zz : Int) (k : Nat), z = .int .i64 zz ∧ i = .int .i64 k ∧ k + g = n ∧ Hid (Below w.heap.size w wr))
  case atStart => exact ⟨0, 0, rfl, rfl, by omega, Lib.hid (Below.refl _ _)⟩
  case round =>
    obtain ⟨zz, k, rfl, rfl, hk, Hb⟩ := hrel
    by_cases hkn : k < n
    · by_cases hz : zz ≤ 8000
      · have hkl : k < l.length := by rw [Hl.out]; exact hkn
        obtain ⟨b, o, rfl, hbw, c0, c1, _⟩ := (HP.out.below Hb.out).2 k hkl
        generalize l[k] = ch at *
        obtain ⟨ck, cv, cg⟩ := ch
        have c0 : wr.cell? ⟨b, o + k * 3, none⟩ = some (sV ck) := c0
        have c1 : wr.cell? ⟨b, o + k * 3 + 1, none⟩ = some (sV cv) := c1
        have hi1 : (0 : Int) ≤ (k : Int) := by omega
        have hi2 : (k : Int) < (n : Int) := by omega
        have Hbd := Lib.hid (Hb.out.drew)
        clear hkl
        go_upto_region 5 with (fail)
        go_region_held3 (fun w' => w'.cell? ⟨b, o + k * 3, none⟩ = some (sV ck) ∧ w'.cell? ⟨b, o + k * 3 + 1, none⟩ = some (sV cv)) (first | exact ⟨c0, c1⟩ | go_keep) (first | fail)
        all_goals
          clear c0 c1
          go_wp2
          go_roundg (gk - 1)
          case measure => omega
          case rel => exact ⟨_, k + 1, rfl, by go_num, by omega, Hbd⟩
      · have hz' : (8000 : Int) < zz := by omega
        go_wp2
        go_ret
        refine ⟨?_, Hb.out⟩
        first | exact ⟨true, rfl⟩ | exact ⟨_, rfl⟩ | rfl | simp
    · go_wp2
      go_ret
      exact ⟨⟨_, rfl⟩, Hb.out⟩

set_option maxRecDepth 100000 in
set_option maxHeartbeats 1000000 in
theorem lsame_any (A A' : Option Addr) (n c c' B B' : Nat) (l : List Chg) (w : World) (hn : n ≤ 9223372036854775807) (h : ChRd w B A n l) (h' : ChRd w B' A' n l) :
    Calls Tryz.prog 20 #[.slice A n c, .slice A' n c'] w fun e w' => e = .returned (.bool true) ∧ Below w.heap.size w w' := by
  have Hl := Lib.hid h.1
  have HP : Hid (∀ W k (hk : k < l.length), Below w.heap.size w W → ∃ b o b' o', A = some ⟨b, o, none⟩ ∧ A' = some ⟨b', o', none⟩ ∧ W.cell? ⟨b, o + k * 3, none⟩ = some (sV l[k].key) ∧ W.cell? ⟨b, o + k * 3 + 1, none⟩ = some (sV l[k].val) ∧ W.cell? ⟨b, o + k * 3 + 2, none⟩ = some (.bool l[k].gone) ∧
      W.cell? ⟨b', o' + k * 3, none⟩ = some (sV l[k].key) ∧ W.cell? ⟨b', o' + k * 3 + 1, none⟩ = some (sV l[k].val) ∧ W.cell? ⟨b', o' + k * 3 + 2, none⟩ = some (.bool l[k].gone)) := by
    refine Lib.hid fun W k hk hb => ?_
    obtain ⟨b, o, e, _, h1, h2, h3⟩ := h.2 k hk
    obtain ⟨b', o', e', _, h1', h2', h3'⟩ := h'.2 k hk
    have q : ∀ {g i : Nat} {v : Value}, w.cell? ⟨g, i, none⟩ = some v → W.cell? ⟨g, i, none⟩ = some v := fun {g i v} hc => (hb.cell (World.block_lt_of_cell? _ _ hc)).trans hc
    exact ⟨b, o, b', o', e, e', q h1, q h2, q h3, q h1', q h2', q h3'⟩
  clear h h'
  go_enter Tryz.func20, Tryz.ntmps20
  go_wp2
  go_loopg [5] n (fun g i wr => ∃ (k : Nat), i = .int .i64 k ∧ k + g = n ∧ Hid (Below w.heap.size w wr))
  case atStart => exact ⟨0, rfl, by omega, Lib.hid (Below.refl _ _)⟩
  case round =>
    obtain ⟨k, rfl, hk, Hb⟩ := hrel
    by_cases hkn : k < n
    · have hkl : k < l.length := by rw [Hl.out]; exact hkn
      obtain ⟨b, o, b', o', rfl, rfl, c0, c1, c2, e0, e1, e2⟩ := HP.out wr k hkl Hb.out
      generalize l[k] = ch at *
      obtain ⟨ck, cv, cg⟩ := ch
      have c0 : wr.cell? ⟨b, o + k * 3, none⟩ = some (sV ck) := c0
      have c1 : wr.cell? ⟨b, o + k * 3 + 1, none⟩ = some (sV cv) := c1
      have c2 : wr.cell? ⟨b, o + k * 3 + 2, none⟩ = some (.bool cg) := c2
      have e0 : wr.cell? ⟨b', o' + k * 3, none⟩ = some (sV ck) := e0
      have e1 : wr.cell? ⟨b', o' + k * 3 + 1, none⟩ = some (sV cv) := e1
      have e2 : wr.cell? ⟨b', o' + k * 3 + 2, none⟩ = some (.bool cg) := e2
      have hi1 : (0 : Int) ≤ (k : Int) := by omega
      have hi2 : (k : Int) < (n : Int) := by omega
      have Hbd := Lib.hid (Hb.out.drew)
      clear hkl
      go_upto_region 6 with (fail)
      go_region_held3 (fun w' => w'.cell? ⟨b, o + k * 3, none⟩ = some (sV ck) ∧ w'.cell? ⟨b, o + k * 3 + 1, none⟩ = some (sV cv) ∧ w'.cell? ⟨b, o + k * 3 + 2, none⟩ = some (.bool cg) ∧ w'.cell? ⟨b', o' + k * 3, none⟩ = some (sV ck) ∧ w'.cell? ⟨b', o' + k * 3 + 1, none⟩ = some (sV cv) ∧ w'.cell? ⟨b', o' + k * 3 + 2, none⟩ = some (.bool cg)) (first | exact ⟨c0, c1, c2, e0, e1, e2⟩ | go_keep) (first | fail)
      all_goals
        clear c0 c1 c2 e0 e1 e2
        go_wp2
        go_roundg (gk - 1)
        case measure => omega
        case rel => exact ⟨k + 1, by go_num, by omega, Hbd⟩
    · go_wp2
      go_ret
      exact ⟨rfl, Hb.out⟩
end Go.Proofs.YtcmjobpgdfapoaaGreat
