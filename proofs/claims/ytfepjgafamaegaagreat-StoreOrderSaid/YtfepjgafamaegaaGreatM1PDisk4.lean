/- Of the proofs of layer 4, merged: PDisk4. -/
import Derived.Test.YtfepjgafamaegaaGreatM1PDisk3
import Derived.Test.YtfepjgafamaegaaGreatM1Clone

/- The program's Disk: Read, forget, New. -/
namespace Go.Proofs.YtfepjgafamaegaaGreat
open Go.RowKit

theorem rd_range {w : World} {g o n : Nat} {l : List UInt8} (h : w.rangeAt g o (u8s l)) (hg : g < w.heap.size) (hl : l.length = n) : Rd w w.heap.size (some ⟨g, o, none⟩) n l :=
  ⟨hl, fun _ => ⟨g, o, rfl, hg, fun j hj => h j _ (u8s_at l j hj)⟩⟩

set_option maxRecDepth 100000 in
set_option maxHeartbeats 1000000 in
theorem read_nil (a : Int) (w : World) : Calls Tryz.prog 143 #[.pointer none, .int .i64 a] w fun e w' => e = .returned (.tuple #[.slice none 0 0, .int .i64 1]) ∧ w = w' := by
  have Hr := Lib.hid (reach_nil a w)
  go_enter Tryz.func143, Tryz.ntmps143
  go_wp2_with fail
  refine Hr.out.mono ?_
  rintro e w' ⟨rfl, rfl⟩
  go_wp2
  go_ret2
  exact ⟨rfl, rfl⟩

set_option maxRecDepth 100000 in
set_option maxHeartbeats 1000000 in
theorem read_meth (g : Nat) (d : Dk) (F : Nat → Prop) (a : Int) (w : World) (h : PD w F g d) :
    Calls Tryz.prog 143 #[.pointer (some ⟨g, 0, none⟩), .int .i64 a] w fun e w' => ∃ A c, e = .returned (.tuple #[.slice A (d.read a).1.length c, .int .i64 (d.read a).2]) ∧ w'.ownsRow w.heap.size 5 1 (.slice A (d.read a).1.length c) (d.read a).1.length (u8s (d.read a).1) ∧ Below w.heap.size w w' := by
  have Hr := Lib.hid (reach_meth g d F a w h)
  unfold Dk.reach at Hr
  unfold Dk.read
  by_cases hd : d.down = true
  · rw [if_pos hd]
    rw [if_pos hd] at Hr
    clear h
    go_enter Tryz.func143, Tryz.ntmps143
    go_wp2_with fail
    refine Hr.out.mono ?_
    rintro e w' ⟨rfl, rfl⟩
    go_wp2
    go_ret2
    exact ⟨none, 0, rfl, World.ownsRow_nil _ _ _ _, Below.refl _ _⟩
  · rw [if_neg hd]
    rw [if_neg hd] at Hr
    by_cases ho : a < 0 ∨ (d.safe.length : Int) ≤ a
    · rw [if_pos ho]
      rw [if_pos ho] at Hr
      clear h ho
      go_enter Tryz.func143, Tryz.ntmps143
      go_wp2_with fail
      refine Hr.out.mono ?_
      rintro e w' ⟨rfl, rfl⟩
      go_wp2
      go_ret2
      exact ⟨none, 0, rfl, World.ownsRow_nil _ _ _ _, Below.refl _ _⟩
    · rw [if_neg ho]
      rw [if_neg ho] at Hr
      obtain ⟨k, rfl⟩ := Int.eq_ofNat_of_zero_le (show 0 ≤ a by omega)
      have hk : k < d.safe.length := by omega
      have hlen := h.len
      obtain ⟨gn, cn, gs, cs, wv, pl, hr, hrest⟩ := h
      have hnow := hr.nowAt k hk
      have he : seen d.safe d.waits k = (syncS d.safe d.waits).getD k [] := seen_sync d.waits d.safe (fun x hx => (hr.wrow x hx).1) k hk
      have h32 : (seen d.safe d.waits k).length = 32 := by rw [he]; exact rows_getD hr.nrow (by rw [hr.nlen]; exact hk)
      rw [← he] at hnow
      have Hc := Lib.hid (cloneB_any (some ⟨gn, k * 32, none⟩) 32 32 w.heap.size (seen d.safe d.waits k) w (by omega) (Nat.le_refl _) (rd_range hnow (hr.lt gn hr.foot.2.1) h32))
      have c0 : w.cell? ⟨g, 0, none⟩ = some (.slice (some ⟨gn, 0, none⟩) d.safe.length cn) := hr.blk.cell 0
      have e1 : ((k : Int)).toNat = k := Int.toNat_natCast k
      simp only [e1]
      generalize seen d.safe d.waits k = l at *
      generalize d.safe.length = n at *
      have H32 := Lib.hid h32
      clear hr hrest hnow he h32 ho e1
      go_enter Tryz.func143, Tryz.ntmps143
      go_wp2_with fail
      refine Hr.out.mono ?_
      rintro e w' ⟨rfl, rfl⟩
      go_wp2_with fail
      refine Hc.out.mono ?_
      rintro e w1 ⟨s, rfl, hown, hb⟩
      obtain ⟨A, c, rfl, _⟩ := own_shape hown
      have Ho := Lib.hid hown
      have Hb := Lib.hid hb
      clear hown hb
      go_wp2
      go_ret2
      refine ⟨A, c, by rw [H32.out]; rfl, ?_, Hb.out⟩
      rw [H32.out]
      exact Ho.out

set_option maxRecDepth 100000 in
set_option maxHeartbeats 1000000 in
theorem forget_meth (g : Nat) (F : Nat → Prop) (gn cn gs cs : Nat) (wv : Value) (now safe : List (List UInt8)) (ws : List (Nat × List UInt8)) (up : Bool) (pl : Int) (w : World) (h : PR w F g gn cn gs cs wv now safe ws up pl) :
    Calls Tryz.prog 73 #[.pointer (some ⟨g, 0, none⟩)] w fun e w' => e = .returned (.tuple #[]) ∧ ∃ F' wv', PR w' F' g gn cn gs cs wv' now safe [] up pl ∧ Mv F F' w w' := by
  obtain ⟨iw, hiw, hzw, hsw, hbw⟩ := info_parts Tryz.infoWrite
  obtain ⟨A, c, rfl, hlc, hcm⟩ := own_shape h.rwaits
  have c2 : w.cell? ⟨g, 2, none⟩ = some (.slice A ws.length c) := h.blk.cell 2
  have H := Lib.hid h
  have h1 : ∀ u ∈ (Value.agg (#[.int .i64 0] ++ Array.replicate 32 (.int .u8 0))).cells, u.oneCell' = true := by
    intro u hu
    simp only [Value.cells, Array.mem_append, Array.mem_replicate] at hu
    rcases hu with hu | ⟨_, rfl⟩
    · simp at hu; subst hu; rfl
    · rfl
  have H1 := Lib.hid h1
  have Hiw := Lib.hid hiw
  have Hzw := Lib.hid hzw
  have Hlc := Lib.hid hlc
  unfold maxLen at hcm
  have hA : (A = none ∧ ws.length = 0 ∧ c = 0) ∨ ∃ gw, A = some ⟨gw, 0, none⟩ := by
    rcases h.rwaits.2 with ⟨h', h0⟩ | ⟨gw, cap, cur, hv, _⟩
    · injection h' with e1 _ e3; exact .inl ⟨e1, h0, e3⟩
    · injection hv with e1; exact .inr ⟨gw, e1⟩
  clear h h1 hiw hzw hsw hbw hlc
  generalize hwn : ws.length = wn at *
  have Hwn := Lib.hid hwn
  clear hwn
  rcases hA with ⟨rfl, rfl, rfl⟩ | ⟨gw, rfl⟩
  all_goals
    go_enter Tryz.func73, Tryz.ntmps73
    go_wp2_with ((refine wpList_clear rfl _ _ rfl 0 130 33 iw _ Tryz.underlying124 Hiw.out Hzw.out (by rfl) H1.out _ _ _ _ rfl (by have := H.out.rwaits; rwa [Hwn.out] at this) ?_))
    intro w1 ho hk
    have hk1 := hk _ fun k e => e
    have kb := H.out.blk.kp hk1 (fun e => (H.out.wne g e).1 rfl)
    have c2' := kb.cell 2
    have f2 := kb.frozen 2
    obtain ⟨hpr, hmv⟩ := H.out.setWaits (ws' := []) hk1 ho (.inl rfl) (by intro x hx; cases hx)
    have HF : Hid (∃ F' wv', PR (w1.setCell ⟨g, 2, none⟩ _) F' g gn cn gs cs wv' now safe [] up pl ∧ Mv F F' w (w1.setCell ⟨g, 2, none⟩ _)) := ⟨_, _, hpr, hmv⟩
    clear hpr hmv hk hk1 kb ho c2 H
    go_wp2
    go_end0
    exact ⟨rfl, HF.out⟩
end Go.Proofs.YtfepjgafamaegaaGreat
