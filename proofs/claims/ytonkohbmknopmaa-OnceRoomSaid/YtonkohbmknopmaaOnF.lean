/- Layer 13, the program's table: the closure that builds the places; find. -/
import Derived.Test.YtonkohbmknopmaaOnM
import Derived.Deep.LoopGhost
import Derived.Deep.RegionLaw
import Derived.Deep.RegionHeld3
import Derived.Deep.CutRange
import Derived.Deep.CutBlock
import Derived.Deep.DeepCutAuto
namespace Go.Proofs.Ytonkohbmknopmaa
open Go.RowKit Go.Maps

theorem bel1N (w : World) (o : Obj) : Below w.heap.size w (w.alloc o) := (Below.refl _ _).alloc (Nat.le_refl _) o
theorem make_hint (k : IntKind) (n : Int) (w : World) : (Instr.makeMap 80 (some (.int k n))).run Try.prog w = .ok (.map (some w.heap.size)) (w.alloc (.map #[] 0)) := by
  simp [Instr.makeMap, run_underlying Try.underlying80, asInt, asIntOf, Result.andThen]
/-- What the closure leaves. -/
def BuiltE (w : World) (g : Nat) (t : Tb) (v : Value) (e : Ending) (w' : World) : Prop :=
  e = .returned (.tuple #[]) ∧ Hid (∃ b L, Bk w' g 85 (tbL t v 0 1 (some b)) ∧ w.heap.size ≤ b ∧ OwnB plE w' b L.length L ∧ PlaceOk L t.row ∧ Kp (fun k => k = g) w w')
set_option maxRecDepth 100000 in
set_option maxHeartbeats 4000000 in
theorem build_any {w : World} {F : Nat → Prop} {g n c pb : Nat} {t : Tb} {A : Option Addr} {es : List Cle} {mp : Option Nat} (hb : Bk w g 85 (tbL t (.slice A n c) 0 1 mp)) (hr : ClRow w F (.slice A n c) es) (he : es.map (·.1) = t.row) (hn : n = es.length) (hn2 : n ≤ 100)
    (hnd : (t.row.map (·.id)).Nodup) (hid : ∀ c ∈ t.row, c.id < 18446744073709551616) (hpl : w.cell? ⟨pb, 0, none⟩ = some (.pointer (some ⟨g, 0, none⟩))) (hpg : pb ≠ g) :
    Calls Try.prog 53 #[.pointer (some ⟨pb, 0, none⟩)] w (BuiltE w g t (.slice A n c)) := by
  have c1 : w.cell? ⟨g, 1, none⟩ = some (.slice A n c) := hb.cell 1
  have c5 : w.cell? ⟨g, 5, none⟩ = some (.map mp) := hb.cell 5
  have f5 := hb.frozen 5
  have hmm := make_hint
  obtain ⟨w1, hw1⟩ : ∃ w1, w1 = w.alloc (.map #[] 0) := ⟨_, rfl⟩
  have hb1 : Below w.heap.size w w1 := by rw [hw1]; exact bel1N _ _
  have hbk1 := hb.below hb1 hb.lt
  have p1 : (w.alloc (.map #[] 0)).cell? ⟨pb, 0, none⟩ = some (.pointer (some ⟨g, 0, none⟩)) := by rw [← hw1]; exact (hb1.cell (p := ⟨pb, 0, none⟩) (World.block_lt_of_cell? w _ hpl)).trans hpl
  have d5 : (w.alloc (.map #[] 0)).cell? ⟨g, 5, none⟩ = some (.map mp) := by rw [← hw1]; exact hbk1.cell 5
  have d1 : (w.alloc (.map #[] 0)).cell? ⟨g, 1, none⟩ = some (.slice A n c) := by rw [← hw1]; exact hbk1.cell 1
  have e5 : (w.alloc (.map #[] 0)).frozen? ⟨g, 5, none⟩ = false := by rw [← hw1]; exact hbk1.frozen 5
  have HW1 := Lib.hid hw1
  have HB1 := Lib.hid hb1
  have HK1 := Lib.hid hbk1
  have Hb := Lib.hid hb
  have Hr := Lib.hid hr
  clear hw1 hb1 hbk1 hb hr
  have Hn := Lib.hid hn
  clear hn
  go_enter Try.func53, Try.ntmps53
  go_wp2_with fail
  go_region
  obtain ⟨b, hbe⟩ : ∃ b, b = w.heap.size := ⟨_, rfl⟩
  obtain ⟨w3, hw3⟩ : ∃ w3, w3 = ((w.alloc (Obj.map #[] 0)).setCell { block := g, off := 5 } (Value.map (some w.heap.size))).drew := ⟨_, rfl⟩
  have hk3 : Bk w3 g 85 (tbL t (.slice A n c) 0 1 (some b)) := by rw [hw3, ← HW1.out, ← hbe]; exact HK1.out.set_ 5 _
  have hkp3 : Kp (fun k => k = g) w w3 := by rw [hw3, ← HW1.out]; exact (Kp.of_below HB1.out).trans ((Kp.set_ (F := fun k => k = g) (p := ⟨g, 5, none⟩) rfl _).trans (Kp.drew _ _))
  have hbg : b ≠ g := by have := Hb.out.lt; omega
  have hmp3 : OwnB plE w3 b ([] : List (Nat × Int)).length [] := by
    rw [hw3, hbe]
    exact (OwnB.made (E := plE) w).kp (F := fun k => k = g) ((Kp.set_ (F := fun k => k = g) (p := ⟨g, 5, none⟩) rfl _).trans (Kp.drew _ _)) (by have := Hb.out.lt; omega)
  have HB := Lib.hid hbe
  rw [← hw3]
  have Hinit : Hid (Bk w3 g 85 (tbL t (.slice A n c) 0 1 (some b)) ∧ OwnB plE w3 b ([] : List (Nat × Int)).length [] ∧ PlaceOk [] (t.row.take 0) ∧ Kp (fun k => k = g) w w3) := Lib.hid ⟨hk3, hmp3, PlaceOk.nil, hkp3⟩
  have HP : Hid (∀ W, Kp (fun k => k = g) w W → W.cell? ⟨pb, 0, none⟩ = some (.pointer (some ⟨g, 0, none⟩))) := Lib.hid fun W hk => cell_kp (p := ⟨pb, 0, none⟩) hpl hk hpg
  have x0 := HP.out w3 hkp3
  have x1 : w3.cell? ⟨g, 1, none⟩ = some (.slice A n c) := hk3.cell 1
  have HE := Lib.hid he
  have Hbg := Lib.hid hbg
  have HND := Lib.hid hnd
  have HID := Lib.hid hid
  clear hw3 hk3 hkp3 hmp3 p1 d5 d1 e5 c1 c5 f5 hpl HW1 HB1 HK1 he hbe hbg hnd hid
  go_wp2
  go_loopg [17] n (fun gk a wr => ∃ (i : Nat) (L : List (Nat × Int)), a = .int .i64 (i : Int) ∧ i + gk = n ∧ Hid (Bk wr g 85 (tbL t (.slice A n c) 0 1 (some b)) ∧ OwnB plE wr b L.length L ∧ PlaceOk L (t.row.take i) ∧ Kp (fun k => k = g) w wr))
  case atStart => exact ⟨0, [], rfl, by omega, Hinit⟩
  case round =>
    obtain ⟨i, L, rfl, hig, HX⟩ := hrel
    by_cases hin : i < n
    · have m1 : (i : Int) < (n : Int) := by omega
      have m0 : ¬ (i : Int) < 0 := by omega
      have e1 : IntKind.i64.wrap ((i : Int) + 1) = ((i + 1 : Nat) : Int) := by rw [IntKind.wrap_i64]; omega
      obtain ⟨hbk, hmap, hpo, hkp⟩ := HX.out
      have hie : i < es.length := by rw [← Hn.out]; exact hin
      have hrw := Hr.out.keep hkp (fun k e => Hr.out.off Hb.out (by decide) (by decide) k e)
      obtain ⟨R, c', ev, _, _, hR, q0, q1, q2, q3⟩ := hrw.cell i hie
      injection ev with ev ev2 ev3
      subst ev
      clear ev2 ev3
      have y0 := HP.out wr hkp
      have hmem : es[i].1 ∈ t.row := by rw [← HE.out]; exact List.mem_map_of_mem (List.getElem_mem hie)
      have hrl : t.row.length = n := by rw [← HE.out, List.length_map, ← Hn.out]
      have hri : t.row[i]'(by omega) = es[i].1 := by simp only [← HE.out, List.getElem_map]
      have hpo2 : PlaceOk (putK es[i].1.id (i : Int) L) (t.row.take (i + 1)) := by
        have h1 : t.row.take (i + 1) = t.row.take i ++ [es[i].1] := by rw [List.take_succ_eq_append_getElem (by omega), hri]
        have h2 : (t.row.take i).length = i := by rw [List.length_take]; omega
        rw [h1]
        have := hpo.push es[i].1 (fun x hx e => by
          have hnd := HND.out
          obtain ⟨j, hj, rfl⟩ := List.getElem_of_mem hx
          rw [List.length_take] at hj
          have h3 := (List.pairwise_iff_getElem.1 hnd) j i (by rw [List.length_map]; omega) (by rw [List.length_map]; omega) (by omega)
          rw [List.getElem_map, List.getElem_map, hri] at h3
          rw [List.getElem_take] at e
          exact h3 e)
        rwa [h2] at this
      have hidl := HID.out _ hmem
      have hll : L.length < maxLen := by have := hpo.1; rw [List.length_take] at this; unfold maxLen; omega
      obtain ⟨⟨⟨id, num, busy, rep⟩, ⟨sA, sN, sC⟩⟩, hei⟩ : ∃ x, es[i] = x := ⟨_, rfl⟩
      rw [hei] at q0 q1 q2 q3 hpo2 hidl
      unfold s3W at q3
      dsimp only at q0 q1 q2 q3 hpo2 hidl
      obtain ⟨wa, hwa⟩ : ∃ wa, wa = wr.alloc (Obj.cells #[Value.int IntKind.u64 (id : Int), Value.int IntKind.u64 (num : Int), Value.bool busy, .slice sA sN sC] 64) := ⟨_, rfl⟩
      obtain ⟨cb, hcb⟩ : ∃ cb, cb = wr.heap.size := ⟨_, rfl⟩
      have hba : Below wr.heap.size wr wa := by rw [hwa]; exact bel1N _ _
      have hkc : Bk wa cb 64 #[Value.int IntKind.u64 (id : Int), Value.int IntKind.u64 (num : Int), Value.bool busy, .slice sA sN sC] := by rw [hwa, hcb]; exact Bk.new wr _ _
      have z0 : wa.cell? ⟨cb, 0, none⟩ = some (Value.int IntKind.u64 (id : Int)) := hkc.cell 0
      have hkpa := hkp.trans (Kp.of_below hba)
      have z1 := HP.out wa hkpa
      have hbka := hbk.below hba hbk.lt
      have z2 : wa.cell? ⟨g, 5, none⟩ = some (.map (some b)) := hbka.cell 5
      have hmapa := hmap.kp (F := fun _ => False) (Kp.of_below hba) (fun h => h)
      have Hpo := Lib.hid hpo2
      have Hll := Lib.hid (And.intro hll hidl)
      have HWA := Lib.hid hwa
      have HCB := Lib.hid hcb
      have HA := Lib.hid (And.intro hbka (And.intro hmapa hkpa))
      clear hwa hcb hba hkc hkpa hbka hmapa hpo2 hll hidl hmem hrl hri hrw hei hbk hmap hpo hkp hie
      go_upto_region 4 with (fail)
      rw [← HWA.out]
      try rw [← HCB.out]
      clear q0 q1 q2 q3 y0
      obtain ⟨w5, hrun, hown5, hk5⟩ := (HA.out.2.1.kp (F := fun _ => False) (Kp.drew _ wa) (fun h => h)).put Try.underlying80 Hll.out.1 id Hll.out.2 (i : Int)
      unfold plE at hrun
      dsimp only at hrun
      have HO5 := Lib.hid hown5
      have HK5 := Lib.hid hk5
      clear hown5 hk5 HX Hinit
      go_region
      all_goals
        go_wp2
        go_roundg (gk - 1)
        case measure => omega
        case rel =>
          have hk5' : Kp (fun k => k = g) w w5 := (HA.out.2.2.trans (Kp.drew _ _)).trans' HK5.out fun k e => .inr (by have := HB.out; omega)
          exact ⟨i + 1, _, by go_num, by omega, Lib.hid ⟨(HA.out.1.kp (F := fun _ => False) (Kp.drew _ _) (fun h => h)).kp HK5.out (fun e => Hbg.out e.symm), HO5.out, Hpo.out, hk5'⟩⟩
    · obtain rfl : i = n := by omega
      have m1 : ¬ (i : Int) < (i : Int) := by omega
      go_wp2
      go_end0
      have hrl : t.row.take i = t.row := List.take_of_length_le (by rw [← HE.out, List.length_map, ← Hn.out]; omega)
      obtain ⟨h1, h2, h3, h4⟩ := HX.out
      rw [hrl] at h3
      exact ⟨rfl, Lib.hid ⟨b, L, h1, by have := HB.out; omega, h2, h3, h4⟩⟩
end Go.Proofs.Ytonkohbmknopmaa
