/- Layer 13, the program's table: the closure that builds the places; find. -/
import Derived.Test.YtgippbbbfpkhhaaOnM
import Derived.Deep.LoopGhost
import Derived.Deep.RegionLaw
import Derived.Deep.RegionHeld3
import Derived.Deep.CutRange
import Derived.Deep.CutBlock
import Derived.Deep.DeepCutAuto
namespace Go.Proofs.Ytgippbbbfpkhhaa
open Go.RowKit Go.Maps

theorem bel1N (w : World) (o : Obj) : Below w.heap.size w (w.alloc o) := (Below.refl _ _).alloc (Nat.le_refl _) o
theorem make_hint (k : IntKind) (n : Int) (w : World) : (Instr.makeMap 80 (some (.int k n))).run Try.prog w = .ok (.map (some w.heap.size)) (w.alloc (.map #[] 0)) := by
  simp [Instr.makeMap, run_underlying Try.underlying80, asInt, asIntOf, Result.andThen]
/-- What the closure leaves. -/
def BuiltE (w : World) (g : Nat) (t : Tb) (v : Value) (e : Ending) (w' : World) : Prop :=
  e = .returned (.tuple #[]) ∧ Hid (∃ b L, Bk w' g 85 (tbL t v 0 1 (some b)) ∧ w.heap.size ≤ b ∧ OwnB plE w' b L.length L ∧ PlaceOk L t.row ∧ Kp (fun k => k = g) w w')
set_option maxRecDepth 100000 in
set_option maxHeartbeats 4000000 in
theorem build_any {w : World} {F : Nat → Prop} {g n c pb : Nat} {t : Tb} {A : Option Addr} {es : List Cle} {mp : Option Nat} (hb : Bk w g 85 (tbL t (.slice A n c) 0 1 mp)) (hr : ClRow w F (.slice A n c) es) (he : es.map (·.1) = t.row) (hn : n = es.length) (hn2 : n ≤ 100)
    (hnd : (t.row.map (·.id)).Nodup) (hid : ∀ c ∈ t.row, c.id < 18446744073709551616) (hpl : w.cell? ⟨pb, 0, none⟩ = some (.pointer (some ⟨g, 0, none⟩))) (hpg : pb ≠ g) :
    Calls Try.prog 53 #[.pointer (some ⟨pb, 0, none⟩)] w (BuiltE w g t (.slice A n c)) := by
  have c1 : w.cell? ⟨g, 1, none⟩ = some (.slice A n c) := hb.cell 1
  have c5 : w.cell? ⟨g, 5, none⟩ = some (.map mp) := hb.cell 5
  have f5 := hb.frozen 5
  have hmm := make_hint
  obtain ⟨w1, hw1⟩ : ∃ w1, w1 = w.alloc (.map #[] 0) := ⟨_, rfl⟩
  have hb1 : Below w.heap.size w w1 := by rw [hw1]; exact bel1N _ _
  have hbk1 := hb.below hb1 hb.lt
  have p1 : (w.alloc (.map #[] 0)).cell? ⟨pb, 0, none⟩ = some (.pointer (some ⟨g, 0, none⟩)) := by rw [← hw1]; exact (hb1.cell (p := ⟨pb, 0, none⟩) (World.block_lt_of_cell? w _ hpl)).trans hpl
  have d5 : (w.alloc (.map #[] 0)).cell? ⟨g, 5, none⟩ = some (.map mp) := by rw [← hw1]; exact hbk1.cell 5
  have d1 : (w.alloc (.map #[] 0)).cell? ⟨g, 1, none⟩ = some (.slice A n c) := by rw [← hw1]; exact hbk1.cell 1
  have e5 : (w.alloc (.map #[] 0)).frozen? ⟨g, 5, none⟩ = false := by rw [← hw1]; exact hbk1.frozen 5
  have HW1 := Lib.hid hw1
  have HB1 := Lib.hid hb1
  have HK1 := Lib.hid hbk1
  have Hb := Lib.hid hb
  have Hr := Lib.hid hr
  clear hw1 hb1 hbk1 hb hr
  have Hn := Lib.hid hn
  clear hn
  go_enter Try.func53, Try.ntmps53
  go_wp2_with fail
  go_region
  obtain ⟨b, hbe⟩ : ∃ b, b = w.heap.size := ⟨_, rfl⟩
  obtain ⟨w3, hw3⟩ : ∃ w3, w3 = ((w.alloc (Obj.map #[] 0)).setCell { block := g, off := 5 } (Value.map (some w.heap.size))).drew := ⟨_, rfl⟩
  have hk3 : Bk w3 g 85 (tbL t (.slice A n c) 0 1 (some b)) := by rw [hw3, ← HW1.out, ← hbe]; exact HK1.out.set_ 5 _
  have hkp3 : Kp (fun k => k = g) w w3 := by rw [hw3, ← HW1.out]; exact (Kp.of_below HB1.out).trans ((Kp.set_ (F := fun k => k = g) (p := ⟨g, 5, none⟩) rfl _).trans (Kp.drew _ _))
  have hbg : b ≠ g := by have := Hb.out.lt; omega
  have hmp3 : OwnB plE w3 b ([] : List (Nat × Int)).length [] := by
    rw [hw3, hbe]
    exact (OwnB.made (E := plE) w).kp (F := fun k => k = g) ((Kp.set_ (F := fun k => k = g) (p := ⟨g, 5, none⟩) rfl _).trans (Kp.drew _ _)) (by have := Hb.out.lt; omega)
  have HB := Lib.hid hbe
  rw [← hw3]
  have Hinit : Hid (Bk w3 g 85 (tbL t (.slice A n c) 0 1 (some b)) ∧ OwnB plE w3 b ([] : List (Nat × Int)).length [] ∧ PlaceOk [] (t.row.take 0) ∧ Kp (fun k => k = g) w w3) := Lib.hid ⟨hk3, hmp3, PlaceOk.nil, hkp3⟩
  have HP : Hid (∀ W, Kp (fun k => k = g) w W → W.cell? ⟨pb, 0, none⟩ = some (.pointer (some ⟨g, 0, none⟩))) := Lib.hid fun W hk => cell_kp (p := ⟨pb, 0, none⟩) hpl hk hpg
  have x0 := HP.out w3 hkp3
  have x1 : w3.cell? ⟨g, 1, none⟩ = some (.slice A n c) := hk3.cell 1
  have HE := Lib.hid he
  have Hbg := Lib.hid hbg
  have HND := Lib.hid hnd
  have HID := Lib.hid hid
  clear hw3 hk3 hkp3 hmp3 p1 d5 d1 e5 c1 c5 f5 hpl HW1 HB1 HK1 he hbe hbg hnd hid
  go_wp2
  go_loopg [17] n (fun gk a wr => ∃ (i : Nat) (L : List (Nat × Int)), a = .int .i64 (i : Int) ∧ i + gk = n ∧ Hid (Bk wr g 85 (tbL t (.slice A n c) 0 1 (some b)) ∧ OwnB plE wr b L.length L ∧ PlaceOk L (t.row.take i) ∧ Kp (fun k => k = g) w wr))
  case atStart => exact ⟨0, [], rfl, by omega, Hinit⟩
  case round =>
    obtain ⟨i, L, rfl, hig, HX⟩ := hrel
    by_cases hin : i < n
    · have m1 : (i : Int) < (n : Int) := by omega
      have m0 : ¬ (i : Int) < 0 := by omega
      have e1 : IntKind.i64.wrap ((i : Int) + 1) = ((i + 1 : Nat) : Int) := by rw [IntKind.wrap_i64]; omega
      obtain ⟨hbk, hmap, hpo, hkp⟩ := HX.out
      have hie : i < es.length := by rw [← Hn.out]; exact hin
      have hrw := Hr.out.keep hkp (fun k e => Hr.out.off Hb.out (by decide) (by decide) k e)
      obtain ⟨R, c', ev, _, _, hR, q0, q1, q2, q3⟩ := hrw.cell i hie
      injection ev with ev ev2 ev3
      subst ev
      clear ev2 ev3
      have y0 := HP.out wr hkp
      have hmem : es[i].1 ∈ t.row := by rw [← HE.out]; exact List.mem_map_of_mem (List.getElem_mem hie)
      have hrl : t.row.length = n := by rw [← HE.out, List.length_map, ← Hn.out]
      have hri : t.row[i]'(by omega) = es[i].1 := by simp only [← HE.out, List.getElem_map]
      have hpo2 : PlaceOk (putK es[i].1.id (i : Int) L) (t.row.take (i + 1)) := by
        have h1 : t.row.take (i + 1) = t.row.take i ++ [es[i].1] := by rw [List.take_succ_eq_append_getElem (by omega), hri]
        have h2 : (t.row.take i).length = i := by rw [List.length_take]; omega
        rw [h1]
        have := hpo.push es[i].1 (fun x hx e => by
          have hnd := HND.out
          obtain ⟨j, hj, rfl⟩ := List.getElem_of_mem hx
          rw [List.length_take] at hj
          have h3 := (List.pairwise_iff_getElem.1 hnd) j i (by rw [List.length_map]; omega) (by rw [List.length_map]; omega) (by omega)
          rw [List.getElem_map, List.getElem_map, hri] at h3
          rw [List.getElem_take] at e
          exact h3 e)
        rwa [h2] at this
      have hidl := HID.out _ hmem
      have hll : L.length < maxLen := by have := hpo.1; rw [List.length_take] at this; unfold maxLen; omega
      obtain ⟨⟨⟨id, num, busy, rep⟩, ⟨sA, sN, sC⟩⟩, hei⟩ : ∃ x, es[i] = x := ⟨_, rfl⟩
      rw [hei] at q0 q1 q2 q3 hpo2 hidl
      unfold s3W at q3
      dsimp only at q0 q1 q2 q3 hpo2 hidl
      obtain ⟨wa, hwa⟩ : ∃ wa, wa = wr.alloc (Obj.cells #[Value.int IntKind.u64 (id : Int), Value.int IntKind.u64 (num : Int), Value.bool busy, .slice sA sN sC] 64) := ⟨_, rfl⟩
      obtain ⟨cb, hcb⟩ : ∃ cb, cb = wr.heap.size := ⟨_, rfl⟩
      have hba : Below wr.heap.size wr wa := by rw [hwa]; exact bel1N _ _
      have hkc : Bk wa cb 64 #[Value.int IntKind.u64 (id : Int), Value.int IntKind.u64 (num : Int), Value.bool busy, .slice sA sN sC] := by rw [hwa, hcb]; exact Bk.new wr _ _
      have z0 : wa.cell? ⟨cb, 0, none⟩ = some (Value.int IntKind.u64 (id : Int)) := hkc.cell 0
      have hkpa := hkp.trans (Kp.of_below hba)
      have z1 := HP.out wa hkpa
      have hbka := hbk.below hba hbk.lt
      have z2 : wa.cell? ⟨g, 5, none⟩ = some (.map (some b)) := hbka.cell 5
      have hmapa := hmap.kp (F := fun _ => False) (Kp.of_below hba) (fun h => h)
      have Hpo := Lib.hid hpo2
      have Hll := Lib.hid (And.intro hll hidl)
      have HWA := Lib.hid hwa
      have HCB := Lib.hid hcb
      have HA := Lib.hid (And.intro hbka (And.intro hmapa hkpa))
      clear hwa hcb hba hkc hkpa hbka hmapa hpo2 hll hidl hmem hrl hri hrw hei hbk hmap hpo hkp hie
      go_upto_region 4 with (fail)
      rw [← HWA.out]
      try rw [← HCB.out]
      clear q0 q1 q2 q3 y0
      obtain ⟨w5, hrun, hown5, hk5⟩ := (HA.out.2.1.kp (F := fun _ => False) (Kp.drew _ wa) (fun h => h)).put Try.underlying80 Hll.out.1 id Hll.out.2 (i : Int)
      unfold plE at hrun
      dsimp only at hrun
      have HO5 := Lib.hid hown5
      have HK5 := Lib.hid hk5
      clear hown5 hk5 HX Hinit
      go_region
      all_goals
        go_wp2
        go_roundg (gk - 1)
        case measure => omega
        case rel =>
          have hk5' : Kp (fun k => k = g) w w5 := (HA.out.2.2.trans (Kp.drew _ _)).trans' HK5.out fun k e => .inr (by have := HB.out; omega)
          exact ⟨i + 1, _, by go_num, by omega, Lib.hid ⟨(HA.out.1.kp (F := fun _ => False) (Kp.drew _ _) (fun h => h)).kp HK5.out (fun e => Hbg.out e.symm), HO5.out, Hpo.out, hk5'⟩⟩
    · obtain rfl : i = n := by omega
      have m1 : ¬ (i : Int) < (i : Int) := by omega
      go_wp2
      go_end0
      have hrl : t.row.take i = t.row := List.take_of_length_le (by rw [← HE.out, List.length_map, ← Hn.out]; omega)
      obtain ⟨h1, h2, h3, h4⟩ := HX.out
      rw [hrl] at h3
      exact ⟨rfl, Lib.hid ⟨b, L, h1, by have := HB.out; omega, h2, h3, h4⟩⟩
end Go.Proofs.Ytgippbbbfpkhhaa

/- Layer 13, the program's table: find. -/
namespace Go.Proofs.Ytgippbbbfpkhhaa
open Go.RowKit Go.Maps

theorem Try.zeroInt (w : World) : (zeroValue 3).run Try.prog w = .ok (.int .i64 0) w := by kernel_rfl
section
variable {w : World} {F : Nat → Prop} {g n c pb : Nat} {t : Tb} {A : Option Addr} {es : List Cle} {dn : Bool} {mp : Option Nat}
/-- Ahead of a look: what may be found by IDs. -/
structure Sure (t : Tb) : Prop where
  ids : (t.row.map (·.id)).Nodup
  idb : ∀ c ∈ t.row, c.id < 18446744073709551616
  len : t.row.length ≤ 100
theorem Tb.Ok.sure {t : Tb} (h : t.Ok) : Sure t := ⟨h.ids, fun c hc => (h.each c hc).id, by have := h.len; have := h.most; omega⟩
def DoneE (w : World) (F : Nat → Prop) (g : Nat) (t : Tb) (A : Option Addr) (n c : Nat) (es : List Cle) (w' : World) : Prop := ∃ F' b, PTm w' F' g t A n c es true (some b) ∧ Mv F F' w w' ∧ Kp (fun k => k = g) w w'
theorem do_any (h : PTm w F g t A n c es dn mp) (hs : Sure t) (hpl : w.cell? ⟨pb, 0, none⟩ = some (.pointer (some ⟨g, 0, none⟩))) (hpg : pb ≠ g) :
    Calls Try.prog 52 #[.pointer (some ⟨g, 2, none⟩), .func (.func 53) #[] #[.pointer (some ⟨pb, 0, none⟩)]] w fun e w' => e = .returned (.tuple #[]) ∧ Hid (DoneE w F g t A n c es w') := by
  obtain ⟨c0, c1, c2, c3, c4, c5, c6, c7⟩ := h.cells
  cases dn with
  | true =>
    refine (o_do_done g ⟨pb, 0, none⟩ w c2).mono ?_
    rintro e w' ⟨rfl, rfl⟩
    obtain ⟨b, L, rfl, _⟩ := h.map rfl
    exact ⟨rfl, Lib.hid ⟨F, b, h, Mv.refl _ _, Kp.refl _ _⟩⟩
  | false =>
    have hk1 : Kp (fun k => k = g) w (w.setCell ⟨g, 3, none⟩ (.int .i32 1)) := Kp.set_ (F := fun k => k = g) (p := ⟨g, 3, none⟩) rfl _
    have hb1 : Bk (w.setCell ⟨g, 3, none⟩ (.int .i32 1)) g 85 (tbL t (.slice A n c) 0 1 mp) := h.bk.set_ 3 _
    have hr1 := h.row.keep hk1 fun k e => h.row.off h.bk (by decide) (by decide) k e
    refine (o_do_first g ⟨pb, 0, none⟩ (fun w' => ∃ b L, Bk w' g 85 (tbL t (.slice A n c) 0 1 (some b)) ∧ w.heap.size ≤ b ∧ OwnB plE w' b L.length L ∧ PlaceOk L t.row ∧ Kp (fun k => k = g) w w') w ⟨c2, c3, h.frz 2, h.frz 3⟩ ?_).mono ?_
    · refine (build_any hb1 hr1 h.eq h.elen.symm (by rw [h.len]; exact hs.len) hs.ids hs.idb (cell_kp (p := ⟨pb, 0, none⟩) hpl hk1 hpg) hpg).mono ?_
      rintro e w' ⟨rfl, HX⟩
      obtain ⟨b, L, h1, h2, h3, h4, h5⟩ := HX.out
      have hsz := hk1.size
      exact ⟨rfl, Lib.hid ⟨⟨h1.cell 2, h1.cell 3, h1.frozen 2, h1.frozen 3⟩, b, L, h1, by omega, h3, h4, hk1.trans h5⟩⟩
    · rintro e w' ⟨rfl, HX⟩
      obtain ⟨w1, ⟨_, b, L, h1, h2, h3, h4, h5⟩, rfl⟩ := HX.out
      have hk2 : Kp (fun k => k = g) w1 ((w1.drew.setCell ⟨g, 2, none⟩ (.int .u32 1)).setCell ⟨g, 3, none⟩ (.int .i32 0)) :=
        (Kp.drew _ _).trans ((Kp.set_ (F := fun k => k = g) (p := ⟨g, 2, none⟩) rfl _).trans (Kp.set_ (F := fun k => k = g) (p := ⟨g, 3, none⟩) rfl _))
      have hb2 : Bk ((w1.drew.setCell ⟨g, 2, none⟩ (.int .u32 1)).setCell ⟨g, 3, none⟩ (.int .i32 0)) g 85 (tbL t (.slice A n c) 1 0 (some b)) := ((h1.kp (F := fun _ => False) (Kp.drew _ _) fun h => h).set_ 2 _).set_ 3 _
      generalize (w1.drew.setCell ⟨g, 2, none⟩ (.int .u32 1)).setCell ⟨g, 3, none⟩ (.int .i32 0) = w2 at *
      have hg := h.bk.lt
      have hm2 : OwnB plE w2 b L.length L := h3.kp hk2 (by omega)
      have hk := h5.trans hk2
      have hr2 := h.row.keep hk fun k e => h.row.off h.bk (by decide) (by decide) k e
      refine ⟨rfl, Lib.hid ⟨fun k => F k ∨ k = b, b, ⟨⟨hb2, hr2.mono fun k e => .inl e, h.eq, h.len, .inl h.fg, ?_⟩, fun _ => ⟨b, L, rfl, .inr rfl, hm2, h4⟩⟩, ⟨hk.mono fun k e => e ▸ h.fg, ?_⟩, hk⟩⟩
      · rintro k (e | rfl)
        · exact Nat.lt_of_lt_of_le (h.lt k e) hk.size
        · exact hm2.lt
      · rintro k (e | rfl)
        · exact .inl e
        · exact .inr h2
/-- What find answers. -/
def FindE (w : World) (F : Nat → Prop) (g : Nat) (t : Tb) (A : Option Addr) (n c : Nat) (es : List Cle) (k : Option Nat) (e : Ending) (w' : World) : Prop :=
  e = .returned (.tuple #[.int .i64 ((k.getD 0 : Nat) : Int), .bool k.isSome]) ∧ Hid (DoneE w F g t A n c es w')
set_option maxRecDepth 100000 in
set_option maxHeartbeats 2000000 in
theorem find_any (h : PTm w F g t A n c es dn mp) (hs : Sure t) (id : Nat) (hid : id < 18446744073709551616) :
    Calls Try.prog 30 #[.pointer (some ⟨g, 0, none⟩), .int .u64 (id : Int)] w (FindE w F g t A n c es (findC id t.row)) := by
  obtain ⟨w1, hw1⟩ : ∃ w1, w1 = w.alloc (.cells #[.pointer (some ⟨g, 0, none⟩)] 25) := ⟨_, rfl⟩
  obtain ⟨pb, hpb⟩ : ∃ pb, pb = w.heap.size := ⟨_, rfl⟩
  have hb1 : Below w.heap.size w w1 := by rw [hw1]; exact bel1N _ _
  have hk1 : Bk w1 pb 25 #[.pointer (some ⟨g, 0, none⟩)] := by rw [hw1, hpb]; exact Bk.new w _ _
  have hgl := h.bk.lt
  have hpg : pb ≠ g := by omega
  have HD := Lib.hid (do_any (h.below hb1) hs (hk1.cell 0) hpg)
  have p0 : w1.cell? ⟨pb, 0, none⟩ = some (.pointer (some ⟨g, 0, none⟩)) := hk1.cell 0
  have HW1 := Lib.hid hw1
  have HPB := Lib.hid hpb
  have HB1 := Lib.hid hb1
  have HK1 := Lib.hid hk1
  have HPG := Lib.hid hpg
  have HH := Lib.hid h
  clear hw1 hpb hb1 hk1 h hgl hpg
  unfold FindE
  obtain ⟨K, hK⟩ : ∃ K : Int, K = (((findC id t.row).getD 0 : Nat) : Int) := ⟨_, rfl⟩
  obtain ⟨S, hS⟩ : ∃ S, S = (findC id t.row).isSome := ⟨_, rfl⟩
  rw [← hK, ← hS]
  have HKS := Lib.hid (And.intro hK hS)
  clear hK hS
  go_enter Try.func30, Try.ntmps30
  go_upto_region 1 with (fail)
  rw [← HW1.out]
  try rw [← HPB.out]
  go_wp2_with fail
  refine HD.out.mono ?_
  rintro e w2 ⟨rfl, HX⟩
  obtain ⟨F', b, hp2, hm2, hk2⟩ := HX.out
  obtain ⟨b', L, e1, e2, hown, hpo⟩ := hp2.map rfl
  injection e1 with e1
  subst e1
  have hlook := hown.look2 Try.underlying80 (z := (0 : Int)) (Try.zeroInt w2) id hid
  rw [hpo.2] at hlook
  have y0 : w2.cell? ⟨pb, 0, none⟩ = some (.pointer (some ⟨g, 0, none⟩)) := cell_kp (p := ⟨pb, 0, none⟩) p0 hk2 HPG.out
  have y5 : w2.cell? ⟨g, 5, none⟩ = some (.map (some b)) := hp2.bk.cell 5
  have hgk : plE.V (((findC id t.row).map fun k => (k : Int)).getD 0) = .int .i64 (((findC id t.row).getD 0 : Nat) : Int) := by
    cases findC id t.row <;> rfl
  have hgs : ((findC id t.row).map fun k => (k : Int)).isSome = (findC id t.row).isSome := by cases findC id t.row <;> rfl
  rw [hgk, hgs, ← HKS.out.1, ← HKS.out.2] at hlook
  have HY : Hid (DoneE w F g t A n c es w2) := Lib.hid ⟨F', b, hp2, ⟨(Kp.of_below HB1.out).trans hm2.kp, fun k e => by
    rcases hm2.new k e with h' | h'
    · exact .inl h'
    · have := HB1.out.size; exact .inr (by omega)⟩, (Kp.of_below HB1.out).trans hk2⟩
  clear hp2 hm2 hk2 hown hpo HX HD hgk hgs e2 p0
  go_wp2
  refine bodyPost_ret (by simp [results, Try.results30, go_sem]; try rfl) rfl ?_
  exact ⟨rfl, HY⟩
end
end Go.Proofs.Ytgippbbbfpkhhaa
