/- Layer 13, the program's table: find. -/
import Derived.Test.YtonkohbmknopmaaOnF
namespace Go.Proofs.Ytonkohbmknopmaa
open Go.RowKit Go.Maps

theorem Try.zeroInt (w : World) : (zeroValue 3).run Try.prog w = .ok (.int .i64 0) w := by kernel_rfl
section
variable {w : World} {F : Nat → Prop} {g n c pb : Nat} {t : Tb} {A : Option Addr} {es : List Cle} {dn : Bool} {mp : Option Nat}
/-- Ahead of a look: what may be found by IDs. -/
structure Sure (t : Tb) : Prop where
  ids : (t.row.map (·.id)).Nodup
  idb : ∀ c ∈ t.row, c.id < 18446744073709551616
  len : t.row.length ≤ 100
theorem Tb.Ok.sure {t : Tb} (h : t.Ok) : Sure t := ⟨h.ids, fun c hc => (h.each c hc).id, by have := h.len; have := h.most; omega⟩
def DoneE (w : World) (F : Nat → Prop) (g : Nat) (t : Tb) (A : Option Addr) (n c : Nat) (es : List Cle) (w' : World) : Prop := ∃ F' b, PTm w' F' g t A n c es true (some b) ∧ Mv F F' w w' ∧ Kp (fun k => k = g) w w'
theorem do_any (h : PTm w F g t A n c es dn mp) (hs : Sure t) (hpl : w.cell? ⟨pb, 0, none⟩ = some (.pointer (some ⟨g, 0, none⟩))) (hpg : pb ≠ g) :
    Calls Try.prog 52 #[.pointer (some ⟨g, 2, none⟩), .func (.func 53) #[] #[.pointer (some ⟨pb, 0, none⟩)]] w fun e w' => e = .returned (.tuple #[]) ∧ Hid (DoneE w F g t A n c es w') := by
  obtain ⟨c0, c1, c2, c3, c4, c5, c6, c7⟩ := h.cells
  cases dn with
  | true =>
    refine (o_do_done g ⟨pb, 0, none⟩ w c2).mono ?_
    rintro e w' ⟨rfl, rfl⟩
    obtain ⟨b, L, rfl, _⟩ := h.map rfl
    exact ⟨rfl, Lib.hid ⟨F, b, h, Mv.refl _ _, Kp.refl _ _⟩⟩
  | false =>
    have hk1 : Kp (fun k => k = g) w (w.setCell ⟨g, 3, none⟩ (.int .i32 1)) := Kp.set_ (F := fun k => k = g) (p := ⟨g, 3, none⟩) rfl _
    have hb1 : Bk (w.setCell ⟨g, 3, none⟩ (.int .i32 1)) g 85 (tbL t (.slice A n c) 0 1 mp) := h.bk.set_ 3 _
    have hr1 := h.row.keep hk1 fun k e => h.row.off h.bk (by decide) (by decide) k e
    refine (o_do_first g ⟨pb, 0, none⟩ (fun w' => ∃ b L, Bk w' g 85 (tbL t (.slice A n c) 0 1 (some b)) ∧ w.heap.size ≤ b ∧ OwnB plE w' b L.length L ∧ PlaceOk L t.row ∧ Kp (fun k => k = g) w w') w ⟨c2, c3, h.frz 2, h.frz 3⟩ ?_).mono ?_
    · refine (build_any hb1 hr1 h.eq h.elen.symm (by rw [h.len]; exact hs.len) hs.ids hs.idb (cell_kp (p := ⟨pb, 0, none⟩) hpl hk1 hpg) hpg).mono ?_
      rintro e w' ⟨rfl, HX⟩
      obtain ⟨b, L, h1, h2, h3, h4, h5⟩ := HX.out
      have hsz := hk1.size
      exact ⟨rfl, Lib.hid ⟨⟨h1.cell 2, h1.cell 3, h1.frozen 2, h1.frozen 3⟩, b, L, h1, by omega, h3, h4, hk1.trans h5⟩⟩
    · rintro e w' ⟨rfl, HX⟩
      obtain ⟨w1, ⟨_, b, L, h1, h2, h3, h4, h5⟩, rfl⟩ := HX.out
      have hk2 : Kp (fun k => k = g) w1 ((w1.drew.setCell ⟨g, 2, none⟩ (.int .u32 1)).setCell ⟨g, 3, none⟩ (.int .i32 0)) :=
        (Kp.drew _ _).trans ((Kp.set_ (F := fun k => k = g) (p := ⟨g, 2, none⟩) rfl _).trans (Kp.set_ (F := fun k => k = g) (p := ⟨g, 3, none⟩) rfl _))
      have hb2 : Bk ((w1.drew.setCell ⟨g, 2, none⟩ (.int .u32 1)).setCell ⟨g, 3, none⟩ (.int .i32 0)) g 85 (tbL t (.slice A n c) 1 0 (some b)) := ((h1.kp (F := fun _ => False) (Kp.drew _ _) fun h => h).set_ 2 _).set_ 3 _
      generalize (w1.drew.setCell ⟨g, 2, none⟩ (.int .u32 1)).setCell ⟨g, 3, none⟩ (.int .i32 0) = w2 at *
      have hg := h.bk.lt
      have hm2 : OwnB plE w2 b L.length L := h3.kp hk2 (by omega)
      have hk := h5.trans hk2
      have hr2 := h.row.keep hk fun k e => h.row.off h.bk (by decide) (by decide) k e
      refine ⟨rfl, Lib.hid ⟨fun k => F k ∨ k = b, b, ⟨⟨hb2, hr2.mono fun k e => .inl e, h.eq, h.len, .inl h.fg, ?_⟩, fun _ => ⟨b, L, rfl, .inr rfl, hm2, h4⟩⟩, ⟨hk.mono fun k e => e ▸ h.fg, ?_⟩, hk⟩⟩
      · rintro k (e | rfl)
        · exact Nat.lt_of_lt_of_le (h.lt k e) hk.size
        · exact hm2.lt
      · rintro k (e | rfl)
        · exact .inl e
        · exact .inr h2
/-- What find answers. -/
def FindE (w : World) (F : Nat → Prop) (g : Nat) (t : Tb) (A : Option Addr) (n c : Nat) (es : List Cle) (k : Option Nat) (e : Ending) (w' : World) : Prop :=
  e = .returned (.tuple #[.int .i64 ((k.getD 0 : Nat) : Int), .bool k.isSome]) ∧ Hid (DoneE w F g t A n c es w')
set_option maxRecDepth 100000 in
set_option maxHeartbeats 2000000 in
theorem find_any (h : PTm w F g t A n c es dn mp) (hs : Sure t) (id : Nat) (hid : id < 18446744073709551616) :
    Calls Try.prog 30 #[.pointer (some ⟨g, 0, none⟩), .int .u64 (id : Int)] w (FindE w F g t A n c es (findC id t.row)) := by
  obtain ⟨w1, hw1⟩ : ∃ w1, w1 = w.alloc (.cells #[.pointer (some ⟨g, 0, none⟩)] 25) := ⟨_, rfl⟩
  obtain ⟨pb, hpb⟩ : ∃ pb, pb = w.heap.size := ⟨_, rfl⟩
  have hb1 : Below w.heap.size w w1 := by rw [hw1]; exact bel1N _ _
  have hk1 : Bk w1 pb 25 #[.pointer (some ⟨g, 0, none⟩)] := by rw [hw1, hpb]; exact Bk.new w _ _
  have hgl := h.bk.lt
  have hpg : pb ≠ g := by omega
  have HD := Lib.hid (do_any (h.below hb1) hs (hk1.cell 0) hpg)
  have p0 : w1.cell? ⟨pb, 0, none⟩ = some (.pointer (some ⟨g, 0, none⟩)) := hk1.cell 0
  have HW1 := Lib.hid hw1
  have HPB := Lib.hid hpb
  have HB1 := Lib.hid hb1
  have HK1 := Lib.hid hk1
  have HPG := Lib.hid hpg
  have HH := Lib.hid h
  clear hw1 hpb hb1 hk1 h hgl hpg
  unfold FindE
  obtain ⟨K, hK⟩ : ∃ K : Int, K = (((findC id t.row).getD 0 : Nat) : Int) := ⟨_, rfl⟩
  obtain ⟨S, hS⟩ : ∃ S, S = (findC id t.row).isSome := ⟨_, rfl⟩
  rw [← hK, ← hS]
  have HKS := Lib.hid (And.intro hK hS)
  clear hK hS
  go_enter Try.func30, Try.ntmps30
  go_upto_region 1 with (fail)
  rw [← HW1.out]
  try rw [← HPB.out]
  go_wp2_with fail
  refine HD.out.mono ?_
  rintro e w2 ⟨rfl, HX⟩
  obtain ⟨F', b, hp2, hm2, hk2⟩ := HX.out
  obtain ⟨b', L, e1, e2, hown, hpo⟩ := hp2.map rfl
  injection e1 with e1
  subst e1
  have hlook := hown.look2 Try.underlying80 (z := (0 : Int)) (Try.zeroInt w2) id hid
  rw [hpo.2] at hlook
  have y0 : w2.cell? ⟨pb, 0, none⟩ = some (.pointer (some ⟨g, 0, none⟩)) := cell_kp (p := ⟨pb, 0, none⟩) p0 hk2 HPG.out
  have y5 : w2.cell? ⟨g, 5, none⟩ = some (.map (some b)) := hp2.bk.cell 5
  have hgk : plE.V (((findC id t.row).map fun k => (k : Int)).getD 0) = .int .i64 (((findC id t.row).getD 0 : Nat) : Int) := by
    cases findC id t.row <;> rfl
  have hgs : ((findC id t.row).map fun k => (k : Int)).isSome = (findC id t.row).isSome := by cases findC id t.row <;> rfl
  rw [hgk, hgs, ← HKS.out.1, ← HKS.out.2] at hlook
  have HY : Hid (DoneE w F g t A n c es w2) := Lib.hid ⟨F', b, hp2, ⟨(Kp.of_below HB1.out).trans hm2.kp, fun k e => by
    rcases hm2.new k e with h' | h'
    · exact .inl h'
    · have := HB1.out.size; exact .inr (by omega)⟩, (Kp.of_below HB1.out).trans hk2⟩
  clear hp2 hm2 hk2 hown hpo HX HD hgk hgs e2 p0
  go_wp2
  refine bodyPost_ret (by simp [results, Try.results30, go_sem]; try rfl) rfl ?_
  exact ⟨rfl, HY⟩
end
end Go.Proofs.Ytonkohbmknopmaa
