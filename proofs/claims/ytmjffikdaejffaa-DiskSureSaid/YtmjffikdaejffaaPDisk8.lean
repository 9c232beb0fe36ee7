/- The program's Disk: Clone. -/
import Derived.Test.YtmjffikdaejffaaPDisk7
namespace Go.Proofs.Ytmjffikdaejffaa
open Go.RowKit

theorem secC_one (l : List (List UInt8)) : ∀ u ∈ secC l, u.oneCell' = true := by
  intro u hu
  obtain ⟨x, _, h⟩ := List.mem_flatMap.1 hu
  exact u8s_one x u h
theorem wrC_one (l : List (Nat × List UInt8)) : ∀ u ∈ wrC l, u.oneCell' = true := by
  intro u hu
  obtain ⟨x, _, h⟩ := List.mem_flatMap.1 hu
  exact wr1_one x u h
theorem own_some {w : World} {base e size n : Nat} {v : Value} {xs : List Value} (h : w.ownsRow base e size v n xs) (hn : 0 < n) : ∃ k c, v = .slice (some ⟨k, 0, none⟩) n c ∧ base ≤ k ∧ k < w.heap.size := by
  rcases h.2 with ⟨_, h0⟩ | ⟨k, cap, cur, hv, hb, hh, _⟩
  · omega
  · exact ⟨k, cap, hv, hb, (Array.getElem?_eq_some_iff.1 hh).1⟩

theorem clone_nil (w : World) : Calls Try.prog 24 #[.pointer none] w fun e w' => e = .returned (.pointer none) ∧ w = w' := by
  go_enter Try.func24, Try.ntmps24
  go_wp2
  go_ret
  exact ⟨rfl, rfl⟩

set_option maxRecDepth 100000 in
set_option maxHeartbeats 4000000 in
theorem clone_meth (g : Nat) (d : Dk) (F : Nat → Prop) (w : World) (hwl : d.waits.length ≤ 1000000000) (h : PD w F g d) :
    Calls Try.prog 24 #[.pointer (some ⟨g, 0, none⟩)] w fun e w' => ∃ g' F', e = .returned (.pointer (some ⟨g', 0, none⟩)) ∧ PD w' F' g' d ∧ (∀ k, F' k → w.heap.size ≤ k) ∧ Below w.heap.size w w' := by
  have hlen := h.len
  obtain ⟨gn, cn, gs, cs, wv, pl, hr, hrest⟩ := h
  obtain ⟨Aw, cw, rfl, hlc, hcm⟩ := own_shape hr.rwaits
  have c0 : w.cell? ⟨g, 0, none⟩ = some (.slice (some ⟨gn, 0, none⟩) d.safe.length cn) := hr.blk.cell 0
  have c1 : w.cell? ⟨g, 1, none⟩ = some (.slice (some ⟨gs, 0, none⟩) d.safe.length cs) := hr.blk.cell 1
  have c2 : w.cell? ⟨g, 2, none⟩ = some (.slice Aw d.waits.length cw) := hr.blk.cell 2
  have c3 : w.cell? ⟨g, 3, none⟩ = some (.bool (!d.down)) := hr.blk.cell 3
  have c4 : w.cell? ⟨g, 4, none⟩ = some (.int .i64 pl) := hr.blk.cell 4
  have HR0 := Lib.hid (hr.alloc (.cells #[.slice (some ⟨gn, 0, none⟩) d.safe.length cn, .slice (some ⟨gs, 0, none⟩) d.safe.length cs, .slice Aw d.waits.length cw, .bool (!d.down), .int .i64 pl] 62))
  have HB0 := Lib.hid (Bk.new w 62 #[.slice (some ⟨gn, 0, none⟩) d.safe.length cn, .slice (some ⟨gs, 0, none⟩) d.safe.length cs, .slice Aw d.waits.length cw, .bool (!d.down), .int .i64 pl])
  have HBel := Lib.hid ((Below.refl w.heap.size w).alloc (Nat.le_refl _) (.cells #[.slice (some ⟨gn, 0, none⟩) d.safe.length cn, .slice (some ⟨gs, 0, none⟩) d.safe.length cs, .slice Aw d.waits.length cw, .bool (!d.down), .int .i64 pl] 62))
  have a0 : (w.alloc (.cells #[.slice (some ⟨gn, 0, none⟩) d.safe.length cn, .slice (some ⟨gs, 0, none⟩) d.safe.length cs, .slice Aw d.waits.length cw, .bool (!d.down), .int .i64 pl] 62)).cell? ⟨g, 0, none⟩ = some (.slice (some ⟨gn, 0, none⟩) d.safe.length cn) := HR0.out.blk.cell 0
  have Hrest := Lib.hid hrest
  have HNF : Hid (∀ k, F k → ¬ k = w.heap.size) := fun k hk e => by have := hr.lt k hk; omega
  have HC1 := Lib.hid (cloneS_any gn d.safe.length cn _ _ hlen.2 (secC_one _) HR0.out.rnow)
  have Hz : Hid ((w.alloc (.cells #[.slice (some ⟨gn, 0, none⟩) d.safe.length cn, .slice (some ⟨gs, 0, none⟩) d.safe.length cs, .slice Aw d.waits.length cw, .bool (!d.down), .int .i64 pl] 62)).heap.size = w.heap.size + 1) := by show _ = _; simp
  clear hr hrest hcm hlc
  go_enter Try.func24, Try.ntmps24
  go_wp2_with fail
  refine HC1.out.mono ?_
  rintro e w1 ⟨v1, rfl, ho1, hb1⟩
  generalize (w.alloc (.cells #[.slice (some ⟨gn, 0, none⟩) d.safe.length cn, .slice (some ⟨gs, 0, none⟩) d.safe.length cs, .slice Aw d.waits.length cw, .bool (!d.down), .int .i64 pl] 62)) = W0 at *
  obtain ⟨kn, cn', rfl, hkn1, hkn2⟩ := own_some ho1 (by omega)
  have HR1 := Lib.hid (HR0.out.below hb1)
  have HB1 := Lib.hid (HB0.out.below hb1 HB0.out.lt)
  have k1 := HB1.out.cell 0
  have f1 := HB1.out.frozen 0
  have Ho1 := Lib.hid ho1
  have Hb1 := Lib.hid (HBel.out.trans (hb1.mono (by rw [Hz.out]; omega)))
  have hz1 : W0.heap.size ≤ w1.heap.size := hb1.size
  -- the copy's first row
  have HR2 := Lib.hid (HR1.out.kp (Kp.set_ (F := fun k => k = w.heap.size) (p := ⟨w.heap.size, 0, none⟩) rfl (.slice (some ⟨kn, 0, none⟩) d.safe.length cn')) HNF.out)
  have HB2 := Lib.hid (HB1.out.set_ 0 (.slice (some ⟨kn, 0, none⟩) d.safe.length cn'))
  have Ho2 := Lib.hid (own_kp ho1 (Kp.set_ (F := fun k => k = w.heap.size) (p := ⟨w.heap.size, 0, none⟩) rfl (.slice (some ⟨kn, 0, none⟩) d.safe.length cn')) (fun k e1 e2 => by have e3 : kn = k := (by simpa [Value.ownBlock] using e1); rw [Hz.out] at hkn1; omega))
  have Hb2 := Lib.hid (Hb1.out.setCell (p := ⟨w.heap.size, 0, none⟩) (Nat.le_refl _) (.slice (some ⟨kn, 0, none⟩) d.safe.length cn'))
  have hz2 : (w1.setCell ⟨w.heap.size, 0, none⟩ (.slice (some ⟨kn, 0, none⟩) d.safe.length cn')).heap.size = w1.heap.size := by simp [World.setCell]
  have Hz2 := Lib.hid hz2
  have Hz1 := Lib.hid hz1
  have Hkn := Lib.hid (And.intro hkn1 hkn2)
  have a1 : (w1.setCell ⟨w.heap.size, 0, none⟩ (.slice (some ⟨kn, 0, none⟩) d.safe.length cn')).cell? ⟨g, 1, none⟩ = some (.slice (some ⟨gs, 0, none⟩) d.safe.length cs) := HR2.out.blk.cell 1
  have HC2 := Lib.hid (cloneS_any gs d.safe.length cs _ _ hlen.2 (secC_one _) HR2.out.rsafe)
  clear hb1 ho1 hz2 hz1 hkn1 hkn2 c0 c1 c2 c3 c4 a0 HR0 HB0 HBel HC1 HR1 HB1 Hb1 Ho1
  go_wp2_with fail
  refine HC2.out.mono ?_
  rintro e w3 ⟨v3, rfl, ho3, hb3⟩
  clear k1 f1 a1 HC2
  generalize w1.setCell ⟨w.heap.size, 0, none⟩ (.slice (some ⟨kn, 0, none⟩) d.safe.length cn') = W2 at *
  obtain ⟨ks, cs', rfl, hks1, hks2⟩ := own_some ho3 (by omega)
  have HR3 := Lib.hid (HR2.out.below hb3)
  have HB3 := Lib.hid (HB2.out.below hb3 HB2.out.lt)
  have k1 := HB3.out.cell 1
  have f1 := HB3.out.frozen 1
  have Hb3 := Lib.hid (Hb2.out.trans (hb3.mono Hb2.out.size))
  have hz3 : W2.heap.size ≤ w3.heap.size := hb3.size
  have HR4 := Lib.hid (HR3.out.kp (Kp.set_ (F := fun k => k = w.heap.size) (p := ⟨w.heap.size, 1, none⟩) rfl (.slice (some ⟨ks, 0, none⟩) d.safe.length cs')) HNF.out)
  have HB4 := Lib.hid (HB3.out.set_ 1 (.slice (some ⟨ks, 0, none⟩) d.safe.length cs'))
  have hlt2 : w.heap.size < W2.heap.size := HB2.out.lt
  have Ho4n := Lib.hid (own_kp (own_below Ho2.out hb3 (fun k e => (Ho2.out.lt k e).2)) (Kp.set_ (F := fun k => k = w.heap.size) (p := ⟨w.heap.size, 1, none⟩) rfl (.slice (some ⟨ks, 0, none⟩) d.safe.length cs')) (fun k e1 e2 => by have e3 : kn = k := (by simpa [Value.ownBlock] using e1); have := Hkn.out.1; rw [Hz.out] at this; omega))
  have Ho4s := Lib.hid (own_kp ho3 (Kp.set_ (F := fun k => k = w.heap.size) (p := ⟨w.heap.size, 1, none⟩) rfl (.slice (some ⟨ks, 0, none⟩) d.safe.length cs')) (fun k e1 e2 => by have e3 : ks = k := (by simpa [Value.ownBlock] using e1); omega))
  have Hb4 := Lib.hid (Hb3.out.setCell (p := ⟨w.heap.size, 1, none⟩) (Nat.le_refl _) (.slice (some ⟨ks, 0, none⟩) d.safe.length cs'))
  have Hz4 : Hid ((w3.setCell ⟨w.heap.size, 1, none⟩ (.slice (some ⟨ks, 0, none⟩) d.safe.length cs')).heap.size = w3.heap.size) := by show _ = _; simp [World.setCell]
  have a2 : (w3.setCell ⟨w.heap.size, 1, none⟩ (.slice (some ⟨ks, 0, none⟩) d.safe.length cs')).cell? ⟨g, 2, none⟩ = some (.slice Aw d.waits.length cw) := HR4.out.blk.cell 2
  have HC3 := Lib.hid (cloneW_any Aw d.waits.length cw _ _ hwl (wrC_one _) HR4.out.rwaits)
  have Hks := Lib.hid (And.intro hks1 hks2)
  have Hz3 := Lib.hid hz3
  clear hb3 ho3 hks1 hks2 hz3 HR2 HB2 Ho2 Hb2 HR3 HB3 Hb3 hlt2
  go_wp2_with fail
  refine HC3.out.mono ?_
  rintro e w5 ⟨v5, rfl, ho5, hb5⟩
  clear k1 f1 a2 HC3
  generalize w3.setCell ⟨w.heap.size, 1, none⟩ (.slice (some ⟨ks, 0, none⟩) d.safe.length cs') = W4 at *
  obtain ⟨Aw', cw', rfl, _⟩ := own_shape ho5
  have HB5 := Lib.hid (HB4.out.below hb5 HB4.out.lt)
  have k1 := HB5.out.cell 2
  have f1 := HB5.out.frozen 2
  have HB6 := HB5.out.set_ 2 (.slice Aw' d.waits.length cw')
  have hb6 := (Hb4.out.trans (hb5.mono Hb4.out.size)).setCell (p := ⟨w.heap.size, 2, none⟩) (Nat.le_refl _) (.slice Aw' d.waits.length cw')
  have hk6 : Kp (fun k => k = w.heap.size) w5 (w5.setCell ⟨w.heap.size, 2, none⟩ (.slice Aw' d.waits.length cw')) := Kp.set_ (F := fun k => k = w.heap.size) (p := ⟨w.heap.size, 2, none⟩) rfl _
  have x1 := Hkn.out
  have x2 := Hks.out
  have x3 := Hz.out
  have x4 := Hz2.out
  have x5 := Hz4.out
  have x6 := Hz3.out
  have x7 := Hz1.out
  have x8 := hb5.size
  have x9 := ho5.lt
  have HF : Hid (∃ F', PD (w5.setCell ⟨w.heap.size, 2, none⟩ (.slice Aw' d.waits.length cw')) F' w.heap.size d ∧ (∀ k, F' k → w.heap.size ≤ k) ∧ Below w.heap.size w (w5.setCell ⟨w.heap.size, 2, none⟩ (.slice Aw' d.waits.length cw'))) := by
    refine ⟨fun k => k = w.heap.size ∨ k = kn ∨ k = ks ∨ Value.ownBlock (.slice Aw' d.waits.length cw') = some k, ⟨kn, cn', ks, cs', _, pl, { blk := by simpa using HB6, rnow := own_mono (own_kp (own_below Ho4n.out hb5 (fun k e => (Ho4n.out.lt k e).2)) hk6 ?_) (Nat.zero_le _), rsafe := own_mono (own_kp (own_below Ho4s.out hb5 (fun k e => (Ho4s.out.lt k e).2)) hk6 ?_) (Nat.zero_le _), rwaits := own_mono (own_kp ho5 hk6 ?_) (Nat.zero_le _), nlen := HR4.out.nlen, nrow := HR4.out.nrow, srow := HR4.out.srow, wrow := HR4.out.wrow, ne1 := by omega, ne2 := by omega, ne3 := by omega, wne := ?_, foot := ⟨.inl rfl, .inr (.inl rfl), .inr (.inr (.inl rfl)), fun k e => .inr (.inr (.inr e))⟩, lt := ?_ }, Hrest.out⟩, ?_, hb6⟩
    · intro k e e2; have e3 : kn = k := (by simpa [Value.ownBlock] using e); omega
    · intro k e e2; have e3 : ks = k := (by simpa [Value.ownBlock] using e); omega
    · intro k e e2; have := (x9 k e).1; omega
    · intro k e; have := (x9 k e).1; omega
    · have hs6 : (w5.setCell ⟨w.heap.size, 2, none⟩ (.slice Aw' d.waits.length cw')).heap.size = w5.heap.size := by simp [World.setCell]
      rintro k (rfl | rfl | rfl | e)
      · rw [hs6]; omega
      · rw [hs6]; omega
      · rw [hs6]; omega
      · rw [hs6]; exact (x9 k e).2
    · rintro k (rfl | rfl | rfl | e)
      · exact Nat.le_refl _
      · omega
      · omega
      · have := (x9 k e).1; omega
  clear hb5 ho5 HB6 hb6 hk6 x1 x2 x3 x4 x5 x6 x7 x8 x9
  go_wp2
  go_ret
  obtain ⟨F', h1, h2, h3⟩ := HF.out
  exact ⟨_, F', rfl, h1, h2, h3⟩
end Go.Proofs.Ytmjffikdaejffaa
