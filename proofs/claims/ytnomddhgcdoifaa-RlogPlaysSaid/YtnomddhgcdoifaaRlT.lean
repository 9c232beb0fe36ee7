/- Layer 12's laws: a log of the call's own. -/
import Derived.Test.YtnomddhgcdoifaaRlJ2
import Derived.Test.YtnomddhgcdoifaaRlO
import Derived.Test.YtnomddhgcdoifaaRlQ
import Derived.Test.YtnomddhgcdoifaaRlS
import Derived.Lib.SlBytesConst
namespace Go.Proofs.Ytnomddhgcdoifaa
open Go.RowKit

/-- A log of the call's own, made since W. -/
def OL (W w : World) (F : Nat → Prop) (g : Nat) (p : Rl) : Prop := PL w F g p ∧ (∀ k, F k → W.heap.size ≤ k) ∧ Below W.heap.size W w
/-- A cell, and bytes, apart from the log. -/
def CellA (w : World) (F : Nat → Prop) (a : Addr) (v : Value) : Prop := w.cell? a = some v ∧ ¬ F a.block
def RdA (w : World) (F : Nat → Prop) (s : Sl3) (l : List UInt8) : Prop := RdF w (fun k => ¬ F k) s l
section
variable {W w w' : World} {F F' : Nat → Prop} {g : Nat} {p p' : Rl} {a : Addr} {v : Value} {s : Sl3} {l : List UInt8}
theorem OL.below (h : OL W w F g p) (hb : Below w.heap.size w w') : OL W w' F g p := ⟨h.1.below hb, h.2.1, h.2.2.trans (hb.mono h.2.2.size)⟩
theorem OL.step (h : OL W w F g p) (hp : PL w' F' g p') (hm : Mv F F' w w') : OL W w' F' g p' := ⟨hp, hm.ge h.2.2.size h.2.1, h.2.2.trans (hm.kp.below h.2.1 h.2.2.size)⟩
theorem OL.lt (h : OL W w F g p) : ∀ k, F k → k < w.heap.size := h.1.lt
theorem OL.ok (h : OL W w F g p) : p.Ok := h.1.ok
theorem OL.kp {G : Nat → Prop} (h : OL W w F g p) (hk : Kp G w w') (hd : ∀ k, F k → ¬ G k) (hg : ∀ k, G k → W.heap.size ≤ k) : OL W w' F g p := ⟨h.1.kp hk hd, h.2.1, h.2.2.trans (hk.below hg h.2.2.size)⟩
theorem CellA.mv (h : CellA w F a v) (hm : Mv F F' w w') : CellA w' F' a v := ⟨cell_kp h.1 hm.kp h.2, fun hf => by
  rcases hm.new _ hf with h1 | h1
  · exact h.2 h1
  · have := World.block_lt_of_cell? w a h.1; omega⟩
theorem RdA.mv (h : RdA w F s l) (hm : Mv F F' w w') : RdA w' F' s l :=
  ⟨h.1, h.2.1, h.2.2.1, fun hn => by
    obtain ⟨b, o, e, hg, hb, hc⟩ := h.2.2.2 hn
    refine ⟨b, o, e, fun hf => ?_, Nat.lt_of_lt_of_le hb hm.kp.size, fun j hj => cell_kp (p := ⟨b, o + j, none⟩) (hc j hj) hm.kp hg⟩
    rcases hm.new _ hf with h1 | h1
    · exact hg h1
    · omega⟩
theorem RdA.rd (h : RdA w F s l) : Rd w w.heap.size s.1 s.2.1 l := RdF.rd h
theorem CellA.new (h : w.cell? a = some v) (hF : ¬ F a.block) : CellA w F a v := ⟨h, hF⟩
theorem RdA.of_own {base : Nat} (ho : w.ownsRow base 5 1 (s3W s) l.length (u8s l)) (hF : ∀ k, F k → k < base) : RdA w F s l :=
  (RdF.of_own ho).mono fun k e hf => by have := (ho.lt k e).1; have := hF k hf; omega
theorem Mv.belowL (hb : Below w.heap.size w w') : Mv F F w w' := Mv.of (Kp.of_below hb)
theorem OL.learn (h : OL W w F g p) (s : Nat) (si : Int) (hsi : si = (s : Int)) (hs : s < 18446744073709551616) {A : Option Addr} {n : Nat} (c : Nat) {l : List UInt8} (hr : Rd w w.heap.size A n l) (hn : n ≤ 1000000) :
    Calls Try.prog 18 #[.pointer (some ⟨g, 0, none⟩), .int .u64 si, .slice A n c] w fun e w' => e = .returned (.int .i64 (p.learn s l).1) ∧ Hid (∃ F', OL W w' F' g (p.learn s l).2 ∧ Mv F F' w w') := by
  subst hsi
  refine (elearn_any h.1 s hs c hr hn).mono ?_
  rintro e w' ⟨rfl, F', hp, hm⟩
  exact ⟨rfl, Lib.hid ⟨F', h.step hp hm, hm⟩⟩
theorem OL.apply (h : OL W w F g p) : Calls Try.prog 19 #[.pointer (some ⟨g, 0, none⟩)] w fun e w' => ∃ s, e = .returned (.tuple #[enV p.told.1 s, .bool p.told.2]) ∧ Hid (w'.ownsRow w.heap.size 5 1 (s3W s) p.told.1.val.length (u8s p.told.1.val) ∧ OL W w' F g p.apply ∧ Mv F F w w') := by
  refine (eapply_any h.1).mono ?_
  rintro e w' ⟨s, rfl, ho, hp, hk⟩
  exact ⟨s, rfl, Lib.hid ⟨ho, h.step hp (Mv.of hk), Mv.of hk⟩⟩
theorem OL.trim (h : OL W w F g p) (u : Nat) (ui : Int) (hui : ui = (u : Int)) : Calls Try.prog 20 #[.pointer (some ⟨g, 0, none⟩), .int .u64 ui] w fun e w' => e = .returned (.int .i64 ((p.trim u).1 : Int)) ∧ Hid (OL W w' F g (p.trim u).2 ∧ Mv F F w w') := by
  subst hui
  refine (etrim_any h.1 u).mono ?_
  rintro e w' ⟨rfl, hp, hk⟩
  exact ⟨rfl, Lib.hid ⟨h.step hp (Mv.of hk), Mv.of hk⟩⟩
theorem OL.install (h : OL W w F g p) (u : Nat) (hu : u < 18446744073709551616) : Calls Try.prog 27 #[.pointer (some ⟨g, 0, none⟩), .int .u64 (u : Int)] w fun e w' => e = .returned (.bool (p.install u).1) ∧ Hid (OL W w' F g (p.install u).2 ∧ Mv F F w w') := by
  refine (einstall_any h.1 u hu).mono ?_
  rintro e w' ⟨rfl, hp, hk⟩
  exact ⟨rfl, Lib.hid ⟨h.step hp (Mv.of hk), Mv.of hk⟩⟩
theorem OL.holes (h : OL W w F g p) (m : Int) (hm : m ≤ 1000000) : Calls Try.prog 16 #[.pointer (some ⟨g, 0, none⟩), .int .i64 m] w fun e w' => ∃ A c, e = .returned (.slice A (p.hol m.toNat p.top).length c) ∧ Hid (w'.ownsRow w.heap.size 23 1 (.slice A (p.hol m.toNat p.top).length c) (p.hol m.toNat p.top).length (u64s (p.hol m.toNat p.top)) ∧ Below w.heap.size w w') := by
  refine (eholes_any h.1 m hm).mono ?_
  rintro e w' ⟨A, n, c, rfl, ho, rfl, hb⟩
  exact ⟨A, c, rfl, Lib.hid ⟨ho, hb⟩⟩
theorem OL.next (h : OL W w F g p) : Calls Try.prog 9 #[.pointer (some ⟨g, 0, none⟩)] w fun e w' => e = .returned (.int .u64 (p.next : Int)) ∧ Hid (Below w.heap.size w w') := by
  refine (enext_any h.1).mono ?_
  rintro e w' ⟨rfl, hb⟩
  exact ⟨rfl, Lib.hid hb⟩
theorem OL.top (h : OL W w F g p) : Calls Try.prog 11 #[.pointer (some ⟨g, 0, none⟩)] w fun e w' => e = .returned (.int .u64 (p.top : Int)) ∧ Hid (Below w.heap.size w w') := by
  refine (etop_any h.1).mono ?_
  rintro e w' ⟨rfl, hb⟩
  exact ⟨rfl, Lib.hid hb⟩
theorem OL.applied (h : OL W w F g p) : Calls Try.prog 8 #[.pointer (some ⟨g, 0, none⟩)] w fun e w' => e = .returned (.int .u64 (p.ap : Int)) ∧ w = w' := eapplied_any h.1
theorem OL.catch_ (h : OL W w F g p) (f : Nat) (fi : Int) (hfi : fi = (f : Int)) (hf : f < 18446744073709551616) (m : Int) (hm : m ≤ 9223372036854775807) : Calls Try.prog 14 #[.pointer (some ⟨g, 0, none⟩), .int .u64 fi, .int .i64 m] w fun e w' => ∃ A c, e = .returned (.slice A (p.run f m.toNat).length c) ∧ Hid (∃ es, CatR w' w.heap.size (.slice A (p.run f m.toNat).length c) (p.run f m.toNat).length es ∧ es.map (·.1) = p.run f m.toNat ∧ Below w.heap.size w w') := by
  subst hfi
  refine (ecatch_any h.1 f hf m hm).mono ?_
  rintro e w' ⟨A, n, c, es, rfl, hc, he, hb⟩
  have hn : n = (p.run f m.toNat).length := by rw [← he, List.length_map, hc.len]
  subst hn
  exact ⟨A, c, rfl, Lib.hid ⟨es, hc, he, hb⟩⟩
end
theorem ol_new (w : World) : Calls Try.prog 6 #[] w fun e w' => ∃ g F, e = .returned (.pointer (some ⟨g, 0, none⟩)) ∧ Hid (OL w w' F g Rl.new) := by
  refine (enew_any w).mono ?_
  rintro e w' ⟨g, F, rfl, hp, hF, hb⟩
  exact ⟨g, F, rfl, Lib.hid ⟨hp, hF, hb⟩⟩
theorem conv_bytesR (w : World) (C : Array Value) (n c g : Nat) (hg : g = w.heap.size) : (convert 33 33 (.slice (some ⟨g, 0, none⟩) n c)).run Try.prog (w.alloc (.cells C 5)) = .ok (.slice (some ⟨g, 0, none⟩) n c) (w.alloc (.cells C 5 (C.size, C.size + 1))) := by
  subst hg
  exact Lib.run_convert_bytes_const w 33 5 C n c Try.underlying33 Try.underlying5
theorem Rd.markR {w : World} (x : UInt8) (xi : Int) (hx : xi = (x.toNat : Int)) : Rd (w.alloc (.cells #[.int .u8 xi] 5 (1, 2))) (w.alloc (.cells #[.int .u8 xi] 5 (1, 2))).heap.size (some ⟨w.heap.size, 0, none⟩) 1 [x] := by
  subst hx
  refine ⟨rfl, fun _ => ⟨w.heap.size, 0, rfl, by simp, fun j hj => ?_⟩⟩
  have : j = 0 := by simp at hj; omega
  subst this
  rw [World.cell?_alloc_mark]
  rfl
/-- Learn of one byte, written out. -/
theorem OL.learn1 {W w : World} {F : Nat → Prop} {g : Nat} {p : Rl} (h : OL W w F g p) (s : Nat) (si : Int) (hsi : si = (s : Int)) (hs : s < 18446744073709551616) (x : UInt8) (xi : Int) (hx : xi = (x.toNat : Int)) :
    Calls Try.prog 18 #[.pointer (some ⟨g, 0, none⟩), .int .u64 si, .slice (some ⟨w.heap.size, 0, none⟩) 1 1] (w.alloc (.cells #[.int .u8 xi] 5 (1, 2))) fun e w' => e = .returned (.int .i64 (p.learn s [x]).1) ∧ Hid (∃ F', OL W w' F' g (p.learn s [x]).2 ∧ Mv F F' w w') := by
  have hb := bel1L w (.cells #[.int .u8 xi] 5 (1, 2))
  refine ((h.below hb).learn s si hsi hs 1 (Rd.markR x xi hx) (by decide)).mono ?_
  rintro e w' ⟨rfl, HX⟩
  obtain ⟨F', ho, hm⟩ := HX.out
  exact ⟨rfl, Lib.hid ⟨F', ho, (Mv.belowL hb).trans hm⟩⟩
def kp1 : Rl := ⟨0, [⟨2, [98]⟩]⟩
def kp2 : Rl := ⟨0, [⟨1, [97]⟩, ⟨2, [98]⟩]⟩
def kp3 : Rl := ⟨1, [⟨1, [97]⟩, ⟨2, [98]⟩]⟩
def kp4 : Rl := ⟨2, [⟨1, [97]⟩, ⟨2, [98]⟩]⟩
def kp5 : Rl := ⟨2, [⟨2, [98]⟩]⟩
theorem kp_a : Rl.new.learn 2 [98] = (0, kp1) := by rfl
theorem kp_b : kp1.told = (⟨0, []⟩, false) := by rfl
theorem kp_b' : kp1.apply = kp1 := by rfl
theorem kp_c : kp1.hol 9 kp1.top = [1] := by rfl
theorem kp_d : kp1.next = 1 := by rfl
theorem kp_e : kp1.learn 1 [97] = (0, kp2) := by rfl
theorem kp_f : kp2.told = (⟨1, [97]⟩, true) := by rfl
theorem kp_f' : kp2.apply = kp3 := by rfl
theorem kp_g : kp3.told = (⟨2, [98]⟩, true) := by rfl
theorem kp_g' : kp3.apply = kp4 := by rfl
theorem kp_h : kp4.learn 2 [99] = (120, kp4) := by rfl
theorem kp_i : kp4.trim 1 = (1, kp5) := by rfl
theorem kp_j : kp5.run 2 9 = [⟨2, [98]⟩] := by rfl
theorem kp_k : kp5.run 1 9 = [] := by rfl
theorem kp_l : kp5.learn 1 [120] = (0, kp5) := by rfl
end Go.Proofs.Ytnomddhgcdoifaa
