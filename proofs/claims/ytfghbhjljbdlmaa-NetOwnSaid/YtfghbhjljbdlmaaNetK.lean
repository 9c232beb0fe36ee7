/- Layer 6's laws: a net of the call's own; known, under what the chapter says of Back. -/
import Derived.Test.YtfghbhjljbdlmaaNetX
import Derived.Lib.SlBytesConst
namespace Go.Proofs.Ytfghbhjljbdlmaa
open Go.RowKit

/-- What the chapter says of Back. -/
def BackSaid : Prop := ∀ (g : Nat) (a : Int) (s : Nt) (F : Nat → Prop) (w : World), PN w F g s → Calls Try.prog 28 #[.pointer (some ⟨g, 0, none⟩), .int .i64 a] w (NActed w F g (.bool (s.there a)) (s.back a))
/-- A net of the call's own, made since W. -/
def NN (W w : World) (F : Nat → Prop) (g : Nat) (s : Nt) : Prop := PN w F g s ∧ (∀ k, F k → W.heap.size ≤ k) ∧ Below W.heap.size W w
section
variable {W w w' : World} {F F' : Nat → Prop} {g : Nat} {s s' : Nt}
theorem NN.below (h : NN W w F g s) (hb : Below w.heap.size w w') : NN W w' F g s := ⟨h.1.below hb, h.2.1, h.2.2.trans (hb.mono h.2.2.size)⟩
theorem NN.step (h : NN W w F g s) (hp : PN w' F' g s') (hm : Mv F F' w w') : NN W w' F' g s' := ⟨hp, hm.ge h.2.2.size h.2.1, h.2.2.trans (hm.kp.below h.2.1 h.2.2.size)⟩
theorem NN.up (h : NN W w F g s) (hb : Below W.heap.size W w → Below W.heap.size W w') (hp : PN w' F g s) : NN W w' F g s := ⟨hp, h.2.1, hb h.2.2⟩
/-- A call that acts on the net. -/
theorem NN.acted {f : FuncId} {vs : Array Value} {r : Value} (h : NN W w F g s) (hc : Calls Try.prog f vs w (NActed w F g r s')) :
    Calls Try.prog f vs w fun e w' => e = .returned r ∧ ∃ F', NN W w' F' g s' ∧ Mv F F' w w' := by
  refine hc.mono ?_
  rintro e w' ⟨rfl, F', hp, hm⟩
  exact ⟨rfl, F', h.step hp hm, hm⟩
theorem Rd.kpN {B n : Nat} {A : Option Addr} {l : List UInt8} (h : Rd w B A n l) (hk : Kp F w w') (hF : ∀ ad, A = some ad → ¬ F ad.block) : Rd w' B A n l :=
  ⟨h.1, fun hn => by
    obtain ⟨b, o, e, hb, hc⟩ := h.2 hn
    exact ⟨b, o, e, hb, fun j hj => cell_kp (hc j hj) hk (hF ⟨b, o, none⟩ e)⟩⟩
/-- A block, and bytes, that lie apart from the net. -/
structure Apt (w : World) (F : Nat → Prop) (k : Nat) : Prop where
  lt : k < w.heap.size
  off : ¬ F k
structure KRd (w : World) (F : Nat → Prop) (A : Option Addr) (n : Nat) (l : List UInt8) : Prop where
  rd : Rd w w.heap.size A n l
  off : ∀ ad, A = some ad → Apt w F ad.block
theorem Apt.mv {k : Nat} (h : Apt w F k) (hm : Mv F F' w w') : Apt w' F' k := ⟨Nat.lt_of_lt_of_le h.lt hm.kp.size, fun hf => by
  rcases hm.new k hf with h1 | h1
  · exact h.off h1
  · have := h.lt; omega⟩
theorem KRd.mv {A : Option Addr} {n : Nat} {l : List UInt8} (h : KRd w F A n l) (hm : Mv F F' w w') : KRd w' F' A n l :=
  ⟨(Rd.kpN h.rd hm.kp fun ad e => (h.off ad e).off).more hm.kp.size, fun ad e => (h.off ad e).mv hm⟩
theorem KRd.of_own {base n c : Nat} {A : Option Addr} {l : List UInt8} (ho : w.ownsRow base 5 1 (.slice A n c) n (u8s l)) (hF : ∀ k, F k → k < base) : KRd w F A n l :=
  ⟨Rd.of_own ho, fun ad e => by
    subst e
    have := ho.lt ad.block rfl
    exact ⟨this.2, fun hf => by have := hF _ hf; omega⟩⟩
theorem Mv.below (hb : Below w.heap.size w w') : Mv F F w w' := Mv.of (Kp.of_below hb)
theorem Bk.mv {k : Nat} {t : TypeId} {cs : Array Value} (h : Bk w k t cs) (ha : Apt w F k) (hm : Mv F F' w w') : Bk w' k t cs := h.kp hm.kp ha.off
theorem NN.lt (h : NN W w F g s) : ∀ k, F k → k < w.heap.size := h.1.lt
theorem NN.take (h : NN W w F g s) (a : Int) : Calls Try.prog 24 #[.pointer (some ⟨g, 0, none⟩), .int .i64 a] w fun e w' => ∃ b, e = .returned (.tuple #[pkV (s.look a).1 b, .bool (s.look a).2]) ∧ w'.ownsRow w.heap.size 5 1 b (s.look a).1.body.length (u8s (s.look a).1.body) ∧ NN W w' F g (s.take a) ∧ Mv F F w w' := by
  refine (nTake_any g a s F w h.1).mono ?_
  rintro e w' ⟨b, rfl, ho, hp, hk⟩
  exact ⟨b, rfl, ho, ⟨hp, h.2.1, h.2.2.trans (hk.below h.2.1 h.2.2.size)⟩, Mv.of hk⟩
theorem NN.look (h : NN W w F g s) (a : Int) : Calls Try.prog 21 #[.pointer (some ⟨g, 0, none⟩), .int .i64 a] w fun e w' => ∃ b, e = .returned (.tuple #[pkV (s.look a).1 b, .bool (s.look a).2]) ∧ w'.ownsRow w.heap.size 5 1 b (s.look a).1.body.length (u8s (s.look a).1.body) ∧ NN W w' F g s ∧ Below w.heap.size w w' := by
  refine (nLook_any h.1 a).mono ?_
  rintro e w' ⟨b, rfl, ho, hb⟩
  exact ⟨b, rfl, ho, h.below hb, hb⟩
theorem NN.len (h : NN W w F g s) : Calls Try.prog 20 #[.pointer (some ⟨g, 0, none⟩)] w fun e w' => e = .returned (.int .i64 (s.row.length : Nat)) ∧ w = w' := by
  obtain ⟨A, c, h1, _⟩ := h.1.c1
  exact nLen_any g _ c A w h1
end
theorem nn_new (n : Nat) (w : World) (h1 : 1 ≤ n) (h2 : n ≤ 12) : Calls Try.prog 15 #[.int .i64 (n : Int)] w fun e w' => ∃ g F, e = .returned (.tuple #[.pointer (some ⟨g, 0, none⟩), .int .i64 0]) ∧ NN w w' F g (Nt.new n) := by
  refine (nNew_any n w h1 h2).mono ?_
  rintro e w' ⟨g, F, rfl, hp, hf, hb⟩
  exact ⟨g, F, rfl, hp, hf, hb⟩

theorem conv_bytes (w : World) (C : Array Value) (n c g : Nat) (hg : g = w.heap.size) : (convert 32 32 (.slice (some ⟨g, 0, none⟩) n c)).run Try.prog (w.alloc (.cells C 5)) = .ok (.slice (some ⟨g, 0, none⟩) n c) (w.alloc (.cells C 5 (C.size, C.size + 1))) := by
  subst hg
  exact Lib.run_convert_bytes_const w 32 5 C n c Try.underlying32 Try.underlying5
theorem Rd.mark {w : World} {g : Nat} (hg : g = w.heap.size) (l : List UInt8) {cs : List Value} (h : cs = u8s l) (t : TypeId) (fr : Nat × Nat) : Rd (w.alloc (.cells cs.toArray t fr)) (g + 1) (some ⟨g, 0, none⟩) l.length l := by
  subst h hg
  refine ⟨rfl, fun _ => ⟨w.heap.size, 0, rfl, by omega, fun j hj => ?_⟩⟩
  rw [Nat.zero_add, World.cell?_alloc_mark]
  simp [u8s, hj]
/-- Send of one byte, written out. -/
theorem NN.sent1 {W w : World} {F : Nat → Prop} {g : Nat} {s : Nt} (h : NN W w F g s) (x : UInt8) (fr dt : Int) (xi : Int) (hx : xi = (x.toNat : Int)) :
    Calls Try.prog 23 #[.pointer (some ⟨g, 0, none⟩), .agg #[.int .i64 fr, .int .i64 dt, .slice (some ⟨w.heap.size, 0, none⟩) 1 1]] (w.alloc (.cells #[.int .u8 xi] 5 (1, 2))) fun e w' =>
      e = .returned (.int .i64 (s.send ⟨fr, dt, [x]⟩).1) ∧ ∃ F', NN W w' F' g (s.send ⟨fr, dt, [x]⟩).2 ∧ Mv F F' w w' := by
  subst hx
  have hb : Below w.heap.size w (w.alloc (.cells #[.int .u8 (x.toNat : Int)] 5 (1, 2))) := (Below.refl _ _).alloc (Nat.le_refl _) _
  have hr := (Rd.mark (w := w) rfl [x] (cs := [.int .u8 (x.toNat : Int)]) rfl 5 (1, 2)).more (B' := (w.alloc (.cells #[.int .u8 (x.toNat : Int)] 5 (1, 2))).heap.size) (by simp)
  have h2 := h.below hb
  refine (h2.acted (nSend_any g ⟨fr, dt, [x]⟩ _ 1 1 s F _ hr h2.1)).mono ?_
  rintro e w' ⟨rfl, F', h3, hm⟩
  exact ⟨rfl, F', h3, (Mv.below hb).trans hm⟩
theorem NN.sent0 {W w : World} {F : Nat → Prop} {g : Nat} {s : Nt} (h : NN W w F g s) (fr dt : Int) :
    Calls Try.prog 23 #[.pointer (some ⟨g, 0, none⟩), .agg #[.int .i64 fr, .int .i64 dt, .slice none 0 0]] w fun e w' =>
      e = .returned (.int .i64 (s.send ⟨fr, dt, []⟩).1) ∧ ∃ F', NN W w' F' g (s.send ⟨fr, dt, []⟩).2 ∧ Mv F F' w w' :=
  h.acted (nSend_any g ⟨fr, dt, []⟩ none 0 0 s F _ (Rd.nil _ _ _) h.1)

def nk1 : Nt := ⟨2, [⟨0, 1, [97]⟩], []⟩
def nk2 : Nt := ⟨2, [⟨0, 1, [97]⟩, ⟨0, 1, [98]⟩], []⟩
def nk3 : Nt := ⟨2, [⟨0, 1, [98]⟩, ⟨0, 1, [97]⟩], []⟩
def nk4 : Nt := ⟨2, [⟨0, 1, [97]⟩], []⟩
def nk5 : Nt := ⟨2, [⟨0, 1, [97]⟩], [(0, 1)]⟩
theorem nk_a : (Nt.new 2).send ⟨0, 1, [97]⟩ = (0, nk1) := by rfl
theorem nk_b : nk1.send ⟨0, 1, [98]⟩ = (0, nk2) := by rfl
theorem nk_c : nk2.back 0 = nk3 := by rfl
theorem nk_d : nk3.take 0 = nk4 := by rfl
theorem nk_e : nk3.look 0 = (⟨0, 1, [98]⟩, true) := by rfl
theorem nk_f : nk4.set 0 1 true = (0, nk5) := by rfl
theorem nk_g : nk5.send ⟨0, 1, []⟩ = (0, nk5) := by rfl

set_option maxHeartbeats 4000000 in
set_option maxRecDepth 100000 in
theorem nknown_any (hB : BackSaid) (W : World) : Calls Try.prog 17 #[] W fun e w' => e = .returned (.bool true) ∧ Below W.heap.size W w' := by
  have HB := Lib.hid hB
  have HN : Hid (∀ w, Calls Try.prog 15 #[.int .i64 2] w fun e w' => ∃ g F, e = .returned (.tuple #[.pointer (some ⟨g, 0, none⟩), .int .i64 0]) ∧ NN w w' F g (Nt.new 2)) := by
    exact Lib.hid fun w => nn_new 2 w (by decide) (by decide)
  have HN0 : Hid (∀ w, Calls Try.prog 15 #[.int .i64 0] w fun e w' => e = .returned (.tuple #[.pointer none, .int .i64 2]) ∧ w = w') := Lib.hid fun w => nNew_bad 0 w (by omega)
  have kc := conv_bytes
  clear hB
  go_enter Try.func17, Try.ntmps17
  go_wp2_with fail
  refine (HN.out W).mono ?_
  rintro x w1 ⟨g, F, rfl, h1⟩
  have Hs := h1.sent1 97 0 1 97 rfl
  rw [nk_a] at Hs
  replace Hs := Lib.hid Hs
  clear h1
  go_wp2_with fail
  refine Hs.out.mono ?_
  clear Hs
  rintro x w2 ⟨rfl, F2, h2, _⟩
  have Hs := h2.sent1 98 0 1 98 rfl
  rw [nk_b] at Hs
  replace Hs := Lib.hid Hs
  clear h2
  go_wp2_with fail
  refine Hs.out.mono ?_
  clear Hs
  rintro x w3 ⟨rfl, F3, h3, _⟩
  have Hs := h3.acted (HB.out g 0 nk2 F3 w3 h3.1)
  rw [nk_c, show nk2.there 0 = true from rfl] at Hs
  replace Hs := Lib.hid Hs
  clear h3
  go_wp2_with fail
  refine Hs.out.mono ?_
  clear Hs
  rintro x w4 ⟨rfl, F4, h4, _⟩
  have Hs := h4.take 0
  rw [nk_d, nk_e] at Hs
  replace Hs := Lib.hid Hs
  have hlt4 := Lib.hid h4.lt
  clear h4
  go_wp2_with fail
  refine Hs.out.mono ?_
  clear Hs
  rintro x w5 ⟨b, rfl, ho, h5, _⟩
  obtain ⟨A, c, rfl, hc⟩ := own_shape ho
  have hr5 := KRd.of_own ho hlt4.out
  have hba : Below w5.heap.size w5 (w5.alloc (.cells #[.int .i64 0, .int .i64 1, .slice A [98].length c] 34)) := (Below.refl _ _).alloc (Nat.le_refl _) _
  have hk6 := Bk.new w5 34 #[.int .i64 0, .int .i64 1, .slice A [98].length c]
  have hr6 := hr5.mv (Mv.below hba)
  have h6 := h5.below hba
  have ha6 : Apt (w5.alloc (.cells #[.int .i64 0, .int .i64 1, .slice A [98].length c] 34)) F4 w5.heap.size := ⟨hk6.lt, fun hf => by have := h5.lt _ hf; omega⟩
  generalize hP : w5.heap.size = P at *
  generalize hw6 : w5.alloc (.cells #[.int .i64 0, .int .i64 1, .slice A [98].length c] 34) = w6 at *
  have Hs := h6.acted (nPart_any g 0 1 nk4 F4 w6 h6.1)
  rw [nk_f] at Hs
  replace Hs := Lib.hid Hs
  have Hk6 := Lib.hid hk6
  have Hr6 := Lib.hid hr6
  have Ha6 := Lib.hid ha6
  have hw6' : w5.alloc (.cells #[.int .i64 0, .int .i64 1, .slice A 1 c] 34) = w6 := hw6
  clear h5 ho h6 hk6 hr5 hr6 ha6 hba hw6 hlt4 HB
  unfold pkV
  go_wp2_with fail
  refine Hs.out.mono ?_
  clear Hs
  rintro x w7 ⟨rfl, F7, h7, hm7⟩
  have Hk7 := Lib.hid (Hk6.out.mv Ha6.out hm7)
  have Hr7 := Lib.hid (Hr6.out.mv hm7)
  have Ha7 := Lib.hid (Ha6.out.mv hm7)
  have Hs := h7.sent0 0 1
  rw [nk_g] at Hs
  replace Hs := Lib.hid Hs
  clear h7 hm7 Hk6 Hr6 Ha6
  go_wp2_with fail
  refine Hs.out.mono ?_
  clear Hs
  rintro x w8 ⟨rfl, F8, h8, hm8⟩
  have Hk8 := Lib.hid (Hk7.out.mv Ha7.out hm8)
  have Hr8 := Lib.hid (Hr7.out.mv hm8)
  have H8 := Lib.hid h8
  clear hm8 Hk7 Hr7 Ha7 h8
  go_wp2_with fail
  refine (HN0.out w8).mono ?_
  rintro x w9 ⟨rfl, rfl⟩
  have HL : Hid (Calls Try.prog 20 #[.pointer (some ⟨g, 0, none⟩)] w8 fun e w' => e = .returned (.int .i64 1) ∧ w8 = w') := Lib.hid H8.out.len
  have c0 : w8.cell? ⟨P, 2, none⟩ = some (.slice A 1 c) := Hk8.out.cell 2
  have k1 : (convert 32 9 (.slice A 1 c)).run Try.prog w8 = .ok (.string ⟨#[98]⟩) w8 := Hr8.out.rd.str Try.underlying32 Try.underlying5 Try.underlying9 c
  go_wp2_with fail
  refine HL.out.mono ?_
  rintro x w9 ⟨rfl, rfl⟩
  go_wp2
  go_ret
  exact ⟨rfl, H8.out.2.2⟩
end Go.Proofs.Ytfghbhjljbdlmaa
