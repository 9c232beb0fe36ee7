/- The program's Net: Part, Join, Send. -/
import Derived.Test.YtfghbhjljbdlmaaNetG
import Derived.Test.YtfghbhjljbdlmaaAppend2
import Derived.Test.YtfghbhjljbdlmaaMid
import Derived.Deep.RegionLaw
import Derived.Deep.RegionHeld3
namespace Go.Proofs.Ytfghbhjljbdlmaa
open Go.RowKit

theorem PN.setC {w : World} {F : Nat → Prop} {g : Nat} {s' : Nt} {w' : World} {cs : Array Value} {v : Value} {es : List (Pk × Value)} (hk : Kp (fun k => k = g) w w') (hb : Bk w' g 122 cs) (hc : NetC cs s' v) (hr : PkRow w F v es) (hg : ∀ k, (v.ownBlock = some k ∨ ∃ e ∈ es, e.2.ownBlock = some k) → k ≠ g)
    (hm : es.map (·.1) = s'.row) (ho : s'.Ok) (hFg : F g) (hlt : ∀ k, F k → k < w.heap.size) : PN w' F g s' :=
  ⟨cs, v, es, hb, hc, ⟨own_kp hr.own hk fun k e => hg k (.inl e), fun e he => own_kp (hr.each e he) hk fun k e2 => hg k (.inr ⟨e, he, e2⟩), hr.foot, hr.bods⟩, hm, ho, hFg, fun k e => Nat.lt_of_lt_of_le (hlt k e) hk.size⟩
theorem own_not_bk {w : World} {g : Nat} {t : TypeId} {cs : Array Value} {base e size n : Nat} {v : Value} {xs : List Value} (hb : Bk w g t cs) (ho : w.ownsRow base e size v n xs) (ht : e ≠ t) : ∀ k, v.ownBlock = some k → k ≠ g := by
  rintro k e1 rfl
  rcases ho.2 with ⟨rfl, _⟩ | ⟨g', cap, cur, rfl, _, hh, _⟩
  · cases e1
  · simp only [Value.ownBlock, Option.some.injEq] at e1
    subst e1
    unfold Bk at hb
    rw [hh] at hb
    simp only [Option.some.injEq, Obj.cells.injEq] at hb
    exact ht hb.2.1
theorem PkRow.off {w : World} {F : Nat → Prop} {g : Nat} {cs : Array Value} {v : Value} {es : List (Pk × Value)} (h : PkRow w F v es) (hb : Bk w g 122 cs) : ∀ k, (v.ownBlock = some k ∨ ∃ e ∈ es, e.2.ownBlock = some k) → k ≠ g := by
  rintro k (e | ⟨e, he, e2⟩)
  · exact own_not_bk hb h.own (by decide) k e
  · exact own_not_bk hb (h.each e he) (by decide) k e2

/-- A call that has turned the Net s to s' and answers r. -/
def NActed (w : World) (F : Nat → Prop) (g : Nat) (r : Value) (s' : Nt) (e : Ending) (w' : World) : Prop := e = .returned r ∧ ∃ F', PN w' F' g s' ∧ Mv F F' w w'

theorem setIf_get (cs : Array Value) (i k : Nat) (u : Value) (hi : i < cs.size) : (cs.setIfInBounds i u)[k]? = if i = k then some u else cs[k]? := by
  rw [Array.getElem?_setIfInBounds]
  split
  · rename_i e; subst e; first | rw [if_pos hi] | rfl
  · rfl
set_option maxRecDepth 100000 in
set_option maxHeartbeats 2000000 in
theorem nSet_go (g : Nat) (i j : Nat) (x : Bool) (s : Nt) (F : Nat → Prop) (w : World) (hi : i < 12) (hj : j < 12) (hni : s.node i = true) (hnj : s.node j = true) (hij : i ≠ j) (h : PN w F g s) :
    Calls Try.prog 75 #[.pointer (some ⟨g, 0, none⟩), .int .i64 (i : Int), .int .i64 (j : Int), .bool x] w (NActed w F g (.int .i64 0) (s.set i j x).2) := by
  have HA := nNode_any g s.n (i : Int) w h.c0
  have HB := nNode_any g s.n (j : Int) w h.c0
  unfold Nt.node at hni hnj
  rw [hni] at HA
  rw [hnj] at HB
  have HA := Lib.hid HA
  have HB := Lib.hid HB
  have b1 := h.bit i j hi hj
  have b2 := h.bit j i hj hi
  obtain ⟨cs, v, es, h1, h2, h3, h4, h5, h6, h7⟩ := h
  have f1 := h1.frozen (2 + i * 12 + j)
  have f2 := (h1.set_ (2 + i * 12 + j) (.bool x)).frozen (2 + j * 12 + i)
  have hne : 2 + i * 12 + j ≠ 2 + j * 12 + i := by omega
  have b3 : (w.setCell ⟨g, 2 + i * 12 + j, none⟩ (.bool x)).cell? ⟨g, 2 + j * 12 + i, none⟩ = some (.bool (s.parted j i)) := by
    rw [(h1.set_ (2 + i * 12 + j) (.bool x)).cell, setIf_get _ _ _ _ (by rw [h2.size]; omega), if_neg hne]
    exact h2.bits j i hj hi
  have HF : Hid (NActed w F g (.int .i64 0) (s.set i j x).2 (.returned (.int .i64 0)) ((w.setCell ⟨g, 2 + i * 12 + j, none⟩ (.bool x)).setCell ⟨g, 2 + j * 12 + i, none⟩ (.bool x))) := by
    have hk : Kp (fun k => k = g) w ((w.setCell ⟨g, 2 + i * 12 + j, none⟩ (.bool x)).setCell ⟨g, 2 + j * 12 + i, none⟩ (.bool x)) := (Kp.set_ (F := fun k => k = g) (p := ⟨g, 2 + i * 12 + j, none⟩) rfl _).trans (Kp.set_ (F := fun k => k = g) (p := ⟨g, 2 + j * 12 + i, none⟩) rfl _)
    have hno : (s.node i && s.node j) = true := by unfold Nt.node; rw [hni, hnj]; rfl
    have hrow : (s.set i j x).2.row = s.row := by unfold Nt.set; split <;> rfl
    have hn : (s.set i j x).2.n = s.n := by unfold Nt.set; split <;> rfl
    have hsz := h2.size
    refine ⟨rfl, F, PN.setC hk ((h1.set_ _ _).set_ _ _) ⟨by simp [hsz], ?_, ?_, fun a b ha hb => ?_⟩ h3 (h3.off h1) (by rw [hrow]; exact h4) (h5.set _ _ _) h6 h7, Mv.of (hk.mono fun k e => by rw [e]; exact h6)⟩
    · rw [setIf_get _ _ _ _ (by simp [hsz]; omega), if_neg (by omega), setIf_get _ _ _ _ (by omega), if_neg (by omega), hn]; exact h2.c0
    · rw [setIf_get _ _ _ _ (by simp [hsz]; omega), if_neg (by omega), setIf_get _ _ _ _ (by omega), if_neg (by omega)]; exact h2.c1
    · rw [setIf_get _ _ _ _ (by simp [hsz]; omega), setIf_get _ _ _ _ (by omega), Nt.set_parted hno (by omega), h2.bits a b ha hb]
      by_cases e1 : 2 + j * 12 + i = 2 + a * 12 + b
      · rw [if_pos e1, if_pos (by omega)]
      · rw [if_neg e1]
        by_cases e2 : 2 + i * 12 + j = 2 + a * 12 + b
        · rw [if_pos e2, if_pos (by omega)]
        · rw [if_neg e2, if_neg (by omega)]
  generalize s.parted i j = x1 at *
  generalize s.parted j i = x2 at *
  have hij' : ¬ (i : Int) = (j : Int) := by omega
  clear h1 h2 h3 h4 h5 h6 h7 hni hnj
  go_enter Try.func75, Try.ntmps75
  go_wp2_with fail
  refine HA.out.mono ?_
  rintro e w' ⟨rfl, rfl⟩
  go_wp2_with fail
  refine HB.out.mono ?_
  rintro e w' ⟨rfl, rfl⟩
  go_wp2
  go_ret
  exact HF.out
set_option maxRecDepth 100000 in
set_option maxHeartbeats 1000000 in
theorem nSet_bad (g : Nat) (a b : Int) (x : Bool) (s : Nt) (F : Nat → Prop) (w : World) (hbad : (s.node a && s.node b) = false ∨ a = b) (h : PN w F g s) :
    Calls Try.prog 75 #[.pointer (some ⟨g, 0, none⟩), .int .i64 a, .int .i64 b, .bool x] w fun e w' => e = .returned (.int .i64 2) ∧ w = w' := by
  have HA := Lib.hid (nNode_any g s.n a w h.c0)
  have HB := Lib.hid (nNode_any g s.n b w h.c0)
  have ea : (decide (0 ≤ a) && decide (a < (s.n : Int))) = s.node a := rfl
  have eb : (decide (0 ≤ b) && decide (b < (s.n : Int))) = s.node b := rfl
  rw [ea] at HA
  rw [eb] at HB
  clear ea eb
  cases h1 : s.node a with
  | false =>
    rw [h1] at HA
    clear h hbad
    go_enter Try.func75, Try.ntmps75
    go_wp2_with fail
    refine HA.out.mono ?_
    rintro e w' ⟨rfl, rfl⟩
    go_wp2
    go_ret
    exact ⟨rfl, rfl⟩
  | true =>
    cases h2 : s.node b with
    | false =>
      rw [h1] at HA
      rw [h2] at HB
      clear h hbad
      go_enter Try.func75, Try.ntmps75
      go_wp2_with fail
      refine HA.out.mono ?_
      rintro e w' ⟨rfl, rfl⟩
      go_wp2_with fail
      refine HB.out.mono ?_
      rintro e w' ⟨rfl, rfl⟩
      go_wp2
      go_ret
      exact ⟨rfl, rfl⟩
    | true =>
      have hab : a = b := by
        rcases hbad with hb | hb
        · rw [h1, h2] at hb; cases hb
        · exact hb
      subst hab
      rw [h1] at HA
      rw [h2] at HB
      clear h hbad
      go_enter Try.func75, Try.ntmps75
      go_wp2_with fail
      refine HA.out.mono ?_
      rintro e w' ⟨rfl, rfl⟩
      go_wp2_with fail
      refine HB.out.mono ?_
      rintro e w' ⟨rfl, rfl⟩
      go_wp2
      go_ret
      exact ⟨rfl, rfl⟩
theorem nSet_any (g : Nat) (a b : Int) (x : Bool) (s : Nt) (F : Nat → Prop) (w : World) (h : PN w F g s) :
    Calls Try.prog 75 #[.pointer (some ⟨g, 0, none⟩), .int .i64 a, .int .i64 b, .bool x] w (NActed w F g (.int .i64 (s.set a b x).1) (s.set a b x).2) := by
  by_cases hbad : (s.node a && s.node b) = false ∨ a = b
  · refine (nSet_bad g a b x s F w hbad h).mono ?_
    have e : s.set a b x = (2, s) := by unfold Nt.set; rw [if_pos hbad]
    rw [e]
    rintro e w' ⟨rfl, rfl⟩
    exact ⟨rfl, F, h, Mv.refl _ _⟩
  · have h1 : s.node a = true ∧ s.node b = true := by
      cases h3 : (s.node a && s.node b)
      · exact absurd (.inl h3) hbad
      · simpa using h3
    have hab : a ≠ b := fun e => hbad (.inr e)
    obtain ⟨i, rfl, hi, _⟩ := node_nat h1.1 h.ok.n2
    obtain ⟨j, rfl, hj, _⟩ := node_nat h1.2 h.ok.n2
    have e : (s.set i j x).1 = 0 := by unfold Nt.set; rw [if_neg hbad]
    rw [e]
    exact nSet_go g i j x s F w hi hj h1.1 h1.2 (fun e => hab (by rw [e])) h
set_option maxRecDepth 100000 in
set_option maxHeartbeats 400000 in
theorem nSet_nil (a b : Int) (x : Bool) (w : World) : Calls Try.prog 75 #[.pointer none, .int .i64 a, .int .i64 b, .bool x] w fun e w' => e = .returned (.int .i64 1) ∧ w = w' := by
  go_enter Try.func75, Try.ntmps75
  go_wp2
  go_ret
  exact ⟨rfl, rfl⟩
set_option maxRecDepth 100000 in
set_option maxHeartbeats 400000 in
theorem nPart_any (g : Nat) (a b : Int) (s : Nt) (F : Nat → Prop) (w : World) (h : PN w F g s) :
    Calls Try.prog 29 #[.pointer (some ⟨g, 0, none⟩), .int .i64 a, .int .i64 b] w (NActed w F g (.int .i64 (s.set a b true).1) (s.set a b true).2) := by
  have HS := Lib.hid (nSet_any g a b true s F w h)
  clear h
  generalize s.set a b true = r at *
  go_enter Try.func29, Try.ntmps29
  go_wp2_with fail
  refine HS.out.mono ?_
  rintro e w' ⟨rfl, h⟩
  have h := Lib.hid h
  go_wp2
  go_ret
  exact ⟨rfl, h.out⟩
set_option maxRecDepth 100000 in
set_option maxHeartbeats 400000 in
theorem nJoin_any (g : Nat) (a b : Int) (s : Nt) (F : Nat → Prop) (w : World) (h : PN w F g s) :
    Calls Try.prog 30 #[.pointer (some ⟨g, 0, none⟩), .int .i64 a, .int .i64 b] w (NActed w F g (.int .i64 (s.set a b false).1) (s.set a b false).2) := by
  have HS := Lib.hid (nSet_any g a b false s F w h)
  clear h
  generalize s.set a b false = r at *
  go_enter Try.func30, Try.ntmps30
  go_wp2_with fail
  refine HS.out.mono ?_
  rintro e w' ⟨rfl, h⟩
  have h := Lib.hid h
  go_wp2
  go_ret
  exact ⟨rfl, h.out⟩
set_option maxRecDepth 100000 in
set_option maxHeartbeats 400000 in
theorem nPart_nil (a b : Int) (w : World) : Calls Try.prog 29 #[.pointer none, .int .i64 a, .int .i64 b] w fun e w' => e = .returned (.int .i64 1) ∧ w = w' := by
  have HS := Lib.hid (nSet_nil a b true w)
  go_enter Try.func29, Try.ntmps29
  go_wp2_with fail
  refine HS.out.mono ?_
  rintro e w' ⟨rfl, rfl⟩
  go_wp2
  go_ret
  exact ⟨rfl, rfl⟩
set_option maxRecDepth 100000 in
set_option maxHeartbeats 400000 in
theorem nJoin_nil (a b : Int) (w : World) : Calls Try.prog 30 #[.pointer none, .int .i64 a, .int .i64 b] w fun e w' => e = .returned (.int .i64 1) ∧ w = w' := by
  have HS := Lib.hid (nSet_nil a b false w)
  go_enter Try.func30, Try.ntmps30
  go_wp2_with fail
  refine HS.out.mono ?_
  rintro e w' ⟨rfl, rfl⟩
  go_wp2
  go_ret
  exact ⟨rfl, rfl⟩
end Go.Proofs.Ytfghbhjljbdlmaa
