/- Layer 12, the program's row: drop. -/
import Derived.Test.YtnomddhgcdoifaaRlD
namespace Go.Proofs.Ytnomddhgcdoifaa
open Go.RowKit

theorem own_not_bkE {w : World} {g : Nat} {t : TypeId} {cs : Array Value} {base e size n : Nat} {v : Value} {xs : List Value} (hb : Bk w g t cs) (ho : w.ownsRow base e size v n xs) (ht : e ≠ t) : ∀ k, v.ownBlock = some k → k ≠ g := by
  intro k hk e2
  subst e2
  rcases ho.2 with ⟨rfl, _⟩ | ⟨g', cap, cur, rfl, _, hh, _⟩
  · cases hk
  · injection hk with hk
    subst hk
    unfold Bk at hb
    rw [hh] at hb
    injection hb with hb
    injection hb with _ hb _
    exact ht hb
section
variable {w w' : World} {F G : Nat → Prop} {v : Value} {es : List Ene} {A : Option Addr} {n c g : Nat}
theorem EnRow.keep (h : EnRow w F v es) (hk : Kp G w w') (hd : ∀ k, (v.ownBlock = some k ∨ ∃ e ∈ es, (s3W e.2).ownBlock = some k) → ¬ G k) : EnRow w' F v es :=
  ⟨own_kp h.own hk fun k e => hd k (.inl e), fun e he => own_kp (h.each e he) hk fun k e2 => hd k (.inr ⟨e, he, e2⟩), h.foot, h.bods⟩
theorem EnRow.off (h : EnRow w F v es) {cs : Array Value} (hb : Bk w g 51 cs) : ∀ k, (v.ownBlock = some k ∨ ∃ e ∈ es, (s3W e.2).ownBlock = some k) → k ≠ g := by
  rintro k (e | ⟨e, he, e2⟩)
  · exact own_not_bkE hb h.own (by decide) k e
  · exact own_not_bkE hb (h.each e he) (by decide) k e2
/-- A body is no row. -/
theorem EnRow.bodRow (h : EnRow w F v es) {e : Ene} (he : e ∈ es) : ∀ k, (s3W e.2).ownBlock = some k → ¬ v.ownBlock = some k := fun k e1 e2 => by
  rcases own_types_ne (h.each e he) h.own (by decide) with h' | h'
  · rw [h'] at e1; cases e1
  · exact h' (e1.trans e2.symm)
theorem edel_any (h : EnRow w F (.slice A n c) es) (hn : n = es.length) (d : Nat) (hd : d ≤ n) :
    Calls Try.prog 46 #[.slice A n c, .int .i64 0, .int .i64 (d : Int)] w fun e w' =>
      e = .returned (.slice A (n - d) c) ∧ EnRow w' F (.slice A (n - d) c) (es.drop d) ∧ Kp (fun j => (Value.slice A n c).ownBlock = some j) w w' := by
  obtain ⟨A0, c0, e0, hnc, hcm⟩ := h.shape
  injection e0 with e1 e2 e3
  subst e1 e2 e3
  by_cases hd0 : d = 0
  · subst hd0
    refine (edel0_any (A := A) hnc).mono ?_
    rintro e w' ⟨rfl, rfl⟩
    exact ⟨rfl, h, Kp.refl _ _⟩
  · obtain ⟨b, rfl⟩ : ∃ b, A = some ⟨b, 0, none⟩ := by
      rcases h.own.2 with ⟨h', h0⟩ | ⟨g, cap, cur, hv, _⟩
      · omega
      · injection hv with hv _ _; exact ⟨g, hv⟩
    refine (edelete_any h.own rfl (by omega) hd hnc).mono ?_
    rintro e w' ⟨rfl, ho, hk⟩
    have hk' : Kp (fun j => (Value.slice (some ⟨b, 0, none⟩) es.length c).ownBlock = some j) w w' := hk.mono fun k e => by subst e; rfl
    refine ⟨rfl, ⟨by rw [List.length_drop]; exact ho, fun e he => ?_, fun k e => h.foot k e, fun e he => h.bods e ((List.drop_sublist _ _).subset he)⟩, hk'⟩
    have he' := (List.drop_sublist _ _).subset he
    exact own_kp (h.each e he') hk' (h.bodRow he')
end
def DrpE (w : World) (F : Nat → Prop) (g : Nat) (p : Rl) (u : Nat) (e : Ending) (w' : World) : Prop := e = .returned (.int .i64 (findE (u + 1) p.row : Int)) ∧ PL w' F g ⟨p.ap, aboveE u p.row⟩ ∧ Kp F w w'
set_option maxRecDepth 100000 in
set_option maxHeartbeats 2000000 in
theorem edrop_any {w : World} {F : Nat → Prop} {g : Nat} {p : Rl} (h : PL w F g p) (u : Nat) : Calls Try.prog 38 #[.pointer (some ⟨g, 1, none⟩), .int .u64 (u : Int)] w (DrpE w F g p u) := by
  obtain ⟨A, n, c, es, hbk, hrow, heq, hn, hok, hFg, hlt⟩ := h
  have hel : n = es.length := by rw [hn, ← heq, List.length_map]
  have c1 : w.cell? ⟨g, 1, none⟩ = some (.slice A n c) := hbk.cell 1
  have f1 : w.frozen? ⟨g, 1, none⟩ = false := hbk.frozen 1
  have hlen := hok.len
  have HB := Lib.hid (efind_any hrow (by rw [heq]; exact hok.rise) (by omega) u)
  rw [heq] at HB
  unfold BsE at HB
  have hfs := find_succ (u := u) hok.rise
  have hle := findE_le (u + 1) p.row
  have hle0 := findE_le u p.row
  have HE : Hid (∀ W w3 d, d = findE (u + 1) p.row → Below w.heap.size w W → EnRow w3 F (.slice A (n - d) c) (es.drop d) → Kp (fun j => (Value.slice A n c).ownBlock = some j) W w3 → DrpE w F g p u (.returned (.int .i64 (d : Int))) (w3.setCell ⟨g, 1, none⟩ (.slice A (n - d) c))) := Lib.hid fun W w3 d hd hb hr hk => by
    have hoff := hrow.off hbk
    have hkF : Kp F W w3 := hk.mono fun k e => hrow.foot k e
    have hb3 : Bk w3 g 51 #[.int .u64 (p.ap : Int), .slice A n c] := (hbk.below hb hbk.lt).kp hk fun e => hoff g (.inl e) rfl
    have hks : Kp (fun j => j = g) w3 (w3.setCell ⟨g, 1, none⟩ (.slice A (n - d) c)) := Kp.set_ (F := fun j => j = g) (p := ⟨g, 1, none⟩) rfl _
    have hb4 := hb3.set_ 1 (.slice A (n - d) c)
    have hkw : Kp F w w3 := (Kp.of_below hb).trans hkF
    refine ⟨by rw [hd], ⟨A, n - d, c, es.drop d, hb4, hr.keep hks (hr.off hb3), ?_, ?_, hok.cutTo p.ap u hok.ap, hFg, fun k hk2 => ?_⟩, hkw.trans (hks.mono fun k e => by rw [e]; exact hFg)⟩
    · rw [List.map_drop, heq, hd]; rfl
    · rw [hn, hd]; unfold aboveE; rw [List.length_drop]
    · exact Nat.lt_of_lt_of_le (hlt k hk2) (hkw.trans (hks.mono fun k e => by rw [e]; exact hFg)).size
  have HD : Hid (∀ W, Below w.heap.size w W → ∀ d, d ≤ n → Calls Try.prog 46 #[.slice A n c, .int .i64 0, .int .i64 (d : Int)] W fun e w' => e = .returned (.slice A (n - d) c) ∧ Hid (EnRow w' F (.slice A (n - d) c) (es.drop d) ∧ Kp (fun j => (Value.slice A n c).ownBlock = some j) W w')) := Lib.hid fun W hb d hd => by
    refine (edel_any (hrow.below hb) hel d hd).mono ?_
    rintro e w' ⟨rfl, h1, h2⟩
    exact ⟨rfl, Lib.hid ⟨h1, h2⟩⟩
  have HG : Hid (∀ W w3, Below w.heap.size w W → Kp (fun j => (Value.slice A n c).ownBlock = some j) W w3 → w3.cell? ⟨g, 1, none⟩ = some (.slice A n c) ∧ w3.frozen? ⟨g, 1, none⟩ = false) := Lib.hid fun W w3 hb hk => by
    have hb3 : Bk w3 g 51 #[.int .u64 (p.ap : Int), .slice A n c] := (hbk.below hb hbk.lt).kp hk fun e => hrow.off hbk g (.inl e) rfl
    exact ⟨hb3.cell 1, hb3.frozen 1⟩
  have HC1 : Hid (∀ W, Below w.heap.size w W → W.cell? ⟨g, 1, none⟩ = some (.slice A n c)) := Lib.hid fun W hb => (hbk.below hb hbk.lt).cell 1
  rw [← hn] at hle hle0
  have hn4 : n ≤ 4096 := by omega
  generalize findE (u + 1) p.row = d at *
  generalize findE u p.row = k at *
  generalize hasE u p.row = hv at *
  clear hbk hrow heq hn hok hFg hlt hel hlen f1
  cases hv with
  | false =>
    obtain rfl : d = k := by simpa using hfs
    clear hfs
    go_enter Try.func38, Try.ntmps38
    go_wp2_with fail
    refine HB.out.mono ?_
    rintro e w2 ⟨rfl, hb2⟩
    have c2 := HC1.out w2 hb2
    have HD2 := Lib.hid (HD.out w2 hb2 d hle)
    have HB2 := Lib.hid hb2
    clear hb2 c1 HB HD
    go_wp2_with fail
    refine HD2.out.mono ?_
    rintro e w3 ⟨rfl, HX⟩
    obtain ⟨c3, f3⟩ := HG.out w2 w3 HB2.out HX.out.2
    have HZ := Lib.hid (HE.out w2 w3 d rfl HB2.out HX.out.1 HX.out.2)
    clear HD2 HG HE HC1
    go_wp2
    go_ret
    exact HZ.out
  | true =>
    obtain rfl : d = k + 1 := by simpa using hfs
    clear hfs
    have e5 : IntKind.i64.wrap ((k : Int) + 1) = ((k + 1 : Nat) : Int) := by rw [IntKind.wrap_i64]; omega
    go_enter Try.func38, Try.ntmps38
    go_wp2_with fail
    refine HB.out.mono ?_
    rintro e w2 ⟨rfl, hb2⟩
    have c2 := HC1.out w2 hb2
    have HD2 := Lib.hid (HD.out w2 hb2 (k + 1) hle)
    have HB2 := Lib.hid hb2
    clear hb2 c1 HB HD
    go_wp2_with fail
    refine HD2.out.mono ?_
    rintro e w3 ⟨rfl, HX⟩
    obtain ⟨c3, f3⟩ := HG.out w2 w3 HB2.out HX.out.2
    have HZ := Lib.hid (HE.out w2 w3 (k + 1) rfl HB2.out HX.out.1 HX.out.2)
    clear HD2 HG HE HC1
    go_wp2
    go_ret
    exact HZ.out
end Go.Proofs.Ytnomddhgcdoifaa
