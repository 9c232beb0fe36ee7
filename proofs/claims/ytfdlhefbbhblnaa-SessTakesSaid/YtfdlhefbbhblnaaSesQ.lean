/- Layer 7's laws: lists that are handed in, or came out; held against each other; few. -/
import Derived.Test.YtfdlhefbbhblnaaSesR
import Derived.Deep.Grids
namespace Go.Proofs.Ytfdlhefbbhblnaa
open Go.ChangeShapes Go.WideShapes Go.ChangeAt Go.RowKit Go.Deep Go.Maps

/-- A row of lists reads so. -/
def Prt (w : World) (B : Nat) (A : Option Addr) (n : Nat) (ls : List (List UInt8)) : Prop :=
  ls.length = n ∧ ∀ (i : Nat) (hi : i < ls.length), ∃ b o A' c', A = some ⟨b, o, none⟩ ∧ b < B ∧ w.cell? ⟨b, o + i, none⟩ = some (.slice A' ls[i].length c') ∧ Rd w B A' ls[i].length ls[i]
theorem Prt.below {w w' : World} {B n : Nat} {A : Option Addr} {ls : List (List UInt8)} (h : Prt w B A n ls) (hb : Below B w w') : Prt w' B A n ls :=
  ⟨h.1, fun i hi => by
    obtain ⟨b, o, A', c', h1, h2, h3, h4⟩ := h.2 i hi
    exact ⟨b, o, A', c', h1, h2, (hb.cell (p := ⟨b, o + i, none⟩) h2).trans h3, h4.below hb⟩⟩
theorem Prt.more {w : World} {B B' n : Nat} {A : Option Addr} {ls : List (List UInt8)} (h : Prt w B A n ls) (hB : B ≤ B') : Prt w B' A n ls :=
  ⟨h.1, fun i hi => by
    obtain ⟨b, o, A', c', h1, h2, h3, h4⟩ := h.2 i hi
    exact ⟨b, o, A', c', h1, by omega, h3, h4.more hB⟩⟩
theorem Prt.take {w : World} {B n : Nat} {A : Option Addr} {ls : List (List UInt8)} (h : Prt w B A n ls) (k : Nat) (hk : k ≤ n) : Prt w B A k (ls.take k) := by
  refine ⟨by rw [List.length_take, h.1]; omega, fun i hi => ?_⟩
  have hi2 : i < ls.length := by rw [List.length_take] at hi; omega
  have := h.2 i hi2
  simp only [List.getElem_take]
  exact this
theorem ByR.prt {w : World} {base : Nat} {G : Nat → Prop} {A : Option Addr} {n c : Nat} {out : List (List UInt8 × Value)} (h : ByR w base G (.slice A n c) out) (hn : n = out.length) : Prt w w.heap.size A n (out.map (·.1)) := by
  refine ⟨by rw [List.length_map, hn], fun i hi => ?_⟩
  have hi2 : i < out.length := by simpa using hi
  obtain ⟨R, c', hv, hc⟩ := h.cell i hi2
  obtain ⟨A', c2, e1, h1⟩ := h.body out[i] (List.getElem_mem hi2)
  injection hv with hv _ _
  rw [e1] at hc
  refine ⟨R, 0, A', c2, hv, World.block_lt_of_cell? _ _ hc, ?_, ?_⟩
  · rw [Nat.zero_add]; simpa using hc
  · simpa using h1.rd
theorem takes_ne {fs gs : List (List UInt8)} {k : Nat} {f g : List UInt8} (h1 : fs.take (k + 1) = fs.take k ++ [f]) (h2 : gs.take (k + 1) = gs.take k ++ [g]) (h : f ≠ g) : (fs == gs) = false := by
  rw [beq_eq_false_iff_ne]
  intro e
  rw [e] at h1
  rw [h1] at h2
  exact h (by simpa using List.append_inj_right h2 rfl)

set_option maxRecDepth 100000 in
set_option maxHeartbeats 1000000 in
theorem sameL_any (A A' : Option Addr) (n c n' c' B B' : Nat) (fs gs : List (List UInt8)) (w : World) (hn : n ≤ 9223372036854775807) (hn2 : n' ≤ 9223372036854775807) (h : Prt w B A n fs) (h' : Prt w B' A' n' gs) :
    Calls Try.prog 26 #[.slice A n c, .slice A' n' c'] w fun e w' => e = .returned (.bool (fs == gs)) ∧ ∃ q, w.drewN q = w' := by
  have HL := Lib.hid h.1
  have HL' := Lib.hid h'.1
  have H := Lib.hid h
  have H' := Lib.hid h'
  clear h h'
  by_cases hnn : n = n'
  · subst hnn
    go_enter Try.func26, Try.ntmps26
    go_wp2
    go_loopg [5] n (fun g r wr => ∃ (k : Nat), r = .int .i64 k ∧ k + g = n ∧ Hid (fs.take k = gs.take k) ∧ ∃ q, w.drewN q = wr)
    case atStart => exact ⟨0, rfl, by omega, Lib.hid rfl, 0, rfl⟩
    case round =>
      obtain ⟨k, rfl, hk, Ht, q, rfl⟩ := hrel
      by_cases hkn : k < n
      · obtain ⟨b, o, A1, c1, rfl, _, x1, r1⟩ := H.out.2 k (by rw [HL.out]; exact hkn)
        obtain ⟨b', o', A2, c2, rfl, _, x2, r2⟩ := H'.out.2 k (by rw [HL'.out]; exact hkn)
        have t1 : fs.take (k + 1) = fs.take k ++ [fs[k]'(by rw [HL.out]; exact hkn)] := List.take_succ_eq_append_getElem _
        have t2 : gs.take (k + 1) = gs.take k ++ [gs[k]'(by rw [HL'.out]; exact hkn)] := List.take_succ_eq_append_getElem _
        generalize hf : fs[k]'(by rw [HL.out]; exact hkn) = f at *
        generalize hg : gs[k]'(by rw [HL'.out]; exact hkn) = g at *
        have k1 := fun q => (r1.drewN q).str Try.underlying34 Try.underlying5 Try.underlying9 c1
        have k2 := fun q => (r2.drewN q).str Try.underlying34 Try.underlying5 Try.underlying9 c2
        have T1 := Lib.hid t1
        have T2 := Lib.hid t2
        clear r1 r2 t1 t2 hf hg
        generalize f.length = fl at *
        generalize g.length = gl at *
        go_wp2
        go_quiet (fail)
        go_wp2
        · go_ret
          refine ⟨?_, q + nq, by rw [← World.drewN_drewN]⟩
          have : (fs == gs) = false := takes_ne T1.out T2.out (fun e => by rename_i hh; rw [e] at hh; simp at hh)
          rw [this]; rfl
        · go_roundg (gk - 1)
          case measure => omega
          case rel =>
            refine ⟨k + 1, by go_num, by omega, Lib.hid ?_, q + nq, rfl⟩
            have he : f = g := by rename_i hh; simpa using hh
            rw [T1.out, T2.out, Ht.out, he]
      · have hf : fs.take k = fs := List.take_of_length_le (by rw [HL.out]; omega)
        have hg : gs.take k = gs := List.take_of_length_le (by rw [HL'.out]; omega)
        have he : (fs == gs) = true := by rw [← hf, ← hg, Ht.out]; simp
        go_wp2
        go_ret
        exact ⟨by rw [he]; rfl, q, rfl⟩
  · have hne : ((n : Int) != (n' : Int)) = true := by simp; omega
    have hq : (fs == gs) = false := by
      rw [beq_eq_false_iff_ne]
      intro e
      exact hnn (by rw [← HL.out, ← HL'.out, e])
    go_enter Try.func26, Try.ntmps26
    go_wp2
    go_ret
    exact ⟨by rw [hq]; rfl, 0, rfl⟩

def fewB (ls : List (List UInt8)) : Bool := ls.all (fun l => decide (l.length ≤ 1000)) && decide (ls.length ≤ 60)
theorem fewB_long {ls : List (List UInt8)} {k : Nat} (hk : k < ls.length) (h : 1000 < ls[k].length) : fewB ls = false := by
  unfold fewB
  have : ls.all (fun l => decide (l.length ≤ 1000)) = false := by
    rw [List.all_eq_false]
    exact ⟨ls[k], List.getElem_mem hk, by simpa using h⟩
  rw [this]; rfl
set_option maxRecDepth 100000 in
set_option maxHeartbeats 1000000 in
theorem few_any (A : Option Addr) (n c B : Nat) (ls : List (List UInt8)) (w : World) (hn : n ≤ 9223372036854775807) (h : Prt w B A n ls) :
    Calls Try.prog 28 #[.slice A n c] w fun e w' => e = .returned (.bool (fewB ls)) ∧ w' = w := by
  have HL := Lib.hid h.1
  have H := Lib.hid h
  clear h
  go_enter Try.func28, Try.ntmps28
  go_wp2
  go_loopg [3] n (fun g r wr => ∃ (k : Nat), r = .int .i64 k ∧ k + g = n ∧ Hid (∀ (i : Nat) (hi : i < ls.length), i < k → ls[i].length ≤ 1000) ∧ wr = w)
  case atStart => exact ⟨0, rfl, by omega, Lib.hid fun i _ h => by omega, rfl⟩
  case round =>
    obtain ⟨k, rfl, hk, Ht, rfl⟩ := hrel
    by_cases hkn : k < n
    · have hkl : k < ls.length := by rw [HL.out]; exact hkn
      obtain ⟨b, o, A1, c1, rfl, _, x1, r1⟩ := H.out.2 k hkl
      have Hk := Lib.hid (fun h => fewB_long hkl h)
      have Hn : Hid (ls[k].length ≤ 1000 → ∀ (i : Nat) (hi : i < ls.length), i < k + 1 → ls[i].length ≤ 1000) := Lib.hid fun h i hi hik => by
        by_cases e : i = k
        · subst e; exact h
        · exact Ht.out i hi (by omega)
      generalize ls[k].length = fl at *
      clear r1
      by_cases h1 : 1000 < fl
      · have m1 : (1000 : Int) < (fl : Int) := by omega
        have hf := Hk.out h1
        go_wp2
        go_ret
        exact ⟨by rw [hf]; rfl, rfl⟩
      · have m1 : ¬ (1000 : Int) < (fl : Int) := by omega
        go_wp2
        go_roundg (gk - 1)
        case measure => omega
        case rel => exact ⟨k + 1, by go_num, by omega, Lib.hid (Hn.out (by omega)), rfl⟩
    · have hall : ls.all (fun l => decide (l.length ≤ 1000)) = true := by
        rw [List.all_eq_true]
        intro l hl
        obtain ⟨i, hi, rfl⟩ := List.mem_iff_getElem.1 hl
        have := Ht.out i hi (by rw [HL.out] at hi; omega)
        simpa using this
      have hf : fewB ls = decide (n ≤ 60) := by unfold fewB; rw [hall, HL.out]; rfl
      go_wp2
      go_ret
      refine ⟨?_, rfl⟩
      rw [hf]
      show Ending.returned (.bool (decide ((n : Int) ≤ 60))) = Ending.returned (.bool (decide (n ≤ 60)))
      congr 2
      rw [Bool.eq_iff_iff]
      simp only [decide_eq_true_eq]
      omega

theorem prt_of_trod {H : Type} {enc : TypeId × Value → H} {W : World} {v : Value} {fuel : Nat} {x : DataW H × List MemPlace} (hf : DataW.trod enc Try.prog W 0 (fun _ => true) true fuel 33 [v] = some x) :
    ∃ (A : Option Addr) (n c : Nat) (ls : List (List UInt8)), v = .slice A n c ∧ n ≤ c ∧ c ≤ 9223372036854775807 ∧ Prt W W.heap.size A n ls := by
  rcases open_slice1 Try.underlying33 (by kernel_rfl) hf with ⟨hcs, _⟩ | ⟨a, n, c, m, nn, V, D, Pl, hcs, _, hl, hm, hmm, _, hi⟩
  · injection hcs with hcs
    exact ⟨none, 0, 0, [], hcs, by omega, by omega, rfl, fun i hi => by simp at hi⟩
  · injection hcs with hcs
    have hmm' : m = c := by simpa using hmm
    have key : ∀ i, ∃ f : List UInt8, i < n → ∃ A' c', W.cell? (a.add i) = some (.slice A' f.length c') ∧ Rd W W.heap.size A' f.length f := by
      intro i
      by_cases hin : i < n
      · obtain ⟨h1, h2⟩ := hi i (by omega)
        obtain ⟨A', n', c', l, hv1, k1, k2, k3⟩ := bytes_of_trod7 h2
        have hl := k3.1
        subst hl
        exact ⟨l, fun _ => ⟨A', c', by rw [h1, hv1], k3⟩⟩
      · exact ⟨[], fun h => absurd h hin⟩
    obtain ⟨f, hf'⟩ := Classical.axiomOfChoice key
    refine ⟨some a, n, c, (List.range n).map f, hcs, hl, by unfold maxLen at hm; omega, by simp, fun i hi' => ?_⟩
    have hin : i < n := by simpa using hi'
    obtain ⟨b, o, spot⟩ := a
    obtain ⟨A', c', h2, h5⟩ := hf' i hin
    have hspot : spot = none := by
      obtain ⟨_, _, h0, _⟩ := hf' 0 (by omega)
      simpa [Addr.add] using World.cell?_spot h0
    subst hspot
    rw [Addr.add_lit] at h2
    refine ⟨b, o, A', c', rfl, World.block_lt_of_cell? W _ h2, ?_, ?_⟩
    · simpa using h2
    · simpa using h5
set_option maxRecDepth 100000 in
theorem given_prt {H : Type} {enc : TypeId × Value → H} {W : World} {base : Nat} {v : Value} {d : DataW H} {p : List MemPlace} (hv : Value.okWide Try.prog W .any base 33 v) (h : DataW.Trod enc Try.prog W 0 (fun _ => true) true 33 v d p) :
    ∃ (A : Option Addr) (n c : Nat) (ls : List (List UInt8)), v = .slice A n c ∧ n ≤ c ∧ c ≤ 9223372036854775807 ∧ Prt W W.heap.size A n ls := by
  obtain ⟨A, n, c, rfl⟩ := okWide_slice Try.underlying33 hv
  obtain ⟨fuel, hf⟩ := h
  exact prt_of_trod hf
end Go.Proofs.Ytfdlhefbbhblnaa
