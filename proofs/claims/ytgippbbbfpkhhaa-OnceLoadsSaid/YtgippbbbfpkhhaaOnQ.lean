/- Layer 13's laws: the document's Same of equal rows; place. -/
import Derived.Test.YtgippbbbfpkhhaaOnC
import Derived.BigQuiet
namespace Go.Proofs.Ytgippbbbfpkhhaa
open Go.RowKit Go.Maps

/-- A slice reads as these clients. -/
def CsR (w : World) (A : Option Addr) (l : List Cl) : Prop :=
  ∀ i (hi : i < l.length), ∃ R s, A = some ⟨R, 0, none⟩ ∧ w.cell? ⟨R, i * 4, none⟩ = some (.int .u64 (l[i].id : Int)) ∧ w.cell? ⟨R, i * 4 + 1, none⟩ = some (.int .u64 (l[i].num : Int)) ∧ w.cell? ⟨R, i * 4 + 2, none⟩ = some (.bool l[i].busy) ∧ w.cell? ⟨R, i * 4 + 3, none⟩ = some (s3W s) ∧ Rd w w.heap.size s.1 s.2.1 l[i].rep
section
variable {w w' : World} {A : Option Addr} {l : List Cl} {F : Nat → Prop} {base c : Nat} {es : List Cle}
theorem CsR.up (h : CsR w A l) (hb : Below w.heap.size w w') : CsR w' A l := fun i hi => by
  obtain ⟨R, s, e, q0, q1, q2, q3, hr⟩ := h i hi
  have up : ∀ {p : Addr} {v : Value}, w.cell? p = some v → w'.cell? p = some v := fun {p v} h => (hb.cell (p := p) (World.block_lt_of_cell? w _ h)).trans h
  exact ⟨R, s, e, up q0, up q1, up q2, up q3, hr.up hb⟩
theorem CliR.reads (h : CliR w base A c es) : CsR w A (es.map (·.1)) := fun i hi => by
  have hie : i < es.length := by simpa using hi
  obtain ⟨R, c', ev, _, _, q0, q1, q2, q3, _⟩ := own4_cell h.own i hie
  injection ev with ev _ _
  have hr := (RdF.of_own (h.each _ (List.getElem_mem hie))).rd
  refine ⟨R, es[i].2, ev, ?_, ?_, ?_, q3, ?_⟩
  · simpa using q0
  · simpa using q1
  · simpa using q2
  · simpa using hr
theorem CliR.kp (h : CliR w base A c es) (hk : Kp F w w') (hF : ∀ k, F k → k < base) : CliR w' base A c es :=
  ⟨own_kp h.own hk (fun k e hf => by have := (h.own.lt k e).1; have := hF k hf; omega), fun e he => own_kp (h.each e he) hk fun k e2 hf => by have := ((h.each e he).lt k e2).1; have := hF k hf; omega⟩
theorem ClRow.reads {n : Nat} (h : ClRow w F (.slice A n c) es) : CsR w A (es.map (·.1)) := fun i hi => by
  have hie : i < es.length := by simpa using hi
  obtain ⟨R, c', ev, _, _, _, q0, q1, q2, q3⟩ := h.cell i hie
  injection ev with ev _ _
  have hr := (h.body (List.getElem_mem hie)).rd
  refine ⟨R, es[i].2, ev, ?_, ?_, ?_, q3, ?_⟩
  · simpa using q0
  · simpa using q1
  · simpa using q2
  · simpa using hr
set_option maxRecDepth 100000 in
set_option maxHeartbeats 4000000 in
theorem sameC_any {A' : Option Addr} {n c' : Nat} (h : CsR w A l) (h' : CsR w A' l) (hn : n = l.length) (hn2 : n ≤ 1000) : Calls Try.prog 25 #[.slice A n c, .slice A' n c'] w fun e w' => e = .returned (.bool true) ∧ ∃ q, w' = w.drewN q := by
  have H := Lib.hid h
  have H' := Lib.hid h'
  have Hn := Lib.hid hn
  clear h h' hn
  go_enter Try.func25, Try.ntmps25
  go_wp2_with fail
  go_loopg [5] n (fun gk a wr => ∃ i : Nat, a = .int .i64 (i : Int) ∧ i + gk = n ∧ Hid (∃ q, wr = w.drewN q))
  case atStart => exact ⟨0, rfl, by omega, Lib.hid ⟨0, rfl⟩⟩
  case round =>
    obtain ⟨i, rfl, hig, HQ⟩ := hrel
    have HB : Hid (Below w.heap.size w wr) := Lib.hid (by obtain ⟨q, rfl⟩ := HQ.out; exact bel_drewN (Below.refl _ _) q)
    by_cases hin : i < n
    · have hil : i < l.length := by rw [← Hn.out]; exact hin
      have m1 : (i : Int) < (n : Int) := by omega
      have m0 : ¬ (i : Int) < 0 := by omega
      have e5 : IntKind.i64.wrap ((i : Int) + 1) = ((i + 1 : Nat) : Int) := by rw [IntKind.wrap_i64]; omega
      obtain ⟨R, ⟨sA, sN, sC⟩, rfl, q0, q1, q2, q3, hr⟩ := (H.out.up HB.out) i hil
      obtain ⟨R', ⟨tA, tN, tC⟩, rfl, p0, p1, p2, p3, hr'⟩ := (H'.out.up HB.out) i hil
      generalize l[i] = cl at *
      obtain ⟨id, num, busy, rep⟩ := cl
      unfold s3W at q3 p3
      dsimp only at q0 q1 q2 q3 p0 p1 p2 p3 hr hr'
      have k1 : (convert 33 9 (.slice sA sN sC)).run Try.prog wr.drew = .ok (.string ⟨rep.toArray⟩) wr.drew := (hr.drewN 1).str Try.underlying33 Try.underlying5 Try.underlying9 sC
      have k2 : (convert 33 9 (.slice tA tN tC)).run Try.prog wr.drew = .ok (.string ⟨rep.toArray⟩) wr.drew := (hr'.drewN 1).str Try.underlying33 Try.underlying5 Try.underlying9 tC
      have k1' : (convert 33 9 (.slice sA sN sC)).run Try.prog wr = .ok (.string ⟨rep.toArray⟩) wr := hr.str Try.underlying33 Try.underlying5 Try.underlying9 sC
      have k2' : (convert 33 9 (.slice tA tN tC)).run Try.prog wr = .ok (.string ⟨rep.toArray⟩) wr := hr'.str Try.underlying33 Try.underlying5 Try.underlying9 tC
      clear hr hr' hil
      go_wp2_with fail
      go_region
      all_goals
        go_wp2
        go_roundg (gk - 1)
        case measure => omega
        case rel => exact ⟨i + 1, by go_num, by omega, Lib.hid (by obtain ⟨q, rfl⟩ := HQ.out; exact ⟨q + 1, (World.drewN_drewN w q 1)⟩)⟩
    · obtain rfl : i = n := by omega
      have m1 : ¬ (i : Int) < (i : Int) := by omega
      go_wp2
      go_ret
      exact ⟨rfl, HQ.out⟩
set_option maxRecDepth 100000 in
theorem place_any {n : Nat} (h : CsR w A l) (hn : n = l.length) (hn2 : n ≤ 1000) (id : Nat) : Calls Try.prog 29 #[.slice A n c, .int .u64 (id : Int)] w fun e w' => e = .returned (.int .i64 (idxI (findC id l))) ∧ w' = w := by
  have H := Lib.hid h
  have Hn := Lib.hid hn
  obtain ⟨I, hI⟩ : ∃ I, I = idxI (findC id l) := ⟨_, rfl⟩
  rw [← hI]
  have HI := Lib.hid hI
  clear h hn hI
  go_enter Try.func29, Try.ntmps29
  go_wp2_with fail
  go_loopg [5] n (fun gk a wr => ∃ i : Nat, a = .int .i64 (i : Int) ∧ i + gk = n ∧ wr = w ∧ Hid (∀ j (hj : j < l.length), j < i → l[j].id ≠ id))
  case atStart => exact ⟨0, rfl, by omega, rfl, Lib.hid fun j _ h => by omega⟩
  case round =>
    obtain ⟨i, rfl, hig, rfl, HN⟩ := hrel
    by_cases hin : i < n
    · have hil : i < l.length := by rw [← Hn.out]; exact hin
      have m1 : (i : Int) < (n : Int) := by omega
      have m0 : ¬ (i : Int) < 0 := by omega
      have e5 : IntKind.i64.wrap ((i : Int) + 1) = ((i + 1 : Nat) : Int) := by rw [IntKind.wrap_i64]; omega
      obtain ⟨R, s, rfl, q0, _, _, _, _⟩ := H.out i hil
      by_cases he : l[i].id = id
      · have hI : I = (i : Int) := by
          rw [HI.out]
          have : findC id l = some i := by
            unfold findC
            rw [List.findIdx?_eq_some_iff_getElem]
            exact ⟨hil, by simpa using he, fun j hj => by simpa using HN.out j (by omega) hj⟩
          rw [this]; rfl
        clear HI
        subst hI
        rw [he] at q0
        go_wp2
        go_ret
        exact ⟨rfl, rfl⟩
      · have n1 : ((l[i].id : Int) == (id : Int)) = false := by simp; omega
        have n2 : ¬ (l[i].id : Int) = (id : Int) := by omega
        have HN2 : Hid (∀ j (hj : j < l.length), j < i + 1 → l[j].id ≠ id) := Lib.hid fun j hj hji => by
          by_cases e : j = i
          · subst e; exact he
          · exact HN.out j hj (by omega)
        generalize l[i].id = LI at *
        clear he
        go_wp2
        go_roundg (gk - 1)
        case measure => omega
        case rel => exact ⟨i + 1, by go_num, by omega, rfl, HN2⟩
    · obtain rfl : i = n := by omega
      have m1 : ¬ (i : Int) < (i : Int) := by omega
      have hI : I = -1 := by
        rw [HI.out]
        have : findC id l = none := by
          unfold findC
          rw [List.findIdx?_eq_none_iff]
          intro c hc
          obtain ⟨j, hj, rfl⟩ := List.getElem_of_mem hc
          simpa using HN.out j hj (by rw [Hn.out]; exact hj)
        rw [this]; rfl
      clear HI
      subst hI
      go_wp2
      go_ret
      exact ⟨rfl, rfl⟩
end
end Go.Proofs.Ytgippbbbfpkhhaa
