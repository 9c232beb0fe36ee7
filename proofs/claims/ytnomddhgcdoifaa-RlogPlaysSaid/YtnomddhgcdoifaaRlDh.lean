/- Layer 12, the document's Same: equal rows of entries, wherever they lie. -/
import Derived.Test.YtnomddhgcdoifaaRlDb
import Derived.Test.YtnomddhgcdoifaaRlQ
import Derived.BigQuiet
namespace Go.Proofs.Ytnomddhgcdoifaa
open Go.RowKit

/-- A slice reads as these entries. -/
def EsR (w : World) (A : Option Addr) (l : List En) : Prop :=
  ∀ i (hi : i < l.length), ∃ R s, A = some ⟨R, 0, none⟩ ∧ w.cell? ⟨R, i * 2, none⟩ = some (.int .u64 (l[i].slot : Int)) ∧ w.cell? ⟨R, i * 2 + 1, none⟩ = some (s3W s) ∧ Rd w w.heap.size s.1 s.2.1 l[i].val
section
variable {w w' : World} {A : Option Addr} {l : List En} {F : Nat → Prop} {base c : Nat} {es : List Ene}
theorem EsR.up (h : EsR w A l) (hb : Below w.heap.size w w') : EsR w' A l := fun i hi => by
  obtain ⟨R, s, e, q0, q1, hr⟩ := h i hi
  have up : ∀ {p : Addr} {v : Value}, w.cell? p = some v → w'.cell? p = some v := fun {p v} h => (hb.cell (p := p) (World.block_lt_of_cell? w _ h)).trans h
  exact ⟨R, s, e, up q0, up q1, hr.up hb⟩
theorem EnRow.reads {n : Nat} (h : EnRow w F (.slice A n c) es) : EsR w A (es.map (·.1)) := fun i hi => by
  have hie : i < es.length := by simpa using hi
  obtain ⟨R, c', ev, _, _, _, q0, q1⟩ := h.cell i hie
  injection ev with ev _ _
  have hr := (h.body (List.getElem_mem hie)).rd
  refine ⟨R, es[i].2, ev, ?_, q1, ?_⟩
  · simpa using q0
  · simpa using hr
set_option maxRecDepth 100000 in
set_option maxHeartbeats 4000000 in
theorem sameE_any {A' : Option Addr} {n c' : Nat} (h : EsR w A l) (h' : EsR w A' l) (hn : n = l.length) (hn2 : n ≤ 5000) : Calls Try.prog 13 #[.slice A n c, .slice A' n c'] w fun e w' => e = .returned (.bool true) ∧ ∃ q, w' = w.drewN q := by
  have H := Lib.hid h
  have H' := Lib.hid h'
  have Hn := Lib.hid hn
  clear h h' hn
  go_enter Try.func13, Try.ntmps13
  go_wp2_with fail
  go_loopg [5] n (fun gk a wr => ∃ i : Nat, a = .int .i64 (i : Int) ∧ i + gk = n ∧ Hid (∃ q, wr = w.drewN q))
  case atStart => exact ⟨0, rfl, by omega, Lib.hid ⟨0, rfl⟩⟩
  case round =>
    obtain ⟨i, rfl, hig, HQ⟩ := hrel
    have HB : Hid (Below w.heap.size w wr) := Lib.hid (by obtain ⟨q, rfl⟩ := HQ.out; exact bel_drewN (Below.refl _ _) q)
    by_cases hin : i < n
    · have hil : i < l.length := by rw [← Hn.out]; exact hin
      have m1 : (i : Int) < (n : Int) := by omega
      have m0 : ¬ (i : Int) < 0 := by omega
      have e5 : IntKind.i64.wrap ((i : Int) + 1) = ((i + 1 : Nat) : Int) := by rw [IntKind.wrap_i64]; omega
      obtain ⟨R, ⟨sA, sN, sC⟩, rfl, q0, q3, hr⟩ := (H.out.up HB.out) i hil
      obtain ⟨R', ⟨tA, tN, tC⟩, rfl, p0, p3, hr'⟩ := (H'.out.up HB.out) i hil
      generalize l[i] = cl at *
      obtain ⟨slot, val⟩ := cl
      unfold s3W at q3 p3
      dsimp only at q0 q3 p0 p3 hr hr'
      have k1 : (convert 33 9 (.slice sA sN sC)).run Try.prog wr.drew = .ok (.string ⟨val.toArray⟩) wr.drew := (hr.drewN 1).str Try.underlying33 Try.underlying5 Try.underlying9 sC
      have k2 : (convert 33 9 (.slice tA tN tC)).run Try.prog wr.drew = .ok (.string ⟨val.toArray⟩) wr.drew := (hr'.drewN 1).str Try.underlying33 Try.underlying5 Try.underlying9 tC
      have k1' : (convert 33 9 (.slice sA sN sC)).run Try.prog wr = .ok (.string ⟨val.toArray⟩) wr := hr.str Try.underlying33 Try.underlying5 Try.underlying9 sC
      have k2' : (convert 33 9 (.slice tA tN tC)).run Try.prog wr = .ok (.string ⟨val.toArray⟩) wr := hr'.str Try.underlying33 Try.underlying5 Try.underlying9 tC
      clear hr hr' hil
      go_wp2_with fail
      go_region
      all_goals
        go_wp2
        go_roundg (gk - 1)
        case measure => omega
        case rel => exact ⟨i + 1, by go_num, by omega, Lib.hid (by obtain ⟨q, rfl⟩ := HQ.out; exact ⟨q + 1, (World.drewN_drewN w q 1)⟩)⟩
    · obtain rfl : i = n := by omega
      have m1 : ¬ (i : Int) < (i : Int) := by omega
      go_wp2
      go_ret
      exact ⟨rfl, HQ.out⟩
end
end Go.Proofs.Ytnomddhgcdoifaa
