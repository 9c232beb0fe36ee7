/- Layer 12, the program's log: Learn. -/
import Derived.Test.YtnomddhgcdoifaaRlG
import Derived.Test.YtnomddhgcdoifaaClone
namespace Go.Proofs.Ytnomddhgcdoifaa
open Go.RowKit

set_option maxRecDepth 100000 in
theorem ebytesEqual_any (A A' : Option Addr) (n c n' c' B B' : Nat) (l l' : List UInt8) (w : World) (h : Rd w B A n l) (h' : Rd w B' A' n' l') :
    Calls Try.prog 35 #[.slice A n c, .slice A' n' c'] w fun e w' => e = .returned (.bool (l == l')) ∧ w = w' := by
  have k1 := h.str (P := Try.prog) Try.underlying33 Try.underlying5 Try.underlying9 c
  have k2 := h'.str (P := Try.prog) Try.underlying33 Try.underlying5 Try.underlying9 c'
  clear h h'
  go_enter Try.func35, Try.ntmps35
  go_wp2
  go_ret
  exact ⟨rfl, rfl⟩
/-- A call that has turned the log p to p' and answers r. -/
def LActed (w : World) (F : Nat → Prop) (g : Nat) (r : Value) (p' : Rl) (e : Ending) (w' : World) : Prop := e = .returned r ∧ ∃ F', PL w' F' g p' ∧ Mv F F' w w'
section
variable {w w' : World} {F G : Nat → Prop} {v : Value} {es : List Ene} {A : Option Addr} {n c g vb i : Nat}
theorem EnRow.narrow (h : EnRow w F v es) : EnRow w (fun k => F k ∧ k < w.heap.size) v es :=
  ⟨h.own, h.each, fun k e => ⟨h.foot k e, (h.own.lt k e).2⟩, fun e he k e2 => ⟨h.bods e he k e2, ((h.each e he).lt k e2).2⟩⟩
theorem enC_ins (es : List Ene) (x : Ene) (i : Nat) : (enC es).take (i * 2) ++ (enE x ++ (enC es).drop (i * 2)) = enC (es.take i ++ x :: es.drop i) := by
  rw [enC_take, enC_drop, enC_app]
  rfl
theorem einsert_any (h : EnRow w F (.slice A n c) es) (hn : n = es.length) (hn6 : n ≤ 1000000) (hi : i ≤ n) (x : Ene) (hv : Bk w vb 45 (enE x).toArray) (hvb : ∀ k, (Value.slice A n c).ownBlock = some k → k ≠ vb) (ho : w.ownsRow 0 5 1 (s3W x.2) x.1.val.length (u8s x.1.val)) :
    Calls Try.prog 36 #[.slice A n c, .int .i64 (i : Int), .slice (some ⟨vb, 0, none⟩) 1 1] w fun e w' =>
      ∃ A' c', e = .returned (.slice A' (n + 1) c') ∧ EnRow w' (fun k => F k ∨ (s3W x.2).ownBlock = some k ∨ w.heap.size ≤ k) (.slice A' (n + 1) c') (es.take i ++ x :: es.drop i) ∧ Kp (fun j => (Value.slice A n c).ownBlock = some j) w w' := by
  obtain ⟨A0, c0, e0, hnc, hcm⟩ := h.shape
  injection e0 with e1 e2 e3
  subst e1 e2 e3
  have h1x : ∀ u ∈ enC es, u.oneCell' = true := enC_one es
  have h1v : ∀ u ∈ enE x, u.oneCell' = true := fun u hu => by
    simp only [enE, List.mem_cons, List.not_mem_nil, or_false] at hu
    rcases hu with rfl | rfl <;> rfl
  have hE : Calls Try.prog 36 #[.slice A es.length c, .int .i64 (i : Int), .slice (some ⟨vb, 0, none⟩) 1 1] w (InsE w A es.length c ((enC es).take (i * 2) ++ (enE x ++ (enC es).drop (i * 2)))) := by
    by_cases hin : i = es.length
    · subst hin
      rw [List.take_of_length_le (by rw [enC_len]; exact Nat.le_refl _), List.drop_of_length_le (by rw [enC_len]; exact Nat.le_refl _), List.append_nil]
      refine einsEnd_any h.own hn6 hnc (fun e => ?_) hv rfl h1v
      rcases h.own.2 with ⟨h', _⟩ | ⟨g, cap, cur, hv, _⟩
      · injection h'
      · injection hv with hv _ _; rw [hv] at e; cases e
    · obtain ⟨b, rfl⟩ : ∃ b, A = some ⟨b, 0, none⟩ := by
        rcases h.own.2 with ⟨h', h0⟩ | ⟨g, cap, cur, hv, _⟩
        · omega
        · injection hv with hv _ _; exact ⟨g, hv⟩
      by_cases hr : es.length + 1 ≤ c
      · exact einsIn_any h.own hn6 (by omega) hr hv (fun e => hvb b rfl e.symm) rfl h1v h1x
      · exact einsNew_any h.own hn6 (by omega) hnc (by omega) hv rfl h1v h1x
  refine hE.mono ?_
  rintro e w' ⟨A', c', rfl, ho', hk, hbl⟩
  rw [enC_ins] at ho'
  have hlen : (es.take i ++ x :: es.drop i).length = es.length + 1 := by simp; omega
  refine ⟨A', c', rfl, ⟨by rw [hlen]; exact ho', fun e he => ?_, fun k e => ?_, fun e he k e2 => ?_⟩, hk⟩
  · rcases List.mem_append.1 he with he | he
    · have he' := (List.take_sublist _ _).subset he
      exact own_kp (h.each e he') hk (h.bodRow he')
    · rcases List.mem_cons.1 he with rfl | he
      · refine own_kp ho hk fun k e1 e2 => ?_
        rcases own_types_ne ho h.own (by decide) with h' | h'
        · rw [h'] at e1; cases e1
        · exact h' (e1.trans e2.symm)
      · have he' := (List.drop_sublist _ _).subset he
        exact own_kp (h.each e he') hk (h.bodRow he')
  · rcases hbl k e with h' | h'
    · exact .inl (h.foot k h')
    · exact .inr (.inr h')
  · rcases List.mem_append.1 he with he | he
    · exact .inl (h.bods e ((List.take_sublist _ _).subset he) k e2)
    · rcases List.mem_cons.1 he with rfl | he
      · exact .inr (.inl e2)
      · exact .inl (h.bods e ((List.drop_sublist _ _).subset he) k e2)
end
end Go.Proofs.Ytnomddhgcdoifaa
