/- Layer 12's laws: find; what was learned first. -/
import Derived.Test.YtpgjilpalhclcaaRlV
import Derived.Test.YtpgjilpalhclcaaRlX
import Derived.Test.YtpgjilpalhclcaaRlHo
import Derived.Test.YtpgjilpalhclcaaSame
namespace Go.Proofs.Ytpgjilpalhclcaa
open Go.RowKit

/-- The place of a slot among entries. -/
def FndE (fs : List Ene) (s : Nat) (w : World) (e : Ending) (w' : World) : Prop := w = w' ∧ ((∃ j, ∃ hj : j < fs.length, e = .returned (.int .i64 (j : Int)) ∧ fs[j].1.slot = s) ∨ (e = .returned (.int .i64 (-1)) ∧ ∀ x ∈ fs, x.1.slot ≠ s))
set_option maxRecDepth 100000 in
set_option maxHeartbeats 2000000 in
theorem find12_any {w : World} {base c : Nat} {A : Option Addr} {fs : List Ene} (h : w.ownsRow base 46 2 (.slice A fs.length c) fs.length (enC fs)) (hn : fs.length ≤ 1000000) (s : Nat) : Calls Try.prog 25 #[.slice A fs.length c, .int .u64 (s : Int)] w (FndE fs s w) := by
  have HC : Hid (∀ i (hi : i < fs.length), ∃ R, A = some ⟨R, 0, none⟩ ∧ w.cell? ⟨R, i * 2, none⟩ = some (.int .u64 (fs[i].1.slot : Int))) := Lib.hid fun i hi => by
    rcases h.2 with ⟨h', h0⟩ | ⟨g, cap, cur, hv, _⟩
    · omega
    · injection hv with hv _ _
      subst hv
      have := h.cells (g := g) rfl (i * 2 + 0) (.int .u64 (fs[i].1.slot : Int)) (by rw [enC_at fs i 0 hi (by decide)]; rfl)
      rw [Addr.add_lit, Nat.zero_add, Nat.add_zero] at this
      exact ⟨g, rfl, this⟩
  obtain ⟨N, hN⟩ : ∃ N, N = fs.length := ⟨_, rfl⟩
  have HN := Lib.hid hN
  rw [← hN] at hn ⊢
  clear h hN
  go_enter Try.func25, Try.ntmps25
  go_wp2
  go_loopg [5] N (fun gk a wr => ∃ i : Nat, a = .int .i64 (i : Int) ∧ i + gk = N ∧ Hid (wr = w) ∧ Hid (∀ j (hj : j < fs.length), j < i → fs[j].1.slot ≠ s))
  case atStart => exact ⟨0, rfl, by omega, Lib.hid rfl, Lib.hid fun j _ hj => by omega⟩
  case round =>
    obtain ⟨i, rfl, hig, HW, HP⟩ := hrel
    obtain rfl := HW.out
    by_cases hi : i < N
    · have hif : i < fs.length := by rw [← HN.out]; exact hi
      obtain ⟨R, rfl, q0⟩ := HC.out i hif
      have m1 : (i : Int) < (N : Int) := by omega
      have m0 : ¬ (i : Int) < 0 := by omega
      have e5 : IntKind.i64.wrap ((i : Int) + 1) = ((i + 1 : Nat) : Int) := by rw [IntKind.wrap_i64]; omega
      obtain ⟨x, hx⟩ : ∃ x, x = fs[i].1.slot := ⟨_, rfl⟩
      rw [← hx] at q0
      by_cases he : x = s
      · subst he
        have HR : Hid (FndE fs x wr (.returned (.int .i64 (i : Int))) wr) := Lib.hid ⟨rfl, .inl ⟨i, hif, rfl, hx.symm⟩⟩
        clear hx
        go_wp2
        go_ret
        exact HR.out
      · have k1 : ¬ (x : Int) = (s : Int) := by omega
        have HP2 : Hid (∀ j (hj : j < fs.length), j < i + 1 → fs[j].1.slot ≠ s) := Lib.hid fun j hj h => by
          by_cases e : j = i
          · subst e; rw [← hx]; exact he
          · exact HP.out j hj (by omega)
        clear hx he
        go_wp2
        go_roundg (gk - 1)
        case measure => omega
        case rel => exact ⟨i + 1, by go_num, by omega, Lib.hid rfl, HP2⟩
    · have m1 : ¬ (i : Int) < (N : Int) := by omega
      have HR : Hid (FndE fs s wr (.returned (.int .i64 (-1))) wr) := Lib.hid ⟨rfl, .inr ⟨rfl, fun x hx => by
        obtain ⟨j, hj, rfl⟩ := List.getElem_of_mem hx
        exact HP.out j hj (by have := HN.out; omega)⟩⟩
      go_wp2
      go_ret
      exact HR.out
/-- Ahead of a round. -/
structure OrS (W w : World) (F : Nat → Prop) (g : Nat) (p : Rl) (i : Nat) (v : Value) (fs : List Ene) : Prop where
  ol : OL W w F g p
  own : w.ownsRow W.heap.size 46 2 v fs.length (enC fs)
  off : ∀ k, v.ownBlock = some k → ¬ F k
  rd : ∀ e ∈ fs, Rd w W.heap.size e.2.1 e.2.2.1 e.1.val
  rel : ∀ x : En, x ∈ p.row ↔ x ∈ fs.map (·.1)
  len : fs.length ≤ i
  sm : Sm 40 p
section
variable {W w w' : World} {F F' : Nat → Prop} {g i S : Nat} {p : Rl} {v : Value} {fs : List Ene} {l : List UInt8}
theorem OrS.has (h : OrS W w F g p i v fs) (s : Nat) : p.has s = true ↔ ∃ x ∈ fs, x.1.slot = s := by
  rw [has_iff h.ol.ok]
  constructor
  · rintro ⟨e, he, rfl⟩
    obtain ⟨x, hx, rfl⟩ := List.mem_map.1 ((h.rel e).1 he)
    exact ⟨x, hx, rfl⟩
  · rintro ⟨x, hx, rfl⟩
    exact ⟨x.1, (h.rel x.1).2 (List.mem_map_of_mem hx), rfl⟩
theorem OrS.mv (h : OrS W w F g p i v fs) {q : Rl} (ho : OL W w' F' g q) (hm : Mv F F' w w') (hr : q.row = p.row) (hs : Sm 40 q) : OrS W w' F' g q (i + 1) v fs :=
  ⟨ho, own_kp h.own hm.kp h.off, fun k e hf => by
    rcases hm.new k hf with h' | h'
    · exact h.off k e h'
    · have := (h.own.lt k e).2; omega, fun e he => (h.rd e he).kp hm.kp h.ol.2.2.size fun k hk hf => by have := h.ol.2.1 k hf; omega, by rw [hr]; exact h.rel, by have := h.len; omega, hs⟩
theorem OrS.below (h : OrS W w F g p i v fs) (hb : Below w.heap.size w w') : OrS W w' F g p i v fs :=
  ⟨h.ol.below hb, own_below h.own hb fun k e => (h.own.lt k e).2, h.off, fun e he => (h.rd e he).below (hb.mono h.ol.2.2.size), h.rel, h.len, h.sm⟩
/-- What a Learn comes to. -/
theorem OrS.learned (h : OrS W w F g p i v fs) (hS : S < 40) (ho : OL W w' F' g (p.learn S l).2) (hm : Mv F F' w w') :
    ((p.learn S l).1 ≠ 0 ∨ S ≤ p.ap ∨ (∃ x ∈ fs, x.1.slot = S) → OrS W w' F' g p (i + 1) v fs) ∧
    ((p.learn S l).1 = 0 → p.ap < S → (∀ x ∈ fs, x.1.slot ≠ S) → ∀ s : Sl3, Rd w' W.heap.size s.1 s.2.1 l → ∀ (v' : Value) (w'' : World), Kp (fun k => v.ownBlock = some k) w' w'' → w''.ownsRow W.heap.size 46 2 v' (fs.length + 1) (enC (fs ++ [(⟨S, l⟩, s)])) → (∀ k, v'.ownBlock = some k → v.ownBlock = some k ∨ w'.heap.size ≤ k) → ∃ q, q.ap = p.ap ∧ OrS W w'' F' g q (i + 1) v' (fs ++ [(⟨S, l⟩, s)])) := by
  have hlen : p.row.length ≤ 40 := h.sm.len h.ol.ok
  have hoff' : ∀ k, v.ownBlock = some k → ¬ F' k := fun k e hf => by
    rcases hm.new k hf with h' | h'
    · exact h.off k e h'
    · have := (h.own.lt k e).2; omega
  constructor
  · intro hc
    have he : (p.learn S l).2 = p := by
      rcases learn_or p S l with e | ⟨_, _, _, h4, h5, _, e⟩
      · exact e
      · exfalso
        rcases hc with h' | h' | h'
        · rw [e] at h'; exact h' rfl
        · omega
        · rw [(h.has S).2 h'] at h4; cases h4
    rw [he] at ho
    exact h.mv ho hm rfl h.sm
  · intro h0 h1 h2 s hr v' w'' hk hown hbl
    have hno : p.has S = false := by
      cases hh : p.has S with
      | false => rfl
      | true => obtain ⟨x, hx, e⟩ := (h.has S).1 hh; exact absurd e (h2 x hx)
    have hv : l.length ≤ 100 := by
      by_cases hv : l.length ≤ 100
      · exact hv
      · exfalso
        unfold Rl.learn at h0
        rw [if_neg (by omega), if_pos (by omega)] at h0
        cases h0
    have he := learn_new (p := p) (s := S) (v := l) (by omega) (by omega) hv hno h1 (by omega)
    have hsm : Sm 40 (p.learn S l).2 := h.sm.learn hS l
    rw [he] at ho hsm
    have hk' : ∀ k, F' k → ¬ v.ownBlock = some k := fun k hf e => hoff' k e hf
    refine ⟨⟨p.ap, insE ⟨S, l⟩ p.row⟩, rfl, ho.kp hk hk' (fun k e => (h.own.lt k e).1), by rw [List.length_append]; exact hown, fun k e hf => ?_, fun e he => ?_, fun x => ?_, by rw [List.length_append]; have := h.len; simp; omega, hsm⟩
    · rcases hbl k e with h' | h'
      · exact hoff' k h' hf
      · have := ho.lt k hf; omega
    · rcases List.mem_append.1 he with he | he
      · refine ((h.rd e he).kp hm.kp h.ol.2.2.size fun k hk hf => by have := h.ol.2.1 k hf; omega).kp hk (Nat.le_trans h.ol.2.2.size hm.kp.size) fun k hlt e2 => ?_
        have := (h.own.lt k e2).1
        omega
      · rw [List.mem_singleton.1 he]
        refine hr.kp hk (Nat.le_trans h.ol.2.2.size hm.kp.size) fun k hlt e2 => ?_
        have := (h.own.lt k e2).1
        omega
    · rw [mem_insE, h.rel, List.map_append, List.mem_append]
      simp only [List.map_cons, List.map_nil, List.mem_singleton]
      exact ⟨fun h => h.elim .inr .inl, fun h => h.elim .inr .inl⟩
/-- What is applied next was learned first. -/
theorem OrS.at_ (h : OrS W w F g p i v fs) {j : Nat} (hj : j < fs.length) (he : fs[j].1.slot = p.ap + 1) : p.told = (fs[j].1, true) := by
  have hh : p.has (p.ap + 1) = true := (h.has _).2 ⟨_, List.getElem_mem hj, he⟩
  unfold Rl.told
  rw [if_pos hh]
  obtain ⟨h1, h2⟩ := Rl.at_mem hh
  have : p.at_ (p.ap + 1) = fs[j].1 := h.ol.ok.rise.one h1 ((h.rel _).2 (List.mem_map_of_mem (List.getElem_mem hj))) (h2.trans he.symm)
  rw [this]
end
end Go.Proofs.Ytpgjilpalhclcaa
