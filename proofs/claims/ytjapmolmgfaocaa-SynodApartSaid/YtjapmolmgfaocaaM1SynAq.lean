/- Of the proofs of layer 4, merged: SynAq. -/
import Derived.Test.YtjapmolmgfaocaaM1SynLn
import Derived.Test.YtjapmolmgfaocaaM1SynLo
import Derived.Test.YtjapmolmgfaocaaM1Lent
import Derived.BigQuiet
import Derived.Deep.QuietTactic

/- Layer 11's laws: Look whole; two letters that are the same; Spoil. -/
namespace Go.Proofs.Ytjapmolmgfaocaa
open Go.RowKit Go.Maps

section
variable {w : World} {col : Nat → Nat} {g N n : Nat} {r : Ro}
theorem look_any (h : RoM w col g N n r) (a : Int) : Calls Try.prog 25 #[.pointer (some ⟨g, 0, none⟩), .int .i64 a] w (LookR w (r.look a).1 (r.look a).2) := by
  cases hi : r.is a with
  | false => exact look_bad h a hi
  | true =>
    have h1 := (h.ok.row _ (Ro.at_mem hi)).one
    match hv : (r.at_ a).votes, h1 with
    | [], _ => exact look_none h a hi hv
    | [v], _ => exact look_one h a hi v hv
    | _ :: _ :: _, h2 => simp at h2
theorem look_one_le (h : r.Ok) (a : Int) : (r.look a).1.votes.length ≤ 1 := by
  unfold Ro.look
  split
  · rename_i hi
    exact (h.row _ (Ro.at_mem hi)).one
  · exact Nat.zero_le _
end
/-- A slice reads as these votes, at most one. -/
def VtL (w : World) (A : Option Addr) (l : List Vt) : Prop := l.length ≤ 1 ∧ ∀ v, l = [v] → ∃ R A' c', A = some ⟨R, 0, none⟩ ∧ (w.cell? ⟨R, 0, none⟩ = some (.int .u64 (v.slot : Int)) ∧ w.cell? ⟨R, 1, none⟩ = some (.int .u64 (v.bal.n : Int)) ∧ w.cell? ⟨R, 2, none⟩ = some (.int .i64 v.bal.node) ∧ w.cell? ⟨R, 3, none⟩ = some (.slice A' v.val.length c')) ∧ Rd w w.heap.size A' v.val.length v.val ∧ R < w.heap.size
theorem VtL.below {w w' : World} {A : Option Addr} {l : List Vt} (h : VtL w A l) (hb : Below w.heap.size w w') : VtL w' A l :=
  ⟨h.1, fun v e => by
    obtain ⟨R, A', c', e1, ⟨q0, q1, q2, q3⟩, hr, hlt⟩ := h.2 v e
    exact ⟨R, A', c', e1, ⟨(hb.cell (p := ⟨R, 0, none⟩) hlt).trans q0, (hb.cell (p := ⟨R, 1, none⟩) hlt).trans q1, (hb.cell (p := ⟨R, 2, none⟩) hlt).trans q2, (hb.cell (p := ⟨R, 3, none⟩) hlt).trans q3⟩, hr.up hb, Nat.lt_of_lt_of_le hlt hb.size⟩⟩
theorem LkO.vtL {w w' : World} {A : Option Addr} {c : Nat} {l : List Vt} (h : LkO w w' l A c) (hl : l.length ≤ 1) : VtL w' A l :=
  ⟨hl, fun v e => by
    obtain ⟨R, A', c', rfl, _, ho, hb, _⟩ := h.2 v e
    have q0 := ho.cells (g := R) rfl 0 _ rfl
    have q1 := ho.cells (g := R) rfl 1 _ rfl
    have q2 := ho.cells (g := R) rfl 2 _ rfl
    have q3 := ho.cells (g := R) rfl 3 _ rfl
    rw [Addr.add_lit, Nat.zero_add] at q0 q1 q2 q3
    exact ⟨R, A', c', rfl, ⟨q0, q1, q2, q3⟩, Rd.of_own hb, (ho.lt R rfl).2⟩⟩
def TrueB (w : World) (e : Ending) (w' : World) : Prop := e = .returned (.bool true) ∧ Below w.heap.size w w'
set_option maxRecDepth 100000 in
set_option maxHeartbeats 4000000 in
theorem same09_eq {w : World} {A B : Option Addr} {c d : Nat} {l : List Vt} (hA : VtL w A l) (hB : VtL w B l) : Calls Try.prog 41 #[.slice A l.length c, .slice B l.length d] w (TrueB w) := by
  match l, hA, hB with
  | [], _, _ =>
    go_enter Try.func41, Try.ntmps41
    go_wp2_with fail
    go_loopg [5] 0 (fun gk i wr => i = .int .i64 0 ∧ w = wr)
    case atStart => exact ⟨rfl, rfl⟩
    case round =>
      obtain ⟨rfl, rfl⟩ := hrel
      go_wp2
      go_ret
      exact ⟨rfl, Below.refl _ _⟩
  | _ :: _ :: _, h, _ => exact absurd h.1 (by simp)
  | [v], hA, hB =>
    obtain ⟨gA, xA, xc, rfl, ⟨a0, a1, a2, a3⟩, hx, _⟩ := hA.2 v rfl
    obtain ⟨gB, yA, yc, rfl, ⟨b0, b1, b2, b3⟩, hy, _⟩ := hB.2 v rfl
    have k1 : ∀ q, (convert 31 9 (.slice xA v.val.length xc)).run Try.prog (w.drewN q) = .ok (.string ⟨v.val.toArray⟩) (w.drewN q) := fun q => (hx.drewN q).str Try.underlying31 Try.underlying5 Try.underlying9 xc
    have k2 : ∀ q, (convert 31 9 (.slice yA v.val.length yc)).run Try.prog (w.drewN q) = .ok (.string ⟨v.val.toArray⟩) (w.drewN q) := fun q => (hy.drewN q).str Try.underlying31 Try.underlying5 Try.underlying9 yc
    generalize v.val.length = L at *
    generalize (⟨v.val.toArray⟩ : ByteArray) = str at *
    clear hA hB hx hy
    go_enter Try.func41, Try.ntmps41
    go_wp2_with fail
    go_loopg [5] 1 (fun gk i wr => (i = .int .i64 0 ∧ gk = 1 ∧ w = wr) ∨ (i = .int .i64 1 ∧ gk = 0 ∧ Hid (Below w.heap.size w wr)))
    case atStart => exact .inl ⟨rfl, rfl, rfl⟩
    case round =>
      rcases hrel with ⟨rfl, rfl, rfl⟩ | ⟨rfl, rfl, HB⟩
      · go_wp2_with fail
        go_quiet (fail)
        go_wp2
        go_roundg 0
        case measure => omega
        case rel => exact .inr ⟨by go_num, rfl, Lib.hid (bel_drewN (Below.refl _ _) _)⟩
      · go_wp2
        go_ret
        exact ⟨rfl, HB.out⟩
def mlG (m : Ml) (x : Value) : Value := .agg #[.int .i64 (m.kind : Int), .int .i64 (m.frm : Int), .int .i64 (m.dst : Int), .int .u64 (m.bal.n : Int), .int .i64 m.bal.node, x]
set_option maxRecDepth 100000 in
set_option maxHeartbeats 4000000 in
theorem same11_eq {w : World} {A B : Option Addr} {c d : Nat} {m : Ml} (hA : VtL w A m.votes) (hB : VtL w B m.votes) : Calls Try.prog 27 #[mlG m (.slice A m.votes.length c), mlG m (.slice B m.votes.length d)] w (TrueB w) := by
  unfold mlG
  obtain ⟨w1, hw1⟩ : ∃ w1, w1 = w.alloc (.cells #[.int .i64 (m.kind : Int), .int .i64 (m.frm : Int), .int .i64 (m.dst : Int), .int .u64 (m.bal.n : Int), .int .i64 m.bal.node, .slice A m.votes.length c] 63) := ⟨_, rfl⟩
  obtain ⟨w2, hw2⟩ : ∃ w2, w2 = w1.alloc (.cells #[.int .i64 (m.kind : Int), .int .i64 (m.frm : Int), .int .i64 (m.dst : Int), .int .u64 (m.bal.n : Int), .int .i64 m.bal.node, .slice B m.votes.length d] 63) := ⟨_, rfl⟩
  have hb1 : Below w.heap.size w w1 := by rw [hw1]; exact bel1P _
  have hb2 : Below w1.heap.size w1 w2 := by rw [hw2]; exact bel1P _
  have hs1 : w1.heap.size = w.heap.size + 1 := by rw [hw1]; simp
  have hk1 : Bk w2 w.heap.size 63 #[.int .i64 (m.kind : Int), .int .i64 (m.frm : Int), .int .i64 (m.dst : Int), .int .u64 (m.bal.n : Int), .int .i64 m.bal.node, .slice A m.votes.length c] := by
    have : Bk w1 w.heap.size 63 #[.int .i64 (m.kind : Int), .int .i64 (m.frm : Int), .int .i64 (m.dst : Int), .int .u64 (m.bal.n : Int), .int .i64 m.bal.node, .slice A m.votes.length c] := by rw [hw1]; exact Bk.new w _ _
    exact this.below hb2 this.lt
  have hk2 : Bk w2 (w.heap.size + 1) 63 #[.int .i64 (m.kind : Int), .int .i64 (m.frm : Int), .int .i64 (m.dst : Int), .int .u64 (m.bal.n : Int), .int .i64 m.bal.node, .slice B m.votes.length d] := by rw [hw2, ← hs1]; exact Bk.new w1 _ _
  have hb := below_then hb1 hb2
  have HS := Lib.hid (same09_eq (c := c) (d := d) (hA.below hb) (hB.below hb))
  have a0 : w2.cell? ⟨w.heap.size, 0, none⟩ = some (.int .i64 (m.kind : Int)) := hk1.cell 0
  have a1 : w2.cell? ⟨w.heap.size, 1, none⟩ = some (.int .i64 (m.frm : Int)) := hk1.cell 1
  have a2 : w2.cell? ⟨w.heap.size, 2, none⟩ = some (.int .i64 (m.dst : Int)) := hk1.cell 2
  have a3 : w2.cell? ⟨w.heap.size, 3, none⟩ = some (.int .u64 (m.bal.n : Int)) := hk1.cell 3
  have a4 : w2.cell? ⟨w.heap.size, 4, none⟩ = some (.int .i64 m.bal.node) := hk1.cell 4
  have a5 : w2.cell? ⟨w.heap.size, 5, none⟩ = some (.slice A m.votes.length c) := hk1.cell 5
  have b0 : w2.cell? ⟨w.heap.size + 1, 0, none⟩ = some (.int .i64 (m.kind : Int)) := hk2.cell 0
  have b1 : w2.cell? ⟨w.heap.size + 1, 1, none⟩ = some (.int .i64 (m.frm : Int)) := hk2.cell 1
  have b2 : w2.cell? ⟨w.heap.size + 1, 2, none⟩ = some (.int .i64 (m.dst : Int)) := hk2.cell 2
  have b3 : w2.cell? ⟨w.heap.size + 1, 3, none⟩ = some (.int .u64 (m.bal.n : Int)) := hk2.cell 3
  have b4 : w2.cell? ⟨w.heap.size + 1, 4, none⟩ = some (.int .i64 m.bal.node) := hk2.cell 4
  have b5 : w2.cell? ⟨w.heap.size + 1, 5, none⟩ = some (.slice B m.votes.length d) := hk2.cell 5
  have HB := Lib.hid hb
  have HW1 := Lib.hid hw1
  have HW2 := Lib.hid hw2
  clear hA hB hw1 hw2 hb1 hb2 hs1 hk1 hk2 hb
  obtain ⟨L, hL⟩ : ∃ L, L = m.votes.length := ⟨_, rfl⟩
  go_enter Try.func27, Try.ntmps27
  go_upto_region 1 with (fail)
  rw [← HW1.out, ← HW2.out]
  go_wp2_with fail
  refine HS.out.mono ?_
  rintro e w3 ⟨rfl, hb3⟩
  go_wp2_with fail
  go_ret
  exact ⟨rfl, below_then HB.out hb3⟩
/-- Spoil of what is the call's own. -/
def SpoilR (w : World) (v : Value) (e : Ending) (w' : World) : Prop := e = .returned (.tuple #[]) ∧ Kp (fun k => v.ownBlock = some k) w w'
set_option maxRecDepth 100000 in
set_option maxHeartbeats 1000000 in
theorem spoil_own {w : World} {A : Option Addr} {n c base : Nat} {l : List UInt8} (ho : w.ownsRow base 5 1 (.slice A n c) n (u8s l)) (hn : n ≤ 1000000) : Calls Try.prog 26 #[.slice A n c] w (SpoilR w (.slice A n c)) := by
  rcases ho.2 with ⟨h', h0⟩ | ⟨gr, cap, cur, hv, _⟩
  · subst h0
    injection h' with e1 _ e2
    subst e1
    subst e2
    clear ho
    go_enter Try.func26, Try.ntmps26
    go_wp2_with fail
    go_loopg [2] 0 (fun gk i wr => i = .int .i64 0 ∧ w = wr)
    case atStart => exact ⟨rfl, rfl⟩
    case round =>
      obtain ⟨rfl, rfl⟩ := hrel
      go_wp2
      go_end0
      exact ⟨rfl, Kp.refl _ _⟩
  · injection hv with e1 _ e2
    subst e1
    subst e2
    refine (spoil_any gr n c base l w (by omega) ho).mono ?_
    rintro e w' ⟨rfl, h⟩
    exact ⟨rfl, Kp.of_grown h rfl⟩
end Go.Proofs.Ytjapmolmgfaocaa
