/- Of the proofs of layer 4, merged: SynL, SynKn. -/
import Derived.Test.YtjapmolmgfaocaaMSynB
import Derived.Lib.SlBytesConst

/- Layer 11's laws: a room of the call's own; the chapter's example. -/
namespace Go.Proofs.Ytjapmolmgfaocaa
open Go.RowKit Go.Maps

def kq11 : Qm := ⟨1, 3, 2, 2, []⟩
theorem kq11_right : kq11.right = 0 := by decide +kernel
theorem qi_kq11 (W : World) : Qi W kq11 none 0 0 := ⟨⟨by decide, by decide⟩, ⟨by decide, by decide⟩, ⟨by decide, by decide⟩, ⟨by decide, by decide⟩, by decide, RdI.nil _ _ _⟩
set_option maxRecDepth 100000 in
set_option maxHeartbeats 1000000 in
theorem three11_any (w : World) : Calls Try.prog 24 #[] w fun e w' => e = .returned (.agg #[.int .i64 1, .int .i64 3, .int .i64 2, .int .i64 2, .slice none 0 0]) ∧ Below w.heap.size w w' := by
  go_enter Try.func24, Try.ntmps24
  go_wp2
  have hk := Bk.new w 24 #[.int .i64 1, .int .i64 3, .int .i64 2, .int .i64 2, .slice none 0 0]
  have hb : Below w.heap.size w (w.alloc (.cells #[.int .i64 1, .int .i64 3, .int .i64 2, .int .i64 2, .slice none 0 0] 24)) := bel1P _
  generalize w.alloc (.cells #[.int .i64 1, .int .i64 3, .int .i64 2, .int .i64 2, .slice none 0 0] 24) = w1 at *
  have j0 : w1.cell? ⟨w.heap.size, 0, none⟩ = some (.int .i64 1) := hk.cell 0
  have j1 : w1.cell? ⟨w.heap.size, 1, none⟩ = some (.int .i64 3) := hk.cell 1
  have j2 : w1.cell? ⟨w.heap.size, 2, none⟩ = some (.int .i64 2) := hk.cell 2
  have j3 : w1.cell? ⟨w.heap.size, 3, none⟩ = some (.int .i64 2) := hk.cell 3
  have j4 : w1.cell? ⟨w.heap.size, 4, none⟩ = some (.slice none 0 0) := hk.cell 4
  refine bodyPost_ret (by simp [results, Try.results24, go_sem, j0, j1, j2, j3, j4]; try rfl) rfl ?_
  exact ⟨rfl, hb⟩
/-- The room at g is r, made since W. -/
structure OwR (W w : World) (col : Nat → Nat) (g N n : Nat) (r : Ro) : Prop where
  rm : RoM w col g N n r
  ge : ∀ k, col k ≠ 0 → W.heap.size ≤ k
  bel : Below W.heap.size W w
/-- Bytes that are none of the room's. -/
def Fr (w : World) (col : Nat → Nat) (A : Option Addr) (n : Nat) (l : List UInt8) : Prop := RdG w (fun k => col k = 0) A n l
section
variable {W w w' : World} {col col' : Nat → Nat} {g N n : Nat} {r r' : Ro}
theorem OwR.below (h : OwR W w col g N n r) (hb : Below w.heap.size w w') : OwR W w' col g N n r := ⟨h.rm.below hb, h.ge, below_then h.bel hb⟩
theorem OwR.step (h : OwR W w col g N n r) (hq : RoM w' col' g N n r') (hc : Cl col col' w w') : OwR W w' col' g N n r' :=
  ⟨hq, fun k hk => by
    have hs := h.bel.size
    by_cases hl : k < w.heap.size
    · rw [hc.old k hl] at hk
      exact h.ge k hk
    · omega, h.bel.trans (hc.kp0.below h.ge h.bel.size)⟩
theorem OwR.kp {G : Nat → Prop} (h : OwR W w col g N n r) (hk : Kp G w w') (hg : ∀ k, G k → W.heap.size ≤ k) (hd : ∀ k, col k ≠ 0 → ¬ G k) : OwR W w' col g N n r := ⟨h.rm.kp hk hd, h.ge, h.bel.trans (hk.below hg h.bel.size)⟩
theorem Fr.cl {A : Option Addr} {l : List UInt8} {m : Nat} (h : Fr w col A m l) (hc : Cl col col' w w') : Fr w' col' A m l :=
  ⟨h.1, fun hn => by
    obtain ⟨b, o, e, hg, hb, hj⟩ := h.2 hn
    exact ⟨b, o, e, (hc.old b hb).trans hg, Nat.lt_of_lt_of_le hb hc.kp.size, fun j hl => cell_kp (p := ⟨b, o + j, none⟩) (hj j hl) hc.kp (fun e => e.1 hg)⟩⟩
theorem Fr.below {A : Option Addr} {l : List UInt8} {m : Nat} (h : Fr w col A m l) (hb : Below w.heap.size w w') : Fr w' col A m l := RdG.below h hb
theorem Fr.rd {A : Option Addr} {l : List UInt8} {m : Nat} (h : Fr w col A m l) : Rd w w.heap.size A m l := RdG.rd h
/-- What was made just now. -/
theorem Fr.new {A : Option Addr} {c : Nat} {l : List UInt8} (hlt : ∀ k, col k ≠ 0 → k < w.heap.size) (ho : w'.ownsRow w.heap.size 5 1 (.slice A l.length c) l.length (u8s l)) : Fr w' col A l.length l :=
  ⟨rfl, fun hn => by
    obtain ⟨b, o, e, hb, hc⟩ := (Rd.of_own ho).2 hn
    refine ⟨b, o, e, ?_, hb, hc⟩
    rcases ho.2 with ⟨h', _⟩ | ⟨g', cap, cur, hv, hge, _⟩
    · injection h' with _ h2
      omega
    · injection hv with q1
      rw [e] at q1
      injection q1 with q1
      injection q1 with q1
      subst q1
      by_cases e0 : col b = 0
      · exact e0
      · have := hlt b e0
        omega⟩
theorem Fr.given {A : Option Addr} {l : List UInt8} {m B : Nat} (h : Rd w B A m l) (hB : ∀ k, col k ≠ 0 → B ≤ k) (hBw : B ≤ w.heap.size) : Fr w col A m l :=
  ⟨h.1, fun hn => by
    obtain ⟨b, o, e, hb, hc⟩ := h.2 hn
    refine ⟨b, o, e, ?_, by omega, hc⟩
    by_cases e0 : col b = 0
    · exact e0
    · have := hB b e0
      omega⟩
def RStep (W : World) (w : World) (col : Nat → Nat) (g N n : Nat) (r' : Ro) (w' : World) : Prop := ∃ col', OwR W w' col' g N n r' ∧ Cl col col' w w'
theorem OwR.take (h : OwR W w col g N n r) (a : Int) : Calls Try.prog 22 #[.pointer (some ⟨g, 0, none⟩), .int .i64 a] w fun e w' => e = .returned (.bool (r.take a).1) ∧ Hid (RStep W w col g N n (r.take a).2 w') := by
  refine (take_any h.rm a).mono ?_
  rintro e w' ⟨rfl, col', p1, p2⟩
  exact ⟨rfl, Lib.hid ⟨col', h.step p1 p2, p2⟩⟩
theorem OwR.drop (h : OwR W w col g N n r) (a : Int) : Calls Try.prog 20 #[.pointer (some ⟨g, 0, none⟩), .int .i64 a] w fun e w' => e = .returned (.bool (r.drop a).1) ∧ Hid (RStep W w col g N n (r.drop a).2 w') := by
  refine (drop_any h.rm a).mono ?_
  rintro e w' ⟨rfl, col', p1, p2⟩
  exact ⟨rfl, Lib.hid ⟨col', h.step p1 p2, p2⟩⟩
theorem OwR.twice (h : OwR W w col g N n r) (a : Int) : Calls Try.prog 28 #[.pointer (some ⟨g, 0, none⟩), .int .i64 a] w fun e w' => e = .returned (.bool (r.twice a).1) ∧ Hid (RStep W w col g N n (r.twice a).2 w') := by
  refine (twice_any h.rm a).mono ?_
  rintro e w' ⟨rfl, col', p1, p2⟩
  exact ⟨rfl, Lib.hid ⟨col', h.step p1 p2, p2⟩⟩
theorem OwR.crash (h : OwR W w col g N n r) (a : Int) : Calls Try.prog 29 #[.pointer (some ⟨g, 0, none⟩), .int .i64 a] w fun e w' => e = .returned (.int .i64 (r.crash a).1) ∧ Hid (RStep W w col g N n (r.crash a).2 w') := by
  refine (crash_any h.rm a).mono ?_
  rintro e w' ⟨rfl, col', p1, p2⟩
  exact ⟨rfl, Lib.hid ⟨col', h.step p1 p2, p2⟩⟩
theorem OwR.start (h : OwR W w col g N n r) (a : Int) (vA : Option Addr) (vn vc : Nat) (v : List UInt8) (hv : Fr w col vA vn v) : Calls Try.prog 21 #[.pointer (some ⟨g, 0, none⟩), .int .i64 a, .slice vA vn vc] w fun e w' => (∃ (bn : Nat) (bd : Int), e = .returned (.tuple #[.agg #[.int .u64 (bn : Int), .int .i64 bd], .int .i64 (r.start a v).1]) ∧ bn = (r.start a v).2.1.n ∧ bd = (r.start a v).2.1.node) ∧ Hid (RStep W w col g N n (r.start a v).2.2 w') := by
  refine (start_any h.rm a vA vn vc v hv).mono ?_
  rintro e w' ⟨rfl, col', p1, p2⟩
  exact ⟨⟨_, _, rfl, rfl, rfl⟩, Lib.hid ⟨col', h.step p1 p2, p2⟩⟩
theorem OwR.len (h : OwR W w col g N n r) : Calls Try.prog 19 #[.pointer (some ⟨g, 0, none⟩)] w fun e w' => e = .returned (.int .i64 (r.row.length : Int)) ∧ w = w' := by
  obtain ⟨A, sn, sc, R, rc, np, es, hc⟩ := h.rm
  exact rlen_any hc
theorem OwR.learned (h : OwR W w col g N n r) (a : Int) : Calls Try.prog 13 #[.pointer (some ⟨g, 0, none⟩), .int .i64 a] w fun e w' => ∃ A c, e = .returned (.tuple #[.slice A (r.learned a).1.length c, .bool (r.learned a).2]) ∧ Hid (Below w.heap.size w w' ∧ Fr w' col A (r.learned a).1.length (r.learned a).1 ∧ w'.ownsRow w.heap.size 5 1 (.slice A (r.learned a).1.length c) (r.learned a).1.length (u8s (r.learned a).1)) := by
  refine (learned_any h.rm a).mono ?_
  rintro e w' ⟨A, c, rfl, p1, p2⟩
  exact ⟨A, c, rfl, Lib.hid ⟨p2, Fr.new h.rm.lt p1, p1⟩⟩
theorem OwR.voted (h : OwR W w col g N n r) (a : Int) : Calls Try.prog 16 #[.pointer (some ⟨g, 0, none⟩), .int .i64 a] w fun e w' => ∃ A c, e = .returned (.tuple #[.agg #[.int .u64 ((r.voted a).1.n : Int), .int .i64 (r.voted a).1.node], .agg #[.int .u64 ((r.voted a).2.slot : Int), .int .u64 ((r.voted a).2.bal.n : Int), .int .i64 (r.voted a).2.bal.node, .slice A (r.voted a).2.val.length c]]) ∧ Hid (Below w.heap.size w w' ∧ Fr w' col A (r.voted a).2.val.length (r.voted a).2.val ∧ w'.ownsRow w.heap.size 5 1 (.slice A (r.voted a).2.val.length c) (r.voted a).2.val.length (u8s (r.voted a).2.val)) := by
  refine (voted_any h.rm a).mono ?_
  rintro e w' ⟨A, c, rfl, p1, p2⟩
  exact ⟨A, c, rfl, Lib.hid ⟨p2, Fr.new h.rm.lt p1, p1⟩⟩
end
/-- A new room. -/
def RNew (q : Qm) (W : World) (e : Ending) (w' : World) : Prop := ∃ g N col, e = .returned (.tuple #[.pointer (some ⟨g, 0, none⟩), .int .i64 0]) ∧ OwR W w' col g N q.n (Ro.new q)
theorem OwR.new (q : Qm) (A : Option Addr) (n c : Nat) (W w : World) (hb : Below W.heap.size W w) (hq : Qi w q A n c) (hr : q.right = 0) (hn : n ≤ 1000000) : Calls Try.prog 23 #[qV q (.slice A n c)] w (RNew q W) := by
  refine (new_ok hq hr hn).mono ?_
  rintro e w' ⟨g, N, col, rfl, p1, p2, p3⟩
  exact ⟨g, N, col, rfl, p1, fun k hk => Nat.le_trans hb.size (p2 k hk), below_then hb p3⟩

/-! ### the chapter's example -/
def kn0 : Ro := Ro.new kq11
def kn1 : Ro := (kn0.start 0 [120]).2.2
def kn : Nat → Ro
  | 0 => kn1
  | k + 1 => ((kn k).take 0).2
theorem kn_start : (kn0.start 0 [120]).1 = 0 ∧ (kn0.start 0 [120]).2.1.n = 1 ∧ kn1.row.length = 3 := by decide +kernel
theorem kn_len : ∀ k, k < 13 → (decide (0 < (kn k).row.length) = decide (k < 12)) := by decide +kernel
theorem kn_end : (kn 12).learned 0 = ([120], true) ∧ ((kn 12).learned 1).2 = false ∧ ((kn 12).voted 2).2.slot = 1 ∧ ((kn 12).voted 2).2.val = [120] := by decide +kernel
theorem kn_len1 : ((kn 12).learned 1).1.length = 0 := by decide +kernel
end Go.Proofs.Ytjapmolmgfaocaa

/- Layer 11's laws: the chapter's example, walked. -/
namespace Go.Proofs.Ytjapmolmgfaocaa
open Go.RowKit Go.Maps

theorem conv_bytesY (w : World) (C : Array Value) (n c g : Nat) (hg : g = w.heap.size) : (convert 31 31 (.slice (some ⟨g, 0, none⟩) n c)).run Try.prog (w.alloc (.cells C 5)) = .ok (.slice (some ⟨g, 0, none⟩) n c) (w.alloc (.cells C 5 (C.size, C.size + 1))) := by
  subst hg
  exact Lib.run_convert_bytes_const w 31 5 C n c Try.underlying31 Try.underlying5
theorem cell_markY (w : World) (v : Value) (t : TypeId) (fr : Nat × Nat) : (w.alloc (.cells #[v] t fr)).cell? ⟨w.heap.size, 0, none⟩ = some v := by rw [World.cell?_alloc_mark]; rfl
theorem fr_str {w : World} {col : Nat → Nat} {A : Option Addr} {c : Nat} {l : List UInt8} (h : Fr w col A l.length l) : (convert 31 9 (.slice A l.length c)).run Try.prog w = .ok (.string ⟨l.toArray⟩) w := h.rd.str Try.underlying31 Try.underlying5 Try.underlying9 c
set_option maxRecDepth 100000 in
set_option maxHeartbeats 8000000 in
theorem known11_any (w : World) : Calls Try.prog 11 #[] w fun e w' => e = .returned (.bool true) ∧ Below w.heap.size w w' := by
  have HT := Lib.hid (three11_any w)
  have HN := Lib.hid (fun W hb => OwR.new kq11 none 0 0 w W hb (qi_kq11 W) kq11_right (by decide))
  have hq : qV kq11 (.slice none 0 0) = .agg #[.int .i64 1, .int .i64 3, .int .i64 2, .int .i64 2, .slice none 0 0] := rfl
  rw [hq] at HN
  have HSt : Hid (∀ W col g N, OwR w W col g N kq11.n kn0 → ∀ gb, gb = W.heap.size → Calls Try.prog 21 #[.pointer (some ⟨g, 0, none⟩), .int .i64 0, .slice (some ⟨gb, 0, none⟩) 1 1] (W.alloc (.cells #[.int .u8 120] 5 (1, 2))) fun e w' => ∃ bd, e = .returned (.tuple #[.agg #[.int .u64 1, .int .i64 bd], .int .i64 0]) ∧ Hid (∃ col', OwR w w' col' g N kq11.n kn1)) := Lib.hid fun W col g N h gb hgb => by
    subst hgb
    have hb : Below W.heap.size W (W.alloc (.cells #[.int .u8 120] 5 (1, 2))) := bel1P _
    have hc : col W.heap.size = 0 := by
      by_cases e : col W.heap.size = 0
      · exact e
      · have := h.rm.lt _ e
        omega
    have hf : Fr (W.alloc (.cells #[.int .u8 120] 5 (1, 2))) col (some ⟨W.heap.size, 0, none⟩) 1 [120] := ⟨rfl, fun _ => ⟨W.heap.size, 0, rfl, hc, by simp, fun j hj => by
      have : j = 0 := by simp at hj; omega
      subst this
      exact cell_markY W _ _ _⟩⟩
    refine ((h.below hb).start 0 (some ⟨W.heap.size, 0, none⟩) 1 1 [120] hf).mono ?_
    rintro e w' ⟨⟨bn, bd, rfl, rfl, rfl⟩, hs⟩
    rw [show (kn0.start 0 [120]).1 = 0 from kn_start.1, show (kn0.start 0 [120]).2.1.n = 1 from kn_start.2.1]
    exact ⟨_, rfl, Lib.hid (by obtain ⟨col', p, _⟩ := hs.out; exact ⟨col', p⟩)⟩
  have HLn : Hid (∀ W col g N r, OwR w W col g N kq11.n r → Calls Try.prog 19 #[.pointer (some ⟨g, 0, none⟩)] W fun e w' => e = .returned (.int .i64 (r.row.length : Int)) ∧ W = w') := Lib.hid fun W col g N r h => h.len
  have HTk : Hid (∀ W col g N k, OwR w W col g N kq11.n (kn k) → Calls Try.prog 22 #[.pointer (some ⟨g, 0, none⟩), .int .i64 0] W fun e w' => (∃ b, e = .returned (.bool b)) ∧ Hid (∃ col', OwR w w' col' g N kq11.n (kn (k + 1)))) := Lib.hid fun W col g N k h => by
    refine (h.take 0).mono ?_
    rintro e w' ⟨rfl, hs⟩
    exact ⟨⟨_, rfl⟩, Lib.hid (by obtain ⟨col', p, _⟩ := hs.out; exact ⟨col', p⟩)⟩
  have HL0 : Hid (∀ W col g N, OwR w W col g N kq11.n (kn 12) → Calls Try.prog 13 #[.pointer (some ⟨g, 0, none⟩), .int .i64 0] W fun e w' => ∃ A c, e = .returned (.tuple #[.slice A 1 c, .bool true]) ∧ Hid (Below W.heap.size W w' ∧ Fr w' col A 1 [120])) := Lib.hid fun W col g N h => by
    refine (h.learned 0).mono ?_
    rintro e w' ⟨A, c, rfl, hs⟩
    rw [kn_end.1] at hs ⊢
    exact ⟨A, c, rfl, Lib.hid ⟨hs.out.1, hs.out.2.1⟩⟩
  have HL1 : Hid (∀ W col g N, OwR w W col g N kq11.n (kn 12) → Calls Try.prog 13 #[.pointer (some ⟨g, 0, none⟩), .int .i64 1] W fun e w' => ∃ A c, e = .returned (.tuple #[.slice A 0 c, .bool false]) ∧ Hid (Below W.heap.size W w')) := Lib.hid fun W col g N h => by
    refine (h.learned 1).mono ?_
    rintro e w' ⟨A, c, rfl, hs⟩
    rw [kn_end.2.1, kn_len1]
    exact ⟨A, c, rfl, Lib.hid hs.out.1⟩
  have HV : Hid (∀ W col g N, OwR w W col g N kq11.n (kn 12) → Calls Try.prog 16 #[.pointer (some ⟨g, 0, none⟩), .int .i64 2] W fun e w' => ∃ (pn : Nat) (pd : Int) (bn : Nat) (bd : Int) (A : Option Addr) (c : Nat), e = .returned (.tuple #[.agg #[.int .u64 (pn : Int), .int .i64 pd], .agg #[.int .u64 1, .int .u64 (bn : Int), .int .i64 bd, .slice A 1 c]]) ∧ Hid (Below W.heap.size W w' ∧ Fr w' col A 1 [120])) := Lib.hid fun W col g N h => by
    refine (h.voted 2).mono ?_
    rintro e w' ⟨A, c, rfl, hs⟩
    rw [kn_end.2.2.1, kn_end.2.2.2] at *
    exact ⟨_, _, _, _, A, c, rfl, Lib.hid ⟨hs.out.1, hs.out.2.1⟩⟩
  have kc := conv_bytesY
  clear hq
  go_enter Try.func11, Try.ntmps11
  go_wp2_with fail
  refine HT.out.mono ?_
  rintro e w1 ⟨rfl, hb1⟩
  have HB1 := Lib.hid hb1
  clear hb1
  go_wp2_with fail
  refine (HN.out w1 HB1.out).mono ?_
  rintro e w2 ⟨g, N, col, rfl, ho⟩
  have HS2 := Lib.hid (HSt.out w2 col g N ho w2.heap.size rfl)
  clear ho
  go_wp2_with fail
  refine HS2.out.mono ?_
  rintro e w3 ⟨bd, rfl, ho3⟩
  obtain ⟨w4, hw4⟩ : ∃ w4, w4 = w3.alloc (.cells #[.int .u64 1, .int .i64 bd] 44) := ⟨_, rfl⟩
  have hb4 : Below w3.heap.size w3 w4 := by rw [hw4]; exact bel1P _
  have hk4 : Bk w4 w3.heap.size 44 #[.int .u64 1, .int .i64 bd] := by rw [hw4]; exact Bk.new w3 _ _
  have y0 : w4.cell? ⟨w3.heap.size, 0, none⟩ = some (.int .u64 1) := hk4.cell 0
  obtain ⟨col4, ho4⟩ : ∃ col4, OwR w w4 col4 g N kq11.n kn1 := by obtain ⟨c, h⟩ := ho3.out; exact ⟨c, h.below hb4⟩
  have HLn4 := Lib.hid (HLn.out w4 col4 g N kn1 ho4)
  rw [kn_start.2.2] at HLn4
  have HO4 : Hid (∃ col', OwR w w4 col' g N kq11.n (kn 0)) := Lib.hid ⟨col4, ho4⟩
  have HW4 := Lib.hid hw4
  clear hw4 hb4 hk4 ho4 ho3 HS2
  go_upto_region 5 with (fail)
  rw [← HW4.out]
  go_wp2_with fail
  refine HLn4.out.mono ?_
  rintro e w5 ⟨rfl, rfl⟩
  clear y0 HLn4 HW4
  go_wp2_with fail
  go_loopg [5] 12 (fun gk i wr => ∃ k : Nat, i = .int .i64 (k : Int) ∧ k + gk = 12 ∧ Hid (∃ col', OwR w wr col' g N kq11.n (kn k)))
  case atStart => exact ⟨0, rfl, by omega, HO4⟩
  case round =>
    obtain ⟨k, rfl, hkg, HI⟩ := hrel
    obtain ⟨col', hR⟩ := HI.out
    have hlen := kn_len k (by omega)
    have HLn5 := Lib.hid (HLn.out wr col' g N (kn k) hR)
    have HTk5 := Lib.hid (HTk.out wr col' g N k hR)
    have hk60 : (k : Int) < 60 := by omega
    by_cases hk : k < 12
    · have hl : (0 : Int) < ((kn k).row.length : Int) := by
        rw [decide_eq_true hk] at hlen
        have := of_decide_eq_true hlen
        omega
      clear hlen hR HI
      go_wp2_with (go_at_call 19; refine HLn5.out.mono ?_; rintro e w6 ⟨rfl, rfl⟩)
      go_wp2_with fail
      refine HTk5.out.mono ?_
      rintro e w7 ⟨⟨b, rfl⟩, HO7⟩
      go_wp2
      go_roundg (gk - 1)
      case measure => omega
      case rel => exact ⟨k + 1, by go_num, by omega, HO7⟩
    · obtain rfl : k = 12 := by omega
      have hl : ¬ (0 : Int) < ((kn 12).row.length : Int) := by
        have h12 : decide (12 < 12) = false := by decide
        rw [h12] at hlen
        have := of_decide_eq_false hlen
        omega
      have HO : Hid (OwR w wr col' g N kq11.n (kn 12)) := Lib.hid hR
      have HL0' := Lib.hid (HL0.out wr col' g N hR)
      clear hlen hR HI HTk5
      go_wp2_with (go_at_call 19; refine HLn5.out.mono ?_; rintro e w6 ⟨rfl, rfl⟩)
      go_wp2_with fail
      refine HL0'.out.mono ?_
      rintro e w8 ⟨A8, c8, rfl, HF8⟩
      have HO8 := Lib.hid (HO.out.below HF8.out.1)
      have HL1' := Lib.hid (HL1.out w8 col' g N HO8.out)
      clear HO HL0' HLn5
      go_wp2_with fail
      refine HL1'.out.mono ?_
      rintro e w9 ⟨A9, c9, rfl, HB9⟩
      have HO9 := Lib.hid (HO8.out.below HB9.out)
      have HF9 := Lib.hid (HF8.out.2.below HB9.out)
      have HV' := Lib.hid (HV.out w9 col' g N HO9.out)
      clear HO8 HF8 HL1'
      go_wp2_with fail
      refine HV'.out.mono ?_
      rintro e wa ⟨pn, pd, bn, bd', Aa, ca, rfl, HFa⟩
      have HOa := Lib.hid (HO9.out.below HFa.out.1)
      have HF8a := Lib.hid (HF9.out.below HFa.out.1)
      obtain ⟨wb, hwb⟩ : ∃ wb, wb = wa.alloc (.cells #[.int .u64 (pn : Int), .int .i64 pd] 44) := ⟨_, rfl⟩
      obtain ⟨wd, hwd⟩ : ∃ wd, wd = wb.alloc (.cells #[.int .u64 1, .int .u64 (bn : Int), .int .i64 bd', .slice Aa 1 ca] 46) := ⟨_, rfl⟩
      have hbb : Below wa.heap.size wa wb := by rw [hwb]; exact bel1P _
      have hbd : Below wb.heap.size wb wd := by rw [hwd]; exact bel1P _
      have hbs : wb.heap.size = wa.heap.size + 1 := by rw [hwb]; simp
      have hkd : Bk wd (wa.heap.size + 1) 46 #[.int .u64 1, .int .u64 (bn : Int), .int .i64 bd', .slice Aa 1 ca] := by rw [hwd, ← hbs]; exact Bk.new wb _ _
      have hbad := below_then hbb hbd
      have s8 := fr_str (c := c8) (HF8a.out.below hbad)
      have sa := fr_str (c := ca) (HFa.out.2.below hbad)
      have v0 : wd.cell? ⟨wa.heap.size + 1, 0, none⟩ = some (.int .u64 1) := hkd.cell 0
      have v3 : wd.cell? ⟨wa.heap.size + 1, 3, none⟩ = some (.slice Aa 1 ca) := hkd.cell 3
      have HBd := Lib.hid ((HOa.out.below hbad).bel)
      have HWb := Lib.hid hwb
      have HWd := Lib.hid hwd
      have Hbs := hbs
      simp only [List.length_cons, List.length_nil] at s8 sa
      clear hwb hwd hbb hbd hbs hkd hbad HF8a HFa HOa HF9 HO9 HV'
      go_upto_region 14 with (fail)
      rw [← HWb.out, ← HWd.out]
      go_wp2
      go_ret
      exact ⟨rfl, HBd.out⟩
end Go.Proofs.Ytjapmolmgfaocaa
