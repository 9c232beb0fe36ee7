/- Of the proofs of layer 4, merged: SesD. -/
import Derived.Test.YtfghbhjljbdlmaaM1SesC

/- The program's segments of bytes: Parse. -/
namespace Go.Proofs.Ytfghbhjljbdlmaa
open Go.RowKit Go.Maps

set_option maxRecDepth 100000 in
set_option maxHeartbeats 1000000 in
theorem cSes_newR (A : Option Addr) (n c : Nat) (l : List UInt8) (w : World) (hn : n ≤ 140737488355328) (h : Rd w w.heap.size A n l) :
    Calls Try.prog 84 #[.slice A n c] w fun e w' => ∃ R A' c', e = .returned (.pointer (some ⟨R, 0, none⟩)) ∧ w.heap.size ≤ R ∧ BR w' R l 0 A' n c' ∧ Below w.heap.size w w' := by
  have Hc := Lib.hid (clone_any A n c w.heap.size l w hn (Nat.le_refl _) h)
  clear h
  go_enter Try.func84, Try.ntmps84
  go_wp2_with fail
  refine Hc.out.mono ?_
  rintro e w1 ⟨v, rfl, ho, hb⟩
  obtain ⟨As, cs, rfl, hcs, hcm⟩ := own_shape ho
  have Ho := Lib.hid ho
  have Hb := Lib.hid hb
  clear ho hb
  go_wp2
  go_ret
  have z := Hb.out.size
  have hb2 := below_then Hb.out ((Below.refl w1.heap.size w1).alloc (Nat.le_refl _) (.cells #[.slice As n cs, .int .i64 0] 173))
  have hcap : n ≤ cs ∧ cs ≤ 9223372036854775807 := ⟨hcs, by unfold maxLen at hcm; omega⟩
  exact ⟨w1.heap.size, As, cs, rfl, z, ⟨Bk.new w1 _ _, hcap, (Rd.of_own Ho.out).below ((Below.refl w1.heap.size w1).alloc (Nat.le_refl _) _)⟩, hb2⟩

theorem seg_not_u8 {a b : Nat} {k : Bool} {A : Option Addr} {n c : Nat} (i : Nat) (x : Int) : (#[Value.int .u64 (a : Int), .int .u64 (b : Int), .bool k, .slice A n c])[i]? ≠ some (.int .u8 x) := by
  match i with
  | 0 => simp
  | 1 => simp
  | 2 => simp
  | 3 => simp
  | i + 4 => simp
theorem Rd.off_seg {w : World} {B n g a b n' c' : Nat} {t : TypeId} {k : Bool} {A A' : Option Addr} {l : List UInt8} (h : Rd w B A n l) (hk : Bk w g t #[.int .u64 (a : Int), .int .u64 (b : Int), .bool k, .slice A' n' c']) (hn : 0 < n) : ∀ b' o, A = some ⟨b', o, none⟩ → b' ≠ g := by
  rintro b' o rfl rfl
  obtain ⟨b2, o2, e, _, hc⟩ := h.2 hn
  injection e with e
  injection e with e1 e2
  subst e1 e2
  have h0 := hc 0 (by rw [h.1]; exact hn)
  rw [Nat.add_zero, hk.cell o] at h0
  exact seg_not_u8 o _ h0
theorem Rd.grown7 {w w2 : World} {B n g : Nat} {A : Option Addr} {l : List UInt8} (h : Rd w B A n l) (hg : w.grownBy w2 (some g)) (hB : B ≤ w.heap.size) (hne : 0 < n → ∀ b o, A = some ⟨b, o, none⟩ → b ≠ g) : Rd w2 B A n l := by
  refine ⟨h.1, fun hn => ?_⟩
  obtain ⟨b, o, rfl, hb, hc⟩ := h.2 hn
  refine ⟨b, o, rfl, hb, fun j hj => ?_⟩
  rw [← hc j hj]
  have := hg.block b (Nat.lt_of_lt_of_le hb hB) (by intro e; injection e with e; exact hne hn b o rfl e)
  simp only [World.cell?, this]

theorem nextU_suf (l : List UInt8) (e : Nat) : (nextU l e).2.1.length ≤ l.length ∧ (nextU l e).2.1 = l.drop (l.length - (nextU l e).2.1.length) := by
  unfold nextU
  split
  · simp
  · split
    · simp
    · simp only [List.length_drop]
      refine ⟨by omega, ?_⟩
      by_cases h : (uintAt l 0).2.1.toNat ≤ l.length
      · congr 1; omega
      · rw [List.drop_eq_nil_of_le (by omega), List.drop_eq_nil_of_le (by omega)]

theorem Rd.tail7 {w : World} {B N c3 k : Nat} {A : Option Addr} {l : List UInt8} (h : Rd w B A N l) (hc : N ≤ c3) (hk : k ≤ N) : Rd w B (if c3 = k then A else Option.map (fun x => x.add k) A) (N - k) (l.drop k) := by
  refine ⟨by rw [List.length_drop, h.1], fun hn => ?_⟩
  rw [if_neg (by omega)]
  obtain ⟨b, o, rfl, hb, hcell⟩ := h.2 (by omega)
  refine ⟨b, o + k, by simp [Addr.add], hb, fun j hj => ?_⟩
  rw [List.length_drop] at hj
  have := hcell (k + j) (by omega)
  rw [List.getElem_drop]
  rwa [← Nat.add_assoc] at this

/-- What stands while bytes are read: the reader, the segment, the frame and its body. -/
structure Ps (w0 W : World) (gf R : Nat) (K : Int) (A3 : Option Addr) (N c3 : Nat) (body : List UInt8) (a b : Nat) (k : Bool) (Ax : Option Addr) (nx cx : Nat) (rem : List UInt8) (err : Nat) : Prop where
  bel : Below w0.heap.size w0 W
  res : Bk W w0.heap.size 60 #[.int .u64 0, .int .u64 0, .bool false, .slice none 0 0]
  fr : Bk W gf 132 #[.int .u8 K, .slice A3 N c3]
  sg : Bk W (gf + 1) 60 #[.int .u64 (a : Int), .int .u64 (b : Int), .bool k, .slice Ax nx cx]
  rd : ∃ A n c, BR W R rem err A n c
  bd : Rd W gf A3 N body
  lt : w0.heap.size < gf
  gt : gf + 1 < R
section
variable {w0 W W' : World} {gf R : Nat} {K : Int} {A3 : Option Addr} {N c3 : Nat} {body : List UInt8} {a b : Nat} {k : Bool} {Ax : Option Addr} {nx cx : Nat} {rem : List UInt8} {err : Nat}
theorem Ps.uint (h : Ps w0 W gf R K A3 N c3 body a b k Ax nx cx rem err) {rem' : List UInt8} {err' : Nat} (hg : W.grownBy W' (some R)) (hr : ∃ A n c, BR W' R rem' err' A n c) : Ps w0 W' gf R K A3 N c3 body a b k Ax nx cx rem' err' := by
  have z := h.sg.lt
  have h1 := h.lt
  have h2 := h.gt
  have hb : Below (gf + 1) W W' := below_of_grown hg (by omega) (by omega)
  refine ⟨h.bel.trans (hb.mono (by omega)), h.res.grown hg ?_, h.fr.grown hg ?_, h.sg.grown hg ?_, hr, h.bd.below (hb.mono (by omega)), h1, h2⟩
  all_goals (intro e; injection e with e; omega)
theorem Ps.set_ (h : Ps w0 W gf R K A3 N c3 body a b k Ax nx cx rem err) (i : Nat) (u : Value) {a' b' : Nat} {Ay : Option Addr} {ny cy : Nat} (hu : (#[Value.int .u64 (a : Int), .int .u64 (b : Int), .bool k, .slice Ax nx cx]).setIfInBounds i u = #[.int .u64 (a' : Int), .int .u64 (b' : Int), .bool k, .slice Ay ny cy]) : Ps w0 (W.setCell ⟨gf + 1, i, none⟩ u) gf R K A3 N c3 body a' b' k Ay ny cy rem err := by
  have z := h.sg.lt
  have h1 := h.lt
  have h2 := h.gt
  have hg := grown_set W (gf + 1) i u
  have hb : Below (gf + 1) W (W.setCell ⟨gf + 1, i, none⟩ u) := below_of_grown hg (by omega) (by omega)
  obtain ⟨A, n, c, hr⟩ := h.rd
  refine ⟨h.bel.trans (hb.mono (by omega)), h.res.grown hg ?_, h.fr.grown hg ?_, ?_, ⟨A, n, c, ⟨hr.blk.grown hg ?_, hr.cap, hr.rd.grown7 hg (Nat.le_of_lt hr.blk.lt) fun hn => hr.rd.off_seg h.sg hn⟩⟩, h.bd.below (hb.mono (by omega)), h1, h2⟩
  · intro e; injection e with e; omega
  · intro e; injection e with e; omega
  · have := h.sg.set_ i u
    rwa [hu] at this
  · intro e; injection e with e; omega
theorem Ps.drew (h : Ps w0 W gf R K A3 N c3 body a b k Ax nx cx rem err) (q : Nat) : Ps w0 (W.drewN q) gf R K A3 N c3 body a b k Ax nx cx rem err := by
  obtain ⟨A, n, c, hr⟩ := h.rd
  exact ⟨bel_drewN h.bel q, h.res, h.fr, h.sg, ⟨A, n, c, ⟨hr.blk, hr.cap, hr.rd⟩⟩, h.bd, h.lt, h.gt⟩
theorem Ps.up (h : Ps w0 W gf R K A3 N c3 body a b k Ax nx cx rem err) (hb : Below W.heap.size W W') : Ps w0 W' gf R K A3 N c3 body a b k Ax nx cx rem err := by
  have z := h.sg.lt
  have h1 := h.lt
  have h2 := h.gt
  have hz := h.bel.size
  obtain ⟨A, n, c, hr⟩ := h.rd
  exact ⟨h.bel.trans (hb.mono hz), h.res.below hb (by omega), h.fr.below hb (by omega), h.sg.below hb (by omega), ⟨A, n, c, hr.below hb hr.blk.lt⟩, h.bd.below (hb.mono (by omega)), h1, h2⟩
end

set_option maxRecDepth 100000 in
set_option maxHeartbeats 1000000 in
theorem sparse_ok (A : Option Addr) (n c : Nat) (l : List UInt8) (f : Fr) (w : World) (hc : n ≤ c) (hn : n ≤ 140737488355328) (hm : c ≤ 9223372036854775807) (h : Rd w w.heap.size A n l) (hg : getF l = .ok (f, l.length)) (hkd : f.1 = 3 ∨ f.1 = 4) :
    Calls Try.prog 38 #[.slice A n c] w fun e w' => ∃ A' n' c', e = .returned (.tuple #[sgV (parseS l).1 (.slice A' n' c'), .int .i64 ((parseS l).2 : Int)]) ∧ n' ≤ c' ∧ c' ≤ 9223372036854775807 ∧ Rd w' w'.heap.size A' n' (parseS l).1.body ∧ (0 < n' → ∀ b o, A' = some ⟨b, o, none⟩ → w.heap.size < b) ∧ Below w.heap.size w w' := by
  have hl := h.1
  obtain ⟨_, _, hfl, hmx⟩ := getF_le hg
  obtain ⟨N, hN⟩ : ∃ N, N = f.2.length := ⟨_, rfl⟩
  have hN1 : N ≤ 1024 := by omega
  obtain ⟨K, hK⟩ : ∃ K : Int, K = ((f.1.toNat : Nat) : Int) := ⟨_, rfl⟩
  have HG : Hid (∀ W, Below w.heap.size w W → Calls Try.prog 83 #[.slice A n c, .int .i64 0] W fun e w' => ∃ A3 c3, e = .returned (.tuple #[.agg #[.int .u8 K, .slice A3 N c3], .int .i64 n, .int .i64 0]) ∧ N ≤ c3 ∧ c3 ≤ 9223372036854775807 ∧ Rd w' w'.heap.size A3 N f.2 ∧ (∀ b o, A3 = some ⟨b, o, none⟩ → W.heap.size ≤ b) ∧ Below W.heap.size W w') := by
    refine Lib.hid fun W hb => ?_
    have hga : getA l 0 = (f.1, f.2, (n : Int), 0) := by
      unfold getA
      rw [if_neg (by omega)]
      simp only [Int.toNat_zero, List.drop_zero, hg]
      rw [hl]; simp
    have := frameGet_any A n c 0 l W hc hn hm (h.up hb)
    rw [hga] at this
    refine this.mono ?_
    rintro e w' ⟨v, rfl, ho, hb'⟩
    obtain ⟨A3, c3, rfl, h1, h2⟩ := own_shape ho
    simp only at ho
    rw [hN, hK]
    refine ⟨A3, c3, rfl, h1, by unfold maxLen at h2; omega, Rd.of_own ho, ?_, hb'⟩
    intro b o hA
    rcases ho.2 with ⟨hv, _⟩ | ⟨g, cap, cur, hv, hge, _⟩
    · injection hv with hv _ _; rw [hv] at hA; cases hA
    · injection hv with hv _ _
      rw [hv] at hA
      injection hA with hA
      injection hA with h1 _ _
      omega
  obtain ⟨W0, hW0⟩ : ∃ W, W = w.alloc (.cells #[.int .u64 0, .int .u64 0, .bool false, .slice none 0 0] 60) := ⟨_, rfl⟩
  have hb0 : Below w.heap.size w W0 := by rw [hW0]; exact (Below.refl _ _).alloc (Nat.le_refl _) _
  have hk0 : Bk W0 w.heap.size 60 #[.int .u64 0, .int .u64 0, .bool false, .slice none 0 0] := by rw [hW0]; exact Bk.new w 60 _
  have HU : Hid (∀ W R Ar nr cr rem err, BR W R rem err Ar nr cr → Calls Try.prog 85 #[.pointer (some ⟨R, 0, none⟩)] W fun e w' => e = .returned (.int .u64 ((nextU rem err).1 : Int)) ∧ (∃ A' n' c', BR w' R (nextU rem err).2.1 (nextU rem err).2.2 A' n' c') ∧ W.grownBy w' (some R)) :=
    Lib.hid fun W R Ar nr cr rem err h => uint_meth R Ar nr cr err rem W h
  have HN : Hid (∀ W A3 c3, Rd W W.heap.size A3 N f.2 → Calls Try.prog 84 #[.slice A3 N c3] W fun e w' => ∃ R A' c', e = .returned (.pointer (some ⟨R, 0, none⟩)) ∧ W.heap.size ≤ R ∧ BR w' R f.2 0 A' N c' ∧ Below W.heap.size W w') :=
    Lib.hid fun W A3 c3 h => cSes_newR A3 N c3 f.2 W (by omega) h
  obtain ⟨u1, rem1, er1, hn1⟩ : ∃ a r e, nextU f.2 0 = (a, r, e) := ⟨_, _, _, rfl⟩
  obtain ⟨u2, rem2, er2, hn2⟩ : ∃ a r e, nextU rem1 er1 = (a, r, e) := ⟨_, _, _, rfl⟩
  have Hn1 := Lib.hid hn1
  have Hn2 := Lib.hid hn2
  have hsuf := nextU_suf f.2 0
  rw [hn1] at hsuf
  have hsuf2 := nextU_suf rem1 er1
  rw [hn2] at hsuf2
  dsimp only at hsuf hsuf2
  obtain ⟨m, hm2⟩ : ∃ m, m = rem2.length := ⟨_, rfl⟩
  have hmN : m ≤ N := by omega
  have Hm := Lib.hid hm2
  have Hrem : Hid (rem2 = f.2.drop (N - m)) := by
    refine Lib.hid ?_
    have e1 : rem2 = (f.2.drop (f.2.length - rem1.length)).drop (rem1.length - rem2.length) := by rw [← hsuf.2]; exact hsuf2.2
    rw [List.drop_drop] at e1
    have e2 : N - m = f.2.length - rem1.length + (rem1.length - rem2.length) := by have := hsuf.1; have := hsuf2.1; omega
    rw [e2]
    exact e1
  have HP : Hid (parseS l = if er2 ≠ 0 ∨ Sg.right ⟨u1, u2, f.1 == 4, rem2⟩ = false then (Sg.zero, 11) else (⟨u1, u2, f.1 == 4, rem2⟩, 0)) := by
    refine Lib.hid ?_
    unfold parseS
    rw [hg]
    dsimp only
    rw [hn1]
    dsimp only
    rw [hn2]
    dsimp only
    rw [if_neg]
    rintro (h | ⟨h1, h2⟩)
    · omega
    · rcases hkd with h | h
      · exact h1 h
      · exact h2 h
  have HW0 := Lib.hid hW0
  have Hb0 := Lib.hid hb0
  have Hk0 := Lib.hid hk0
  generalize parseS l = P at *
  clear h hg hfl hN hW0 hb0 hk0 hn1 hn2 hsuf hsuf2 hm2
  rcases hkd with hkd | hkd
  · have hK3 : K = 3 := by rw [hK, hkd]; rfl
    have HKB : Hid ((f.1 == 4) = false) := by rw [hkd]; exact Lib.hid rfl
    rw [HKB.out] at HP
    clear hK
    subst hK3
    go_enter Try.func38, Try.ntmps38
    go_wp2_with fail
    rw [← HW0.out]
    refine (HG.out W0 Hb0.out).mono ?_
    rintro e w1 ⟨A3, c3, rfl, a1, a2, a3, a4, hb1⟩
    go_wp2_with fail
    obtain ⟨W2, hW2⟩ : ∃ W, W = (w1.alloc (.cells #[.int .u8 3, .slice A3 N c3] 132)).alloc (.cells #[.int .u64 0, .int .u64 0, .bool false, .slice none 0 0] 60) := ⟨_, rfl⟩
    rw [← hW2]
    have hb2 : Below w1.heap.size w1 W2 := by rw [hW2]; exact ((Below.refl _ _).alloc (Nat.le_refl _) _).alloc (by simp) _
    have z2 : W2.heap.size = w1.heap.size + 2 := by rw [hW2]; simp
    have z1 := hb1.size
    have z0 := Hk0.out.lt
    refine (HN.out W2 A3 c3 (a3.up hb2)).mono ?_
    rintro e w3 ⟨R, A4, c4, rfl, hR, hbr, hb3⟩
    have Hps : Hid (Ps w w3 w1.heap.size R 3 A3 N c3 f.2 0 0 false none 0 0 f.2 0) := by
      have q2 := hb2.trans (hb3.mono (by omega))
      have f2 : Bk W2 w1.heap.size 132 #[.int .u8 3, .slice A3 N c3] := by rw [hW2]; exact (Bk.new w1 _ _).below ((Below.refl _ _).alloc (Nat.le_refl _) _) (by simp)
      have s2 : Bk W2 (w1.heap.size + 1) 60 #[.int .u64 0, .int .u64 0, .bool false, .slice none 0 0] := by
        rw [hW2]
        have := Bk.new (w1.alloc (.cells #[.int .u8 3, .slice A3 N c3] 132)) 60 #[.int .u64 0, .int .u64 0, .bool false, .slice none 0 0]
        have e : (w1.alloc (.cells #[.int .u8 3, .slice A3 N c3] 132)).heap.size = w1.heap.size + 1 := by simp
        rw [e] at this
        exact this
      exact Lib.hid ⟨(below_then Hb0.out hb1).trans (q2.mono (by omega)), (Hk0.out.below hb1 z0).below q2 (by omega), f2.below hb3 (by omega), s2.below hb3 (by omega), ⟨_, _, _, hbr⟩, a3.below q2, by omega, by omega⟩
    clear hb2 hb1 a3 hbr hb3 hR z0 z1 hW2 z2
    generalize w1.heap.size = gf at *
    go_wp2_with fail
    obtain ⟨Ar, nr, cr, hr⟩ := Hps.out.rd
    have HU1 := HU.out w3 R Ar nr cr f.2 0 hr
    rw [Hn1.out] at HU1
    dsimp only at HU1
    refine HU1.mono ?_
    rintro e w4 ⟨rfl, hx, hg⟩
    have Hp4 := Lib.hid (Hps.out.uint hg hx)
    have c0 : w4.cell? ⟨gf + 1, 0, none⟩ = some (.int .u64 0) := Hp4.out.sg.cell 0
    have z0 : w4.frozen? ⟨gf + 1, 0, none⟩ = false := Hp4.out.sg.frozen 0
    clear hr hx hg HU1 Hps
    go_wp2_with fail
    have Hp5 := Lib.hid (Hp4.out.set_ 0 (.int .u64 (u1 : Int)) (a' := u1) (b' := 0) (Ay := none) (ny := 0) (cy := 0) (by simp))
    clear Hp4 c0 z0
    generalize w4.setCell ⟨gf + 1, 0, none⟩ (.int .u64 (u1 : Int)) = w5 at *
    obtain ⟨Ar, nr, cr, hr⟩ := Hp5.out.rd
    have HU1 := HU.out w5 R Ar nr cr rem1 er1 hr
    rw [Hn2.out] at HU1
    dsimp only at HU1
    refine HU1.mono ?_
    rintro e w6 ⟨rfl, hx, hg⟩
    have Hp6 := Lib.hid (Hp5.out.uint hg hx)
    have c0 : w6.cell? ⟨gf + 1, 1, none⟩ = some (.int .u64 0) := Hp6.out.sg.cell 1
    have z0 : w6.frozen? ⟨gf + 1, 1, none⟩ = false := Hp6.out.sg.frozen 1
    clear hr hx hg HU1 Hp5
    go_wp2_with fail
    have Hp7 := Lib.hid (Hp6.out.set_ 1 (.int .u64 (u2 : Int)) (a' := u1) (b' := u2) (Ay := none) (ny := 0) (cy := 0) (by simp))
    clear Hp6 c0 z0
    generalize w6.setCell ⟨gf + 1, 1, none⟩ (.int .u64 (u2 : Int)) = w7 at *
    have c1 : w7.cell? ⟨gf, 1, none⟩ = some (.slice A3 N c3) := Hp7.out.fr.cell 1
    have c3' : w7.cell? ⟨gf + 1, 3, none⟩ = some (.slice none 0 0) := Hp7.out.sg.cell 3
    have z3 : w7.frozen? ⟨gf + 1, 3, none⟩ = false := Hp7.out.sg.frozen 3
    obtain ⟨k, hk⟩ : ∃ k, k = N - m := ⟨_, rfl⟩
    have hsub : IntKind.i64.wrap ((N : Int) - (m : Int)) = (k : Int) := by
      have : (N : Int) - (m : Int) = ((k : Nat) : Int) := by omega
      rw [this, IntKind.wrap_i64]; omega
    have hk1 : k ≤ N := by omega
    have Hk := Lib.hid hk
    have HL : Hid (∀ W, W.heap = w7.heap → Calls Try.prog 86 #[.pointer (some ⟨R, 0, none⟩)] W fun e w' => e = .returned (.int .i64 (m : Int)) ∧ W = w') := by
      refine Lib.hid fun W hW => ?_
      obtain ⟨A, nn, cc, hr⟩ := Hp7.out.rd
      have hb : Bk W R 173 #[.slice A nn cc, .int .i64 er2] := by unfold Bk; rw [hW]; exact hr.blk
      have := left_any R A nn cc _ W hb
      rw [← hr.rd.1, ← Hm.out] at this
      exact this
    have HLd := Lib.hid (HL.out w7.drew rfl)
    clear hk
    go_region_held3 (fun w' => w'.cell? ⟨gf, 1, none⟩ = some (.slice A3 N c3)) (first | exact c1 | go_keep)
      (first
        | (go_at_call 86; (with_reducible refine HLd.out.mono ?_); rintro e w8 ⟨rfl, rfl⟩))
    have hax : ∃ Ax nx cx, Ax = (if c3 = k then A3 else Option.map (fun x => x.add k) A3) ∧ nx = N - k ∧ cx = c3 - k := ⟨_, _, _, rfl, rfl, rfl⟩
    obtain ⟨Ax, nx, cx, hAx, hnx, hcx⟩ := hax
    rw [← hAx, ← hnx, ← hcx]
    have hfk : f.2.drop k = rem2 := by rw [Hk.out]; exact Hrem.out.symm
    have HR2 : Hid (Rd w7 gf Ax nx rem2) := by
      refine Lib.hid ?_
      rw [← hfk, hAx, hnx]
      exact Hp7.out.bd.tail7 a1 hk1
    have HA2 : Hid (0 < nx → ∀ b o, Ax = some ⟨b, o, none⟩ → w.heap.size < b) := by
      refine Lib.hid fun hpos b o e => ?_
      have q0 := Hk0.out.lt
      obtain ⟨b3, o3, hA3, _, _⟩ := Hp7.out.bd.2 (by omega)
      have hq : Option.map (fun x => x.add k) (some (⟨b3, o3, none⟩ : Addr)) = some ⟨b3, o3 + k, none⟩ := by simp [Addr.add]
      rw [hAx, if_neg (by omega), hA3, hq] at e
      injection e with e
      injection e with e1 _ _
      exact Nat.lt_of_lt_of_le q0 (by rw [← e1]; exact a4 b3 o3 hA3)
    have hcap : nx ≤ cx ∧ cx ≤ 9223372036854775807 := by omega
    have Hcap := Lib.hid hcap
    have Hp9 := Lib.hid (Hp7.out.set_ 3 (.slice Ax nx cx) (a' := u1) (b' := u2) (Ay := Ax) (ny := nx) (cy := cx) (by simp))
    have HR3 : Hid (Rd (w7.setCell ⟨gf + 1, 3, none⟩ (.slice Ax nx cx)) gf Ax nx rem2) := Lib.hid (HR2.out.below (below_of_grown (g := gf + 1) (grown_set _ _ _ _) (Nat.le_of_lt Hp7.out.fr.lt) (by omega)) )
    have Hp10 := Lib.hid (Hp9.out.drew 1)
    have HR4 : Hid (Rd (w7.setCell ⟨gf + 1, 3, none⟩ (.slice Ax nx cx)).drew gf Ax nx rem2) := Lib.hid (HR3.out.drewN 1)
    have hw9 : ∃ W, W = (w7.setCell ⟨gf + 1, 3, none⟩ (.slice Ax nx cx)).drew := ⟨_, rfl⟩
    obtain ⟨w9, hw9⟩ := hw9
    have Hp : Hid (Ps w w9 gf R 3 A3 N c3 f.2 u1 u2 false Ax nx cx rem2 er2) := by rw [hw9]; exact Hp10
    rw [← hw9] at HR4
    rw [← hw9]
    clear Hp9 HR3 Hp10 HLd HL c1 c3' z3 Hp7 HR2 hAx hnx hcx hw9 hsub hk1 Hk hcap hfk
    have HE : Hid (Calls Try.prog 87 #[.pointer (some ⟨R, 0, none⟩)] w9 fun e w' => e = .returned (.int .i64 (er2 : Int)) ∧ w9 = w') := by
      obtain ⟨A, nn, cc, hr⟩ := Hp.out.rd
      exact Lib.hid (err_any R _ er2 w9 hr.blk)
    have HRt : Hid (Calls Try.prog 76 #[.agg #[.int .u64 (u1 : Int), .int .u64 (u2 : Int), .bool false, .slice Ax nx cx]] w9 fun e w' => e = .returned (.bool (Sg.right ⟨u1, u2, false, rem2⟩)) ∧ Below w9.heap.size w9 w') :=
      Lib.hid (right_any ⟨u1, u2, false, rem2⟩ Ax nx cx w9 HR4.out.1)
    have Hend : Hid (∀ W1 v0 v1 v2 v3, Ps w W1 gf R 3 A3 N c3 f.2 u1 u2 false Ax nx cx rem2 er2 → w9.heap.size ≤ W1.heap.size → Bk ((((W1.setCell ⟨w.heap.size, 0, none⟩ v0).setCell ⟨w.heap.size, 1, none⟩ v1).setCell ⟨w.heap.size, 2, none⟩ v2).setCell ⟨w.heap.size, 3, none⟩ v3) w.heap.size 60 #[v0, v1, v2, v3] ∧ W1.grownBy ((((W1.setCell ⟨w.heap.size, 0, none⟩ v0).setCell ⟨w.heap.size, 1, none⟩ v1).setCell ⟨w.heap.size, 2, none⟩ v2).setCell ⟨w.heap.size, 3, none⟩ v3) (some w.heap.size)) :=
      Lib.hid fun W1 v0 v1 v2 v3 h _ => ⟨by have := (((h.res.set_ 0 v0).set_ 1 v1).set_ 2 v2).set_ 3 v3; simpa using this, grown_trans (grown_trans (grown_trans (grown_set _ _ _ _) (grown_set _ _ _ _)) (grown_set _ _ _ _)) (grown_set _ _ _ _)⟩
    by_cases he : er2 = 0
    · cases hrt : Sg.right ⟨u1, u2, false, rem2⟩ with
      | false =>
        have hP : P = (Sg.zero, 11) := by rw [HP.out, if_pos (.inr hrt)]
        have g0 : w9.cell? ⟨gf + 1, 0, none⟩ = some (.int .u64 (u1 : Int)) := Hp.out.sg.cell 0
        have g1 : w9.cell? ⟨gf + 1, 1, none⟩ = some (.int .u64 (u2 : Int)) := Hp.out.sg.cell 1
        have g2 : w9.cell? ⟨gf + 1, 2, none⟩ = some (.bool false) := Hp.out.sg.cell 2
        have g3 : w9.cell? ⟨gf + 1, 3, none⟩ = some (.slice Ax nx cx) := Hp.out.sg.cell 3
        rw [hrt] at HRt
        have HP2 := Lib.hid hP
        have HEz : Hid (Calls Try.prog 87 #[.pointer (some ⟨R, 0, none⟩)] w9 fun e w' => e = .returned (.int .i64 0) ∧ w9 = w') := by rw [he] at HE; exact HE
        clear he HE hP hrt
        go_wp2_with fail
        refine HEz.out.mono ?_
        rintro e w' ⟨rfl, rfl⟩
        go_wp2_with fail
        refine HRt.out.mono ?_
        rintro e w10 ⟨rfl, hb10⟩
        have Hp10 := Lib.hid (Hp.out.up hb10)
        have Hz10 := Lib.hid hb10.size
        have f0 : w10.cell? ⟨w.heap.size, 0, none⟩ = some (.int .u64 0) := Hp10.out.res.cell 0
        have f1 : w10.cell? ⟨w.heap.size, 1, none⟩ = some (.int .u64 0) := Hp10.out.res.cell 1
        have f2 : w10.cell? ⟨w.heap.size, 2, none⟩ = some (.bool false) := Hp10.out.res.cell 2
        have f3 : w10.cell? ⟨w.heap.size, 3, none⟩ = some (.slice none 0 0) := Hp10.out.res.cell 3
        have z0 : w10.frozen? ⟨w.heap.size, 0, none⟩ = false := Hp10.out.res.frozen 0
        have z1 : w10.frozen? ⟨w.heap.size, 1, none⟩ = false := Hp10.out.res.frozen 1
        have z2 : w10.frozen? ⟨w.heap.size, 2, none⟩ = false := Hp10.out.res.frozen 2
        have z3 : w10.frozen? ⟨w.heap.size, 3, none⟩ = false := Hp10.out.res.frozen 3
        clear hb10 g0 g1 g2 g3
        go_wp2
        obtain ⟨hk4, hgr⟩ := Hend.out w10 (.int .u64 0) (.int .u64 0) (.bool false) (.slice none 0 0) Hp10.out Hz10.out
        generalize (((w10.setCell ⟨w.heap.size, 0, none⟩ (.int .u64 0)).setCell ⟨w.heap.size, 1, none⟩ (.int .u64 0)).setCell ⟨w.heap.size, 2, none⟩ (.bool false)).setCell ⟨w.heap.size, 3, none⟩ (.slice none 0 0) = w11 at *
        have j0 : w11.cell? ⟨w.heap.size, 0, none⟩ = some (.int .u64 0) := hk4.cell 0
        have j1 : w11.cell? ⟨w.heap.size, 1, none⟩ = some (.int .u64 0) := hk4.cell 1
        have j2 : w11.cell? ⟨w.heap.size, 2, none⟩ = some (.bool false) := hk4.cell 2
        have j3 : w11.cell? ⟨w.heap.size, 3, none⟩ = some (.slice none 0 0) := hk4.cell 3
        refine bodyPost_ret (by simp [results, Try.results38, go_sem, j0, j1, j2, j3]; try rfl) rfl ?_
        rw [HP2.out]
        exact ⟨none, 0, 0, rfl, Nat.le_refl _, by omega, Rd.nil _ _ _, fun h => absurd h (by omega), Hp10.out.bel.trans (below_of_grown hgr Hp10.out.bel.size (Nat.le_refl _))⟩
      | true =>
        have hP : P = (⟨u1, u2, false, rem2⟩, 0) := by
          rw [HP.out, if_neg]
          rintro (h | h)
          · exact h he
          · rw [hrt] at h; cases h
        have g0 : w9.cell? ⟨gf + 1, 0, none⟩ = some (.int .u64 (u1 : Int)) := Hp.out.sg.cell 0
        have g1 : w9.cell? ⟨gf + 1, 1, none⟩ = some (.int .u64 (u2 : Int)) := Hp.out.sg.cell 1
        have g2 : w9.cell? ⟨gf + 1, 2, none⟩ = some (.bool false) := Hp.out.sg.cell 2
        have g3 : w9.cell? ⟨gf + 1, 3, none⟩ = some (.slice Ax nx cx) := Hp.out.sg.cell 3
        rw [hrt] at HRt
        have HP2 := Lib.hid hP
        have HEz : Hid (Calls Try.prog 87 #[.pointer (some ⟨R, 0, none⟩)] w9 fun e w' => e = .returned (.int .i64 0) ∧ w9 = w') := by rw [he] at HE; exact HE
        clear he HE hP hrt
        go_wp2_with fail
        refine HEz.out.mono ?_
        rintro e w' ⟨rfl, rfl⟩
        go_wp2_with fail
        refine HRt.out.mono ?_
        rintro e w10 ⟨rfl, hb10⟩
        have Hp10 := Lib.hid (Hp.out.up hb10)
        have Hz10 := Lib.hid hb10.size
        have HR5 := Lib.hid (HR4.out.below (hb10.mono (Nat.le_of_lt Hp.out.fr.lt)))
        replace g0 : w10.cell? ⟨gf + 1, 0, none⟩ = some (.int .u64 (u1 : Int)) := Hp10.out.sg.cell 0
        replace g1 : w10.cell? ⟨gf + 1, 1, none⟩ = some (.int .u64 (u2 : Int)) := Hp10.out.sg.cell 1
        replace g2 : w10.cell? ⟨gf + 1, 2, none⟩ = some (.bool false) := Hp10.out.sg.cell 2
        replace g3 : w10.cell? ⟨gf + 1, 3, none⟩ = some (.slice Ax nx cx) := Hp10.out.sg.cell 3
        have f0 : w10.cell? ⟨w.heap.size, 0, none⟩ = some (.int .u64 0) := Hp10.out.res.cell 0
        have f1 : w10.cell? ⟨w.heap.size, 1, none⟩ = some (.int .u64 0) := Hp10.out.res.cell 1
        have f2 : w10.cell? ⟨w.heap.size, 2, none⟩ = some (.bool false) := Hp10.out.res.cell 2
        have f3 : w10.cell? ⟨w.heap.size, 3, none⟩ = some (.slice none 0 0) := Hp10.out.res.cell 3
        have z0 : w10.frozen? ⟨w.heap.size, 0, none⟩ = false := Hp10.out.res.frozen 0
        have z1 : w10.frozen? ⟨w.heap.size, 1, none⟩ = false := Hp10.out.res.frozen 1
        have z2 : w10.frozen? ⟨w.heap.size, 2, none⟩ = false := Hp10.out.res.frozen 2
        have z3 : w10.frozen? ⟨w.heap.size, 3, none⟩ = false := Hp10.out.res.frozen 3
        clear hb10
        go_wp2
        obtain ⟨hk4, hgr⟩ := Hend.out w10 (.int .u64 (u1 : Int)) (.int .u64 (u2 : Int)) (.bool false) (.slice Ax nx cx) Hp10.out Hz10.out
        generalize (((w10.setCell ⟨w.heap.size, 0, none⟩ (.int .u64 (u1 : Int))).setCell ⟨w.heap.size, 1, none⟩ (.int .u64 (u2 : Int))).setCell ⟨w.heap.size, 2, none⟩ (.bool false)).setCell ⟨w.heap.size, 3, none⟩ (.slice Ax nx cx) = w11 at *
        have j0 : w11.cell? ⟨w.heap.size, 0, none⟩ = some (.int .u64 (u1 : Int)) := hk4.cell 0
        have j1 : w11.cell? ⟨w.heap.size, 1, none⟩ = some (.int .u64 (u2 : Int)) := hk4.cell 1
        have j2 : w11.cell? ⟨w.heap.size, 2, none⟩ = some (.bool false) := hk4.cell 2
        have j3 : w11.cell? ⟨w.heap.size, 3, none⟩ = some (.slice Ax nx cx) := hk4.cell 3
        refine bodyPost_ret (by simp [results, Try.results38, go_sem, j0, j1, j2, j3]; try rfl) rfl ?_
        rw [HP2.out]
        have hsz : gf ≤ w10.heap.size := Nat.le_of_lt Hp10.out.fr.lt
        refine ⟨Ax, nx, cx, rfl, Hcap.out.1, Hcap.out.2, (HR5.out.grown7 hgr hsz ?_).more (Nat.le_trans hsz hgr.size), HA2.out, Hp10.out.bel.trans (below_of_grown hgr Hp10.out.bel.size (Nat.le_refl _))⟩
        intro hn b o hA
        have := HA2.out hn b o hA
        omega
    · have hne : ((er2 : Int) != 0) = true := by simp; omega
      have hP : P = (Sg.zero, 11) := by rw [HP.out, if_pos (.inl he)]
      have HP2 := Lib.hid hP
      have f0 : w9.cell? ⟨w.heap.size, 0, none⟩ = some (.int .u64 0) := Hp.out.res.cell 0
      have f1 : w9.cell? ⟨w.heap.size, 1, none⟩ = some (.int .u64 0) := Hp.out.res.cell 1
      have f2 : w9.cell? ⟨w.heap.size, 2, none⟩ = some (.bool false) := Hp.out.res.cell 2
      have f3 : w9.cell? ⟨w.heap.size, 3, none⟩ = some (.slice none 0 0) := Hp.out.res.cell 3
      have z0 : w9.frozen? ⟨w.heap.size, 0, none⟩ = false := Hp.out.res.frozen 0
      have z1 : w9.frozen? ⟨w.heap.size, 1, none⟩ = false := Hp.out.res.frozen 1
      have z2 : w9.frozen? ⟨w.heap.size, 2, none⟩ = false := Hp.out.res.frozen 2
      have z3 : w9.frozen? ⟨w.heap.size, 3, none⟩ = false := Hp.out.res.frozen 3
      clear he hP
      go_wp2_with fail
      refine HE.out.mono ?_
      rintro e w' ⟨rfl, rfl⟩
      go_wp2
      obtain ⟨hk4, hgr⟩ := Hend.out w9 (.int .u64 0) (.int .u64 0) (.bool false) (.slice none 0 0) Hp.out (Nat.le_refl _)
      have HB9 := Lib.hid Hp.out.bel
      generalize (((w9.setCell ⟨w.heap.size, 0, none⟩ (.int .u64 0)).setCell ⟨w.heap.size, 1, none⟩ (.int .u64 0)).setCell ⟨w.heap.size, 2, none⟩ (.bool false)).setCell ⟨w.heap.size, 3, none⟩ (.slice none 0 0) = w11 at *
      have j0 : w11.cell? ⟨w.heap.size, 0, none⟩ = some (.int .u64 0) := hk4.cell 0
      have j1 : w11.cell? ⟨w.heap.size, 1, none⟩ = some (.int .u64 0) := hk4.cell 1
      have j2 : w11.cell? ⟨w.heap.size, 2, none⟩ = some (.bool false) := hk4.cell 2
      have j3 : w11.cell? ⟨w.heap.size, 3, none⟩ = some (.slice none 0 0) := hk4.cell 3
      refine bodyPost_ret (by simp [results, Try.results38, go_sem, j0, j1, j2, j3]; try rfl) rfl ?_
      rw [HP2.out]
      exact ⟨none, 0, 0, rfl, Nat.le_refl _, by omega, Rd.nil _ _ _, fun h => absurd h (by omega), HB9.out.trans (below_of_grown hgr HB9.out.size (Nat.le_refl _))⟩
  · have hK3 : K = 4 := by rw [hK, hkd]; rfl
    have HKB : Hid ((f.1 == 4) = true) := by rw [hkd]; exact Lib.hid rfl
    rw [HKB.out] at HP
    clear hK
    subst hK3
    go_enter Try.func38, Try.ntmps38
    go_wp2_with fail
    rw [← HW0.out]
    refine (HG.out W0 Hb0.out).mono ?_
    rintro e w1 ⟨A3, c3, rfl, a1, a2, a3, a4, hb1⟩
    go_wp2_with fail
    obtain ⟨W2, hW2⟩ : ∃ W, W = (w1.alloc (.cells #[.int .u8 4, .slice A3 N c3] 132)).alloc (.cells #[.int .u64 0, .int .u64 0, .bool true, .slice none 0 0] 60) := ⟨_, rfl⟩
    rw [← hW2]
    have hb2 : Below w1.heap.size w1 W2 := by rw [hW2]; exact ((Below.refl _ _).alloc (Nat.le_refl _) _).alloc (by simp) _
    have z2 : W2.heap.size = w1.heap.size + 2 := by rw [hW2]; simp
    have z1 := hb1.size
    have z0 := Hk0.out.lt
    refine (HN.out W2 A3 c3 (a3.up hb2)).mono ?_
    rintro e w3 ⟨R, A4, c4, rfl, hR, hbr, hb3⟩
    have Hps : Hid (Ps w w3 w1.heap.size R 4 A3 N c3 f.2 0 0 true none 0 0 f.2 0) := by
      have q2 := hb2.trans (hb3.mono (by omega))
      have f2 : Bk W2 w1.heap.size 132 #[.int .u8 4, .slice A3 N c3] := by rw [hW2]; exact (Bk.new w1 _ _).below ((Below.refl _ _).alloc (Nat.le_refl _) _) (by simp)
      have s2 : Bk W2 (w1.heap.size + 1) 60 #[.int .u64 0, .int .u64 0, .bool true, .slice none 0 0] := by
        rw [hW2]
        have := Bk.new (w1.alloc (.cells #[.int .u8 4, .slice A3 N c3] 132)) 60 #[.int .u64 0, .int .u64 0, .bool true, .slice none 0 0]
        have e : (w1.alloc (.cells #[.int .u8 4, .slice A3 N c3] 132)).heap.size = w1.heap.size + 1 := by simp
        rw [e] at this
        exact this
      exact Lib.hid ⟨(below_then Hb0.out hb1).trans (q2.mono (by omega)), (Hk0.out.below hb1 z0).below q2 (by omega), f2.below hb3 (by omega), s2.below hb3 (by omega), ⟨_, _, _, hbr⟩, a3.below q2, by omega, by omega⟩
    clear hb2 hb1 a3 hbr hb3 hR z0 z1 hW2 z2
    generalize w1.heap.size = gf at *
    go_wp2_with fail
    obtain ⟨Ar, nr, cr, hr⟩ := Hps.out.rd
    have HU1 := HU.out w3 R Ar nr cr f.2 0 hr
    rw [Hn1.out] at HU1
    dsimp only at HU1
    refine HU1.mono ?_
    rintro e w4 ⟨rfl, hx, hg⟩
    have Hp4 := Lib.hid (Hps.out.uint hg hx)
    have c0 : w4.cell? ⟨gf + 1, 0, none⟩ = some (.int .u64 0) := Hp4.out.sg.cell 0
    have z0 : w4.frozen? ⟨gf + 1, 0, none⟩ = false := Hp4.out.sg.frozen 0
    clear hr hx hg HU1 Hps
    go_wp2_with fail
    have Hp5 := Lib.hid (Hp4.out.set_ 0 (.int .u64 (u1 : Int)) (a' := u1) (b' := 0) (Ay := none) (ny := 0) (cy := 0) (by simp))
    clear Hp4 c0 z0
    generalize w4.setCell ⟨gf + 1, 0, none⟩ (.int .u64 (u1 : Int)) = w5 at *
    obtain ⟨Ar, nr, cr, hr⟩ := Hp5.out.rd
    have HU1 := HU.out w5 R Ar nr cr rem1 er1 hr
    rw [Hn2.out] at HU1
    dsimp only at HU1
    refine HU1.mono ?_
    rintro e w6 ⟨rfl, hx, hg⟩
    have Hp6 := Lib.hid (Hp5.out.uint hg hx)
    have c0 : w6.cell? ⟨gf + 1, 1, none⟩ = some (.int .u64 0) := Hp6.out.sg.cell 1
    have z0 : w6.frozen? ⟨gf + 1, 1, none⟩ = false := Hp6.out.sg.frozen 1
    clear hr hx hg HU1 Hp5
    go_wp2_with fail
    have Hp7 := Lib.hid (Hp6.out.set_ 1 (.int .u64 (u2 : Int)) (a' := u1) (b' := u2) (Ay := none) (ny := 0) (cy := 0) (by simp))
    clear Hp6 c0 z0
    generalize w6.setCell ⟨gf + 1, 1, none⟩ (.int .u64 (u2 : Int)) = w7 at *
    have c1 : w7.cell? ⟨gf, 1, none⟩ = some (.slice A3 N c3) := Hp7.out.fr.cell 1
    have c3' : w7.cell? ⟨gf + 1, 3, none⟩ = some (.slice none 0 0) := Hp7.out.sg.cell 3
    have z3 : w7.frozen? ⟨gf + 1, 3, none⟩ = false := Hp7.out.sg.frozen 3
    obtain ⟨k, hk⟩ : ∃ k, k = N - m := ⟨_, rfl⟩
    have hsub : IntKind.i64.wrap ((N : Int) - (m : Int)) = (k : Int) := by
      have : (N : Int) - (m : Int) = ((k : Nat) : Int) := by omega
      rw [this, IntKind.wrap_i64]; omega
    have hk1 : k ≤ N := by omega
    have Hk := Lib.hid hk
    have HL : Hid (∀ W, W.heap = w7.heap → Calls Try.prog 86 #[.pointer (some ⟨R, 0, none⟩)] W fun e w' => e = .returned (.int .i64 (m : Int)) ∧ W = w') := by
      refine Lib.hid fun W hW => ?_
      obtain ⟨A, nn, cc, hr⟩ := Hp7.out.rd
      have hb : Bk W R 173 #[.slice A nn cc, .int .i64 er2] := by unfold Bk; rw [hW]; exact hr.blk
      have := left_any R A nn cc _ W hb
      rw [← hr.rd.1, ← Hm.out] at this
      exact this
    have HLd := Lib.hid (HL.out w7.drew rfl)
    clear hk
    go_region_held3 (fun w' => w'.cell? ⟨gf, 1, none⟩ = some (.slice A3 N c3)) (first | exact c1 | go_keep)
      (first
        | (go_at_call 86; (with_reducible refine HLd.out.mono ?_); rintro e w8 ⟨rfl, rfl⟩))
    have hax : ∃ Ax nx cx, Ax = (if c3 = k then A3 else Option.map (fun x => x.add k) A3) ∧ nx = N - k ∧ cx = c3 - k := ⟨_, _, _, rfl, rfl, rfl⟩
    obtain ⟨Ax, nx, cx, hAx, hnx, hcx⟩ := hax
    rw [← hAx, ← hnx, ← hcx]
    have hfk : f.2.drop k = rem2 := by rw [Hk.out]; exact Hrem.out.symm
    have HR2 : Hid (Rd w7 gf Ax nx rem2) := by
      refine Lib.hid ?_
      rw [← hfk, hAx, hnx]
      exact Hp7.out.bd.tail7 a1 hk1
    have HA2 : Hid (0 < nx → ∀ b o, Ax = some ⟨b, o, none⟩ → w.heap.size < b) := by
      refine Lib.hid fun hpos b o e => ?_
      have q0 := Hk0.out.lt
      obtain ⟨b3, o3, hA3, _, _⟩ := Hp7.out.bd.2 (by omega)
      have hq : Option.map (fun x => x.add k) (some (⟨b3, o3, none⟩ : Addr)) = some ⟨b3, o3 + k, none⟩ := by simp [Addr.add]
      rw [hAx, if_neg (by omega), hA3, hq] at e
      injection e with e
      injection e with e1 _ _
      exact Nat.lt_of_lt_of_le q0 (by rw [← e1]; exact a4 b3 o3 hA3)
    have hcap : nx ≤ cx ∧ cx ≤ 9223372036854775807 := by omega
    have Hcap := Lib.hid hcap
    have Hp9 := Lib.hid (Hp7.out.set_ 3 (.slice Ax nx cx) (a' := u1) (b' := u2) (Ay := Ax) (ny := nx) (cy := cx) (by simp))
    have HR3 : Hid (Rd (w7.setCell ⟨gf + 1, 3, none⟩ (.slice Ax nx cx)) gf Ax nx rem2) := Lib.hid (HR2.out.below (below_of_grown (g := gf + 1) (grown_set _ _ _ _) (Nat.le_of_lt Hp7.out.fr.lt) (by omega)) )
    have Hp10 := Lib.hid (Hp9.out.drew 1)
    have HR4 : Hid (Rd (w7.setCell ⟨gf + 1, 3, none⟩ (.slice Ax nx cx)).drew gf Ax nx rem2) := Lib.hid (HR3.out.drewN 1)
    have hw9 : ∃ W, W = (w7.setCell ⟨gf + 1, 3, none⟩ (.slice Ax nx cx)).drew := ⟨_, rfl⟩
    obtain ⟨w9, hw9⟩ := hw9
    have Hp : Hid (Ps w w9 gf R 4 A3 N c3 f.2 u1 u2 true Ax nx cx rem2 er2) := by rw [hw9]; exact Hp10
    rw [← hw9] at HR4
    rw [← hw9]
    clear Hp9 HR3 Hp10 HLd HL c1 c3' z3 Hp7 HR2 hAx hnx hcx hw9 hsub hk1 Hk hcap hfk
    have HE : Hid (Calls Try.prog 87 #[.pointer (some ⟨R, 0, none⟩)] w9 fun e w' => e = .returned (.int .i64 (er2 : Int)) ∧ w9 = w') := by
      obtain ⟨A, nn, cc, hr⟩ := Hp.out.rd
      exact Lib.hid (err_any R _ er2 w9 hr.blk)
    have HRt : Hid (Calls Try.prog 76 #[.agg #[.int .u64 (u1 : Int), .int .u64 (u2 : Int), .bool true, .slice Ax nx cx]] w9 fun e w' => e = .returned (.bool (Sg.right ⟨u1, u2, true, rem2⟩)) ∧ Below w9.heap.size w9 w') :=
      Lib.hid (right_any ⟨u1, u2, true, rem2⟩ Ax nx cx w9 HR4.out.1)
    have Hend : Hid (∀ W1 v0 v1 v2 v3, Ps w W1 gf R 4 A3 N c3 f.2 u1 u2 true Ax nx cx rem2 er2 → w9.heap.size ≤ W1.heap.size → Bk ((((W1.setCell ⟨w.heap.size, 0, none⟩ v0).setCell ⟨w.heap.size, 1, none⟩ v1).setCell ⟨w.heap.size, 2, none⟩ v2).setCell ⟨w.heap.size, 3, none⟩ v3) w.heap.size 60 #[v0, v1, v2, v3] ∧ W1.grownBy ((((W1.setCell ⟨w.heap.size, 0, none⟩ v0).setCell ⟨w.heap.size, 1, none⟩ v1).setCell ⟨w.heap.size, 2, none⟩ v2).setCell ⟨w.heap.size, 3, none⟩ v3) (some w.heap.size)) :=
      Lib.hid fun W1 v0 v1 v2 v3 h _ => ⟨by have := (((h.res.set_ 0 v0).set_ 1 v1).set_ 2 v2).set_ 3 v3; simpa using this, grown_trans (grown_trans (grown_trans (grown_set _ _ _ _) (grown_set _ _ _ _)) (grown_set _ _ _ _)) (grown_set _ _ _ _)⟩
    by_cases he : er2 = 0
    · cases hrt : Sg.right ⟨u1, u2, true, rem2⟩ with
      | false =>
        have hP : P = (Sg.zero, 11) := by rw [HP.out, if_pos (.inr hrt)]
        have g0 : w9.cell? ⟨gf + 1, 0, none⟩ = some (.int .u64 (u1 : Int)) := Hp.out.sg.cell 0
        have g1 : w9.cell? ⟨gf + 1, 1, none⟩ = some (.int .u64 (u2 : Int)) := Hp.out.sg.cell 1
        have g2 : w9.cell? ⟨gf + 1, 2, none⟩ = some (.bool true) := Hp.out.sg.cell 2
        have g3 : w9.cell? ⟨gf + 1, 3, none⟩ = some (.slice Ax nx cx) := Hp.out.sg.cell 3
        rw [hrt] at HRt
        have HP2 := Lib.hid hP
        have HEz : Hid (Calls Try.prog 87 #[.pointer (some ⟨R, 0, none⟩)] w9 fun e w' => e = .returned (.int .i64 0) ∧ w9 = w') := by rw [he] at HE; exact HE
        clear he HE hP hrt
        go_wp2_with fail
        refine HEz.out.mono ?_
        rintro e w' ⟨rfl, rfl⟩
        go_wp2_with fail
        refine HRt.out.mono ?_
        rintro e w10 ⟨rfl, hb10⟩
        have Hp10 := Lib.hid (Hp.out.up hb10)
        have Hz10 := Lib.hid hb10.size
        have f0 : w10.cell? ⟨w.heap.size, 0, none⟩ = some (.int .u64 0) := Hp10.out.res.cell 0
        have f1 : w10.cell? ⟨w.heap.size, 1, none⟩ = some (.int .u64 0) := Hp10.out.res.cell 1
        have f2 : w10.cell? ⟨w.heap.size, 2, none⟩ = some (.bool false) := Hp10.out.res.cell 2
        have f3 : w10.cell? ⟨w.heap.size, 3, none⟩ = some (.slice none 0 0) := Hp10.out.res.cell 3
        have z0 : w10.frozen? ⟨w.heap.size, 0, none⟩ = false := Hp10.out.res.frozen 0
        have z1 : w10.frozen? ⟨w.heap.size, 1, none⟩ = false := Hp10.out.res.frozen 1
        have z2 : w10.frozen? ⟨w.heap.size, 2, none⟩ = false := Hp10.out.res.frozen 2
        have z3 : w10.frozen? ⟨w.heap.size, 3, none⟩ = false := Hp10.out.res.frozen 3
        clear hb10 g0 g1 g2 g3
        go_wp2
        obtain ⟨hk4, hgr⟩ := Hend.out w10 (.int .u64 0) (.int .u64 0) (.bool false) (.slice none 0 0) Hp10.out Hz10.out
        generalize (((w10.setCell ⟨w.heap.size, 0, none⟩ (.int .u64 0)).setCell ⟨w.heap.size, 1, none⟩ (.int .u64 0)).setCell ⟨w.heap.size, 2, none⟩ (.bool false)).setCell ⟨w.heap.size, 3, none⟩ (.slice none 0 0) = w11 at *
        have j0 : w11.cell? ⟨w.heap.size, 0, none⟩ = some (.int .u64 0) := hk4.cell 0
        have j1 : w11.cell? ⟨w.heap.size, 1, none⟩ = some (.int .u64 0) := hk4.cell 1
        have j2 : w11.cell? ⟨w.heap.size, 2, none⟩ = some (.bool false) := hk4.cell 2
        have j3 : w11.cell? ⟨w.heap.size, 3, none⟩ = some (.slice none 0 0) := hk4.cell 3
        refine bodyPost_ret (by simp [results, Try.results38, go_sem, j0, j1, j2, j3]; try rfl) rfl ?_
        rw [HP2.out]
        exact ⟨none, 0, 0, rfl, Nat.le_refl _, by omega, Rd.nil _ _ _, fun h => absurd h (by omega), Hp10.out.bel.trans (below_of_grown hgr Hp10.out.bel.size (Nat.le_refl _))⟩
      | true =>
        have hP : P = (⟨u1, u2, true, rem2⟩, 0) := by
          rw [HP.out, if_neg]
          rintro (h | h)
          · exact h he
          · rw [hrt] at h; cases h
        have g0 : w9.cell? ⟨gf + 1, 0, none⟩ = some (.int .u64 (u1 : Int)) := Hp.out.sg.cell 0
        have g1 : w9.cell? ⟨gf + 1, 1, none⟩ = some (.int .u64 (u2 : Int)) := Hp.out.sg.cell 1
        have g2 : w9.cell? ⟨gf + 1, 2, none⟩ = some (.bool true) := Hp.out.sg.cell 2
        have g3 : w9.cell? ⟨gf + 1, 3, none⟩ = some (.slice Ax nx cx) := Hp.out.sg.cell 3
        rw [hrt] at HRt
        have HP2 := Lib.hid hP
        have HEz : Hid (Calls Try.prog 87 #[.pointer (some ⟨R, 0, none⟩)] w9 fun e w' => e = .returned (.int .i64 0) ∧ w9 = w') := by rw [he] at HE; exact HE
        clear he HE hP hrt
        go_wp2_with fail
        refine HEz.out.mono ?_
        rintro e w' ⟨rfl, rfl⟩
        go_wp2_with fail
        refine HRt.out.mono ?_
        rintro e w10 ⟨rfl, hb10⟩
        have Hp10 := Lib.hid (Hp.out.up hb10)
        have Hz10 := Lib.hid hb10.size
        have HR5 := Lib.hid (HR4.out.below (hb10.mono (Nat.le_of_lt Hp.out.fr.lt)))
        replace g0 : w10.cell? ⟨gf + 1, 0, none⟩ = some (.int .u64 (u1 : Int)) := Hp10.out.sg.cell 0
        replace g1 : w10.cell? ⟨gf + 1, 1, none⟩ = some (.int .u64 (u2 : Int)) := Hp10.out.sg.cell 1
        replace g2 : w10.cell? ⟨gf + 1, 2, none⟩ = some (.bool true) := Hp10.out.sg.cell 2
        replace g3 : w10.cell? ⟨gf + 1, 3, none⟩ = some (.slice Ax nx cx) := Hp10.out.sg.cell 3
        have f0 : w10.cell? ⟨w.heap.size, 0, none⟩ = some (.int .u64 0) := Hp10.out.res.cell 0
        have f1 : w10.cell? ⟨w.heap.size, 1, none⟩ = some (.int .u64 0) := Hp10.out.res.cell 1
        have f2 : w10.cell? ⟨w.heap.size, 2, none⟩ = some (.bool false) := Hp10.out.res.cell 2
        have f3 : w10.cell? ⟨w.heap.size, 3, none⟩ = some (.slice none 0 0) := Hp10.out.res.cell 3
        have z0 : w10.frozen? ⟨w.heap.size, 0, none⟩ = false := Hp10.out.res.frozen 0
        have z1 : w10.frozen? ⟨w.heap.size, 1, none⟩ = false := Hp10.out.res.frozen 1
        have z2 : w10.frozen? ⟨w.heap.size, 2, none⟩ = false := Hp10.out.res.frozen 2
        have z3 : w10.frozen? ⟨w.heap.size, 3, none⟩ = false := Hp10.out.res.frozen 3
        clear hb10
        go_wp2
        obtain ⟨hk4, hgr⟩ := Hend.out w10 (.int .u64 (u1 : Int)) (.int .u64 (u2 : Int)) (.bool true) (.slice Ax nx cx) Hp10.out Hz10.out
        generalize (((w10.setCell ⟨w.heap.size, 0, none⟩ (.int .u64 (u1 : Int))).setCell ⟨w.heap.size, 1, none⟩ (.int .u64 (u2 : Int))).setCell ⟨w.heap.size, 2, none⟩ (.bool true)).setCell ⟨w.heap.size, 3, none⟩ (.slice Ax nx cx) = w11 at *
        have j0 : w11.cell? ⟨w.heap.size, 0, none⟩ = some (.int .u64 (u1 : Int)) := hk4.cell 0
        have j1 : w11.cell? ⟨w.heap.size, 1, none⟩ = some (.int .u64 (u2 : Int)) := hk4.cell 1
        have j2 : w11.cell? ⟨w.heap.size, 2, none⟩ = some (.bool true) := hk4.cell 2
        have j3 : w11.cell? ⟨w.heap.size, 3, none⟩ = some (.slice Ax nx cx) := hk4.cell 3
        refine bodyPost_ret (by simp [results, Try.results38, go_sem, j0, j1, j2, j3]; try rfl) rfl ?_
        rw [HP2.out]
        have hsz : gf ≤ w10.heap.size := Nat.le_of_lt Hp10.out.fr.lt
        refine ⟨Ax, nx, cx, rfl, Hcap.out.1, Hcap.out.2, (HR5.out.grown7 hgr hsz ?_).more (Nat.le_trans hsz hgr.size), HA2.out, Hp10.out.bel.trans (below_of_grown hgr Hp10.out.bel.size (Nat.le_refl _))⟩
        intro hn b o hA
        have := HA2.out hn b o hA
        omega
    · have hne : ((er2 : Int) != 0) = true := by simp; omega
      have hP : P = (Sg.zero, 11) := by rw [HP.out, if_pos (.inl he)]
      have HP2 := Lib.hid hP
      have f0 : w9.cell? ⟨w.heap.size, 0, none⟩ = some (.int .u64 0) := Hp.out.res.cell 0
      have f1 : w9.cell? ⟨w.heap.size, 1, none⟩ = some (.int .u64 0) := Hp.out.res.cell 1
      have f2 : w9.cell? ⟨w.heap.size, 2, none⟩ = some (.bool false) := Hp.out.res.cell 2
      have f3 : w9.cell? ⟨w.heap.size, 3, none⟩ = some (.slice none 0 0) := Hp.out.res.cell 3
      have z0 : w9.frozen? ⟨w.heap.size, 0, none⟩ = false := Hp.out.res.frozen 0
      have z1 : w9.frozen? ⟨w.heap.size, 1, none⟩ = false := Hp.out.res.frozen 1
      have z2 : w9.frozen? ⟨w.heap.size, 2, none⟩ = false := Hp.out.res.frozen 2
      have z3 : w9.frozen? ⟨w.heap.size, 3, none⟩ = false := Hp.out.res.frozen 3
      clear he hP
      go_wp2_with fail
      refine HE.out.mono ?_
      rintro e w' ⟨rfl, rfl⟩
      go_wp2
      obtain ⟨hk4, hgr⟩ := Hend.out w9 (.int .u64 0) (.int .u64 0) (.bool false) (.slice none 0 0) Hp.out (Nat.le_refl _)
      have HB9 := Lib.hid Hp.out.bel
      generalize (((w9.setCell ⟨w.heap.size, 0, none⟩ (.int .u64 0)).setCell ⟨w.heap.size, 1, none⟩ (.int .u64 0)).setCell ⟨w.heap.size, 2, none⟩ (.bool false)).setCell ⟨w.heap.size, 3, none⟩ (.slice none 0 0) = w11 at *
      have j0 : w11.cell? ⟨w.heap.size, 0, none⟩ = some (.int .u64 0) := hk4.cell 0
      have j1 : w11.cell? ⟨w.heap.size, 1, none⟩ = some (.int .u64 0) := hk4.cell 1
      have j2 : w11.cell? ⟨w.heap.size, 2, none⟩ = some (.bool false) := hk4.cell 2
      have j3 : w11.cell? ⟨w.heap.size, 3, none⟩ = some (.slice none 0 0) := hk4.cell 3
      refine bodyPost_ret (by simp [results, Try.results38, go_sem, j0, j1, j2, j3]; try rfl) rfl ?_
      rw [HP2.out]
      exact ⟨none, 0, 0, rfl, Nat.le_refl _, by omega, Rd.nil _ _ _, fun h => absurd h (by omega), HB9.out.trans (below_of_grown hgr HB9.out.size (Nat.le_refl _))⟩
end Go.Proofs.Ytfghbhjljbdlmaa
