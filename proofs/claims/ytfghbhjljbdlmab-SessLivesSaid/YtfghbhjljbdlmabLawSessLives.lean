/- SessLives is true at every row of lists, of segments, and every number. -/
import Derived.Test.YtfghbhjljbdlmabSesG
namespace Go.Proofs.Ytfghbhjljbdlmab
open Go.ChangeShapes Go.WideShapes Go.ChangeAt Go.RowKit

def lvX (m i : Nat) : Sd := ⟨m, 8, 1, i, i, []⟩
def lvY (m i : Nat) : Rc := if i = 0 then ⟨8, m - 1, 1, []⟩ else ⟨8, m, i, []⟩
theorem lv_first (k : Nat) (b : List UInt8) : (Rc.new 8).hear ⟨k, 1, false, b⟩ = ([b], ⟨8, k, 1, []⟩) := by
  by_cases h : 0 < k
  · simp [Rc.hear, Rc.turn, Rc.keep, Rc.wants, Rc.take, takeK, insK, getK, Rc.new, h]
  · have : k = 0 := by omega
    subst this
    simp [Rc.hear, Rc.turn, Rc.keep, Rc.wants, Rc.take, takeK, insK, getK, Rc.new]
theorem lv_hear {m i : Nat} (hm : 1 ≤ m) (b : List UInt8) : (lvY m i).hear ⟨m, i + 1, false, b⟩ = ([b], lvY m (i + 1)) := by
  have e1 : lvY m (i + 1) = ⟨8, m, i + 1, []⟩ := by unfold lvY; rw [if_neg (by omega)]
  rw [e1]
  unfold lvY
  by_cases h : i = 0
  · subst h
    rw [if_pos rfl]
    simp [Rc.hear, Rc.turn, Rc.keep, Rc.wants, Rc.take, takeK, insK, getK, show m - 1 < m by omega]
  · rw [if_neg h]
    simp [Rc.hear, Rc.turn, Rc.keep, Rc.wants, Rc.take, takeK, insK, getK]
theorem lv_refuse {m i : Nat} (b : List UInt8) (hb : b.length ≤ 1000) : (lvY m i).refuse ⟨m, i + 1, false, b⟩ = 0 := by
  by_cases h : i = 0
  · simp [lvY, h, Rc.refuse, Sg.right, hb]
  · simp [lvY, h, Rc.refuse, Sg.right, hb]
theorem lv_old {m i k : Nat} (hm : 1 ≤ m) (b : List UInt8) (hb : b.length ≤ 1000) : (lvY m (i + 1)).refuse ⟨m - 1, k + 1, false, b⟩ = 70 := by
  simp [lvY, Rc.refuse, Sg.right, hb]
  omega
theorem lv_push {m i : Nat} (b : List UInt8) (hb : b.length ≤ 1000) : (lvX m i).push b = (0, ⟨m, 8, 1, i, i, [(b, 0)]⟩) := by
  unfold lvX Sd.push
  rw [if_neg (by omega), if_neg (by simp)]
  rfl
theorem lv_tick (m i : Nat) (b : List UInt8) : (⟨m, 8, 1, i, i, [(b, 0)]⟩ : Sd).tickS = ⟨m, 8, 1, i + 1, i, [(b, i + 1)]⟩ ∧ (⟨m, 8, 1, i, i, [(b, 0)]⟩ : Sd).out = [⟨m, i + 1, false, b⟩] := by
  simp [Sd.tickS, Sd.out, Sd.k, outQ, dueQ, updQ]
theorem lv_ack (m i : Nat) (b : List UInt8) : (⟨m, 8, 1, i + 1, i, [(b, i + 1)]⟩ : Sd).hear ⟨m, i + 1, true, []⟩ = (0, lvX m (i + 1)) := by
  simp [Sd.hear, Sg.right, lvX]
theorem lv_ack2 {m i I1 : Nat} {b : List UInt8} (h : I1 = i + 1) : (⟨m, 8, 1, I1, i, [(b, I1)]⟩ : Sd).hear ⟨m, I1, true, []⟩ = (0, lvX m I1) := by
  subst h
  exact lv_ack m i b
theorem lv_nack {m i k : Nat} (hm : 1 ≤ m) : (lvX m i).hear ⟨m - 1, k + 1, true, []⟩ = (70, lvX m i) := by
  unfold Sd.hear Sg.right lvX
  simp
  omega

/-- Ahead of a round. -/
def LiveI (W wr : World) (gx gy m i : Nat) (ls : List (List UInt8)) (lv : Value) : Prop := ∃ Fx Fy out, Tw W wr Fx Fy gx gy (lvX m i) (lvY m i) ∧ ByR wr W.heap.size (Un Fx Fy) lv out ∧ out.map (·.1) = ls.take i
/-- Ahead of the inner loop. -/
def LiveA (W wr : World) (gx gy m i : Nat) (ls : List (List UInt8)) (b : List UInt8) (lv : Value) (R : Nat) (c : Nat) : Prop :=
  ∃ Fx Fy out bv base, Tw W wr Fx Fy gx gy ⟨m, 8, 1, i + 1, i, [(b, i + 1)]⟩ (lvY m i) ∧ ByR wr W.heap.size (Un Fx Fy) lv out ∧ out.map (·.1) = ls.take i ∧ SgR wr base (Un Fx Fy) (.slice (some ⟨R, 0, none⟩) 1 c) [(⟨m, i + 1, false, b⟩, bv)]
theorem LiveI.below {W w w' : World} {gx gy m i : Nat} {ls : List (List UInt8)} {lv : Value} (h : LiveI W w gx gy m i ls lv) (hb : Below w.heap.size w w') : LiveI W w' gx gy m i ls lv := by
  obtain ⟨Fx, Fy, out, h1, h2, h3⟩ := h
  exact ⟨Fx, Fy, out, h1.mvb hb, h2.mv (Mv.below7 hb), h3⟩

set_option maxHeartbeats 8000000 in
set_option maxRecDepth 100000 in
theorem sessLives_walk (A : Option Addr) (n c : Nat) (ls : List (List UInt8)) (A2 : Option Addr) (n2 c2 : Nat) (f : Nat → Gs) (m : Nat) (W : World) (hc : n ≤ c) (hm : c ≤ 9223372036854775807) (hp : Prt W W.heap.size A n ls) (_hc2 : n2 ≤ c2) (_hm2 : c2 ≤ 9223372036854775807) (hs : SgsIn W W.heap.size A2 n2 f) (hm64 : m < 18446744073709551616) :
    Calls Try.prog 3 #[.slice A n c, .slice A2 n2 c2, .int .u64 (m : Int)] W fun e w' => e = .returned (.bool true) ∧ Below W.heap.size W w' := by
  have HKn := Lib.hid sknown_any
  have HFw := Lib.hid (few_any A n c W.heap.size ls W (by omega) hp)
  have HP := Lib.hid hp
  have HS := Lib.hid hs
  have Hn := Lib.hid hp.1
  clear hp hs
  cases hfw : fewB ls with
  | false =>
    rw [hfw] at HFw
    go_enter Try.func3, Try.ntmps3
    go_wp2_with fail
    refine HFw.out.mono ?_
    rintro e w1 ⟨rfl, rfl⟩
    go_wp2_with fail
    refine (HKn.out w1).mono ?_
    rintro e w2 ⟨rfl, hb⟩
    have HB := Lib.hid hb
    clear hb
    go_wp2
    go_ret
    exact ⟨rfl, HB.out⟩
  | true =>
    rw [hfw] at HFw
    have hbods : ∀ b ∈ ls, b.length ≤ 1000 := by
      unfold fewB at hfw
      rw [Bool.and_eq_true] at hfw
      intro b hb
      simpa using List.all_eq_true.1 hfw.1 b hb
    have hn60 : ls.length ≤ 60 := by
      unfold fewB at hfw
      rw [Bool.and_eq_true] at hfw
      simpa using hfw.2
    rw [Hn.out] at hn60
    have Hbods := Lib.hid hbods
    clear hfw hbods
    by_cases h1 : m < 1
    · have m1 : (m : Int) < 1 := by omega
      go_enter Try.func3, Try.ntmps3
      go_wp2_with fail
      refine HFw.out.mono ?_
      rintro e w1 ⟨rfl, rfl⟩
      go_wp2_with fail
      refine (HKn.out w1).mono ?_
      rintro e w2 ⟨rfl, hb⟩
      have HB := Lib.hid hb
      clear hb
      go_wp2
      go_ret
      exact ⟨rfl, HB.out⟩
    have m1 : ¬ (m : Int) < 1 := by omega
    obtain ⟨k, hk⟩ : ∃ k, k = m - 1 := ⟨_, rfl⟩
    have e1 : IntKind.u64.wrap ((m : Int) - 1) = (k : Int) := by rw [IntKind.wrap_u64]; omega
    have hk64 : k < 18446744073709551616 := by omega
    have HN : Hid (∀ w, Calls Try.prog 8 #[.int .u64 (m : Int), .int .i64 8, .int .i64 1] w fun e w' => ∃ g F, e = .returned (.tuple #[.pointer (some ⟨g, 0, none⟩), .int .i64 0]) ∧ PS w' F g (lvX m 0) ∧ (∀ k, F k → w.heap.size ≤ k) ∧ Below w.heap.size w w') := Lib.hid fun w => sNew_any m 8 1 w hm64 (by decide) (by decide)
    have HR : Hid (∀ w, Calls Try.prog 9 #[.int .i64 8] w fun e w' => ∃ g F, e = .returned (.tuple #[.pointer (some ⟨g, 0, none⟩), .int .i64 0]) ∧ PR w' F g (Rc.new 8) ∧ (∀ k, F k → w.heap.size ≤ k) ∧ Below w.heap.size w w') := Lib.hid fun w => rNew_any 8 w (by decide)
    have kc := conv7
    have Hk := Lib.hid hk
    go_enter Try.func3, Try.ntmps3
    go_wp2_with fail
    refine HFw.out.mono ?_
    rintro e w0 ⟨rfl, rfl⟩
    go_wp2_with fail
    refine (HN.out w0).mono ?_
    rintro e w1 ⟨gx, Fx, rfl, p1, p2, p3⟩
    have P := Lib.hid (And.intro p1 (And.intro p2 p3))
    clear p1 p2 p3
    go_wp2_with fail
    refine (HR.out w1).mono ?_
    rintro e w2 ⟨gy, Fy, rfl, q1, q2, q3⟩
    have t2 := tw_new (Below.refl w0.heap.size w0) P.out.1 P.out.2.1 P.out.2.2 q1 q2 q3
    obtain ⟨w3, hw3⟩ : ∃ w3, w3 = w2.alloc (.cells #[.int .u8 111, .int .u8 108, .int .u8 100] 5 (3, 4)) := ⟨_, rfl⟩
    have hb3 : Below w2.heap.size w2 w3 := by rw [hw3]; exact (Below.refl _ _).alloc (Nat.le_refl _) _
    have hr3 : Rd7 w3 (Un Fx Fy) (some ⟨w2.heap.size, 0, none⟩) 3 [111, 108, 100] := ⟨by
      rw [hw3]
      exact (Rd.mark7 (w := w2) rfl [111, 108, 100] (cs := [.int .u8 111, .int .u8 108, .int .u8 100]) rfl 5 (3, 4)).more (by simp), fun ad e => by
      injection e with e
      subst e
      exact ⟨by rw [hw3]; simp, fun hf => by have := t2.lt _ hf; simp at this⟩⟩
    have Hh := (t2.mvb hb3).rhear ⟨k, 1, false, [111, 108, 100]⟩ ⟨hk64, by show 1 < _; decide⟩ _ 3 3 hr3 rfl (by decide)
    rw [lv_first] at Hh
    unfold sgV at Hh
    have Hh : Calls Try.prog 10 #[.pointer (some ⟨gy, 0, none⟩), .agg #[.int .u64 (k : Int), .int .u64 1, .bool false, .slice (some ⟨w2.heap.size, 0, none⟩) 3 3]] w3 fun e w' => ∃ A' c' out Fy', e = .returned (.tuple #[.slice A' 1 c', .agg #[.int .u64 (k : Int), .int .u64 1, .bool true, .slice none 0 0], .int .i64 0]) ∧ out.map (·.1) = [[111, 108, 100]] ∧ ByR w' w3.heap.size (Un Fx Fy') (.slice A' 1 c') out ∧ Tw w0 w' Fx Fy' gx gy (lvX m 0) ⟨8, k, 1, []⟩ ∧ Mv (Un Fx Fy) (Un Fx Fy') w3 w' := Hh
    have Hh := Lib.hid Hh
    have Hw3 := Lib.hid hw3
    clear P q1 q2 q3 t2 hw3 hb3 hr3 HN HR hk
    go_wp2_with fail
    rw [← Hw3.out]
    refine Hh.out.mono ?_
    clear Hh
    rintro e w4 ⟨A4, c4, out4, Fy4, rfl, _, _, t4, _⟩
    have hb5 : Below w4.heap.size w4 (w4.alloc (.cells #[.int .u64 (k : Int), .int .u64 1, .bool true, .slice none 0 0] 36)) := (Below.refl _ _).alloc (Nat.le_refl _) _
    have hI : Hid (LiveI w0 (w4.alloc (.cells #[.int .u64 (k : Int), .int .u64 1, .bool true, .slice none 0 0] 36)) gx gy m 0 ls (.slice none 0 0)) := by
      refine Lib.hid ⟨Fx, Fy4, [], ?_, ByR.nil _ _ _, rfl⟩
      have e2 : lvY m 0 = ⟨8, k, 1, []⟩ := by unfold lvY; rw [if_pos rfl, Hk.out]
      rw [e2]
      exact t4.mvb hb5
    clear t4 hb5
    go_wp2_with fail
    generalize w4.alloc (.cells #[.int .u64 (k : Int), .int .u64 1, .bool true, .slice none 0 0] 36) = w5 at *
    go_loopg [15, 14] n (fun q iv lv wr => ∃ i : Nat, iv = .int .i64 i ∧ i + q = n ∧ Hid (LiveI w0 wr gx gy m i ls lv))
    case atStart => exact ⟨0, rfl, by omega, hI⟩
    case round =>
      obtain ⟨i, rfl, hin, hI0⟩ := hrel
      by_cases hi : i < n
      · have hil : i < ls.length := by rw [Hn.out]; exact hi
        obtain ⟨b, o, A', c', rfl, hlt, x1, r1⟩ := HP.out.2 i hil
        obtain ⟨Fx1, Fy1, out1, t, ro, ho⟩ := hI0.out
        have hbl := Hbods.out _ (List.getElem_mem hil)
        have htk : ls.take (i + 1) = ls.take i ++ [ls[i]] := List.take_succ_eq_append_getElem hil
        have x1 : wr.cell? ⟨b, o + i, none⟩ = some (.slice A' ls[i].length c') := (t.below.cell (p := ⟨b, o + i, none⟩) hlt).trans x1
        have r1 := (r1.below t.below).more t.below.size
        obtain ⟨bb, hbb⟩ : ∃ bb, ls[i] = bb := ⟨_, rfl⟩
        rw [hbb] at x1 r1 hbl htk
        have m2 : (i : Int) < (n : Int) := by omega
        have Hs := t.push A' bb.length c' bb r1 (by simp [lvX]; omega)
        rw [lv_push bb hbl] at Hs
        have Hs := Lib.hid Hs
        have Ro := Lib.hid ro
        have Ho := Lib.hid ho
        have Htk := Lib.hid htk
        have Hbb := Lib.hid hbb
        clear t ro ho htk hI0 r1 hbb hI
        generalize hbn : bb.length = bl at *
        go_wp2_with fail
        refine Hs.out.mono ?_
        clear Hs
        rintro e wa ⟨rfl, Fxa, ta, ma⟩
        have Ra := Lib.hid (Ro.out.mv ma)
        have Hs := ta.tick (by show i + 1 < _; omega)
        rw [(lv_tick m i bb).1, (lv_tick m i bb).2] at Hs
        have Hs := Lib.hid Hs
        clear ta ma Ro x1
        go_wp2_with fail
        refine Hs.out.mono ?_
        clear Hs
        rintro e wb ⟨Ab, cb, esb, rfl, heb, rb, tb, mb⟩
        obtain ⟨⟨sg, bv⟩, rfl⟩ : ∃ a, esb = [a] := by
          match esb, heb with
          | [a], _ => exact ⟨a, rfl⟩
        simp only [List.map_cons, List.map_nil, List.cons.injEq, and_true] at heb
        have heb : sg = ⟨m, i + 1, false, bb⟩ := heb
        subst heb
        have hR : ∃ R, Ab = some ⟨R, 0, none⟩ := by
          obtain ⟨R, c, hv, _⟩ := rb.cell 0 (by simp)
          injection hv with hv
          exact ⟨R, hv⟩
        obtain ⟨R, rfl⟩ := hR
        have hA : Hid (LiveA w0 wb gx gy m i ls bb u14 R cb) := Lib.hid ⟨Fxa, Fy1, out1, bv, wa.heap.size, tb, Ra.out.mv mb, Ho.out, rb⟩
        clear rb tb mb Ra
        simp only [List.length_cons, List.length_nil]
        obtain ⟨g0, hg0⟩ : ∃ g, g = gk := ⟨_, rfl⟩
        subst hg0
        obtain ⟨I1, hI1⟩ : ∃ I1, I1 = i + 1 := ⟨_, rfl⟩
        have HI1 := Lib.hid hI1
        have e5 : IntKind.i64.wrap ((i : Int) + 1) = (I1 : Int) := by rw [IntKind.wrap_i64]; omega
        clear hI1
        go_wp2_with fail
        go_loopg [17, 14] 1 (fun q kv lv wr => (kv = .int .i64 0 ∧ q = 1 ∧ Hid (LiveA w0 wr gx gy m i ls bb lv R cb)) ∨ (kv = .int .i64 1 ∧ q = 0 ∧ Hid (LiveI w0 wr gx gy m (i + 1) ls lv)))
        case atStart => exact .inl ⟨rfl, rfl, hA⟩
        case round =>
          rcases hrel with ⟨rfl, rfl, hA1⟩ | ⟨rfl, rfl, hI1⟩
          · obtain ⟨Fx2, Fy2, out2, bv2, base2, t, ro, ho, rt⟩ := hA1.out
            obtain ⟨Bv, cv, ebv, rdv⟩ := rt.body _ (List.mem_singleton.2 rfl)
            have ebv : bv2 = .slice Bv bb.length cv := ebv
            subst ebv
            obtain ⟨R', cR, hv, y0, y1, y2, y3⟩ := rt.cell 0 (by simp)
            have hRR : R' = R := by injection hv with e; injection e with e; injection e with e; exact e.symm
            subst hRR
            replace y0 : wr.cell? ⟨R', 0, none⟩ = some (.int .u64 (m : Int)) := y0
            replace y1 : wr.cell? ⟨R', 1, none⟩ = some (.int .u64 (I1 : Int)) := by rw [HI1.out]; exact y1
            replace y2 : wr.cell? ⟨R', 2, none⟩ = some (.bool false) := y2
            replace y3 : wr.cell? ⟨R', 3, none⟩ = some (.slice Bv bl cv) := by rw [← hbn]; exact y3
            have hlY : (lvY m i).came + (lvY m i).early.length + 1 < 4611686018427387904 := by unfold lvY; split <;> simp <;> omega
            have Hh := t.rhear ⟨m, i + 1, false, bb⟩ ⟨hm64, by show i + 1 < _; omega⟩ Bv bb.length cv rdv (lv_refuse bb (by omega)) hlY
            rw [lv_hear (by omega) bb, hbn, ← HI1.out] at Hh
            have eY : lvY m I1 = ⟨8, m, I1, []⟩ := by unfold lvY; rw [if_neg (by rw [HI1.out]; omega)]
            rw [eY] at Hh
            have Hh : Calls Try.prog 10 #[.pointer (some ⟨gy, 0, none⟩), .agg #[.int .u64 (m : Int), .int .u64 (I1 : Int), .bool false, .slice Bv bl cv]] wr fun e w' => ∃ A' c' out Fy', e = .returned (.tuple #[.slice A' 1 c', .agg #[.int .u64 (m : Int), .int .u64 (I1 : Int), .bool true, .slice none 0 0], .int .i64 0]) ∧ out.map (·.1) = [bb] ∧ ByR w' wr.heap.size (Un Fx2 Fy') (.slice A' 1 c') out ∧ Tw w0 w' Fx2 Fy' gx gy ⟨m, 8, 1, I1, i, [(bb, I1)]⟩ ⟨8, m, I1, []⟩ ∧ Mv (Un Fx2 Fy2) (Un Fx2 Fy') wr w' := Hh
            have Hh := Lib.hid Hh
            have Ro := Lib.hid ro
            have Ho2 := Lib.hid ho
            have EY := Lib.hid eY
            clear t ro ho rt rdv hA1 hv eY hlY
            go_wp2_with fail
            refine Hh.out.mono ?_
            clear Hh
            rintro e wc ⟨A5, c5, out5, Fy5, rfl, ho5, r5, t5, m5⟩
            obtain ⟨⟨o5, v5⟩, rfl⟩ : ∃ a, out5 = [a] := by
              match out5, ho5 with
              | [a], _ => exact ⟨a, rfl⟩
            simp only [List.map_cons, List.map_nil, List.cons.injEq, and_true] at ho5
            have ho5' := ho5.symm
            clear ho5
            subst ho5'
            obtain ⟨wd, hwd⟩ : ∃ wd, wd = wc.alloc (.cells #[.int .u64 (m : Int), .int .u64 (I1 : Int), .bool true, .slice none 0 0] 36) := ⟨_, rfl⟩
            have hbd : Below wc.heap.size wc wd := by rw [hwd]; exact (Below.refl _ _).alloc (Nat.le_refl _) _
            have hkd : Bk wd wc.heap.size 36 #[.int .u64 (m : Int), .int .u64 (I1 : Int), .bool true, .slice none 0 0] := by rw [hwd]; exact Bk.new wc 36 _
            have td := t5.mvb hbd
            have rd5 := r5.mv (Mv.below7 hbd : Mv (Un Fx2 Fy5) (Un Fx2 Fy5) wc wd)
            have rod := (Ro.out.mv m5).mv (Mv.below7 hbd : Mv (Un Fx2 Fy5) (Un Fx2 Fy5) wc wd)
            obtain ⟨R5, cR5, hv5, z5⟩ := rd5.cell 0 (by simp)
            have hA5 : A5 = some ⟨R5, 0, none⟩ := by injection hv5
            subst hA5
            have Hnews : Hid (∀ a, (some ⟨R5, 0, none⟩ : Option Addr) = some a → ∀ j u, [v5][j]? = some u → wd.cell? (a.add j) = some u) := Lib.hid fun a ha j u hu => by
              injection ha with ha
              subst ha
              match j, hu with
              | 0, hu => simp at hu; rw [← hu, Addr.add_lit, Nat.zero_add]; exact z5
            have Hone : Hid (∀ u ∈ [v5], u.oneCell' = true) := Lib.hid fun u hu => by
              rw [List.mem_singleton.1 hu]
              obtain ⟨_, _, e9, _⟩ := rd5.body (bb, v5) (by simp)
              have e9 : v5 = _ := e9
              rw [e9]; rfl
            have HX : Hid (∀ w6 v6, App wd w6 w0.heap.size 34 1 u14 v6 out2.length 1 (out2.map (·.2)) [v5] → Hid (∃ outn, ByR w6 w0.heap.size (Un Fx2 Fy5) v6 outn ∧ outn.map (·.1) = ls.take (i + 1)) ∧ Hid (Tw w0 w6 Fx2 Fy5 gx gy ⟨m, 8, 1, I1, i, [(bb, I1)]⟩ ⟨8, m, I1, []⟩) ∧ Hid (Bk w6 wc.heap.size 36 #[.int .u64 (m : Int), .int .u64 (I1 : Int), .bool true, .slice none 0 0])) := by
              refine Lib.hid fun w6 v6 happ => ?_
              have h6 := rod.app rd5 td.lt happ
              refine ⟨Lib.hid ⟨_, h6.1, ?_⟩, Lib.hid (td.kp h6.2 (fun k hk e => (rod.off k e).2 hk) fun k e => (rod.own.lt k e).1), Lib.hid (hkd.kp h6.2 fun e => not_bk7 hkd rod.own (by decide) _ e rfl)⟩
              rw [List.map_append, Ho2.out, Htk.out]
              rfl
            have Hrod := Lib.hid rod.own
            have hol : out2.length ≤ 60 := by
              have := congrArg List.length Ho2.out
              simp only [List.length_map, List.length_take] at this
              rw [this, Hn.out]; omega
            obtain ⟨i1, hi1, hy0, hy1, hy2⟩ := info_parts Try.infoBytes
            have Hi1 := Lib.hid hi1
            have Hy0 := Lib.hid hy0
            have Hy1 := Lib.hid hy1
            have Hy2 := Lib.hid hy2
            have Hbw : Hid (w0.heap.size ≤ wd.heap.size) := Lib.hid td.below.size
            have Hwd := Lib.hid hwd
            clear t5 r5 m5 hbd hkd td rd5 rod z5 hi1 hy0 hy1 hy2 hwd y0 y1 y2 y3 Ro
            go_upto_region 20 with (fail)
            rw [← Hwd.out]
            go_wp2_with (at_builtin; refine wpList_append_app _ rfl _ _ 22 rfl w0.heap.size 34 i1 (.slice none 0 0) 1 24 Try.underlying22 Hi1.out Hy0.out Hy1.out Hy2.out rfl u14 out2.length _ rfl Hrod.out (some ⟨R5, 0, none⟩) 1 c5 [v5] rfl rfl (by intro e; cases e) Hnews.out Hone.out (by unfold maxLen; omega) (by omega) Hbw.out ?_; intro v6 w6 ha; obtain ⟨HB6, HT6, HK6⟩ := HX.out w6 v6 ha; clear ha; have j0 : w6.cell? ⟨wc.heap.size, 0, none⟩ = some (.int .u64 (m : Int)) := HK6.out.cell 0; have j1 : w6.cell? ⟨wc.heap.size, 1, none⟩ = some (.int .u64 (I1 : Int)) := HK6.out.cell 1; have j2 : w6.cell? ⟨wc.heap.size, 2, none⟩ = some (.bool true) := HK6.out.cell 2; have j3 : w6.cell? ⟨wc.heap.size, 3, none⟩ = some (.slice none 0 0) := HK6.out.cell 3)
            have Hh := HT6.out.shear ⟨m, I1, true, []⟩ ⟨hm64, by have := HI1.out; show I1 < _; omega⟩ none 0 0 rfl
            rw [lv_ack2 HI1.out] at Hh
            have Hh : Calls Try.prog 13 #[.pointer (some ⟨gx, 0, none⟩), .agg #[.int .u64 (m : Int), .int .u64 (I1 : Int), .bool true, .slice none 0 0]] w6 fun e w' => e = .returned (.int .i64 0) ∧ ∃ Fx', Tw w0 w' Fx' Fy5 gx gy (lvX m I1) ⟨8, m, I1, []⟩ ∧ Mv (Un Fx2 Fy5) (Un Fx' Fy5) w6 w' := Hh
            have Hh := Lib.hid Hh
            refine Hh.out.mono ?_
            clear Hh
            rintro e w7 ⟨rfl, Fx7, t7, m7⟩
            have hL : Hid (LiveI w0 w7 gx gy m (i + 1) ls v6) := by
              obtain ⟨outn, hb6, ho6⟩ := HB6.out
              refine Lib.hid ⟨Fx7, Fy5, outn, ?_, hb6.mv m7, ho6⟩
              rw [← HI1.out, EY.out]
              exact t7
            clear t7 m7 HB6 HT6 HK6 j0 j1 j2 j3 HX Hrod Hnews Hone
            go_wp2
            go_roundg 0
            case measure => omega
            case rel => exact .inr ⟨by go_num, rfl, hL⟩
          · by_cases hi2 : i < n2 ∧ (f i).n ≤ 1000
            · obtain ⟨hi2, hlen⟩ := hi2
              have q1 : (i : Int) < (n2 : Int) := by omega
              have q2 : ((f i).n : Int) ≤ 1000 := by omega
              obtain ⟨b2, o2, rfl, hlt2, hcs⟩ := HS.out (by omega)
              obtain ⟨hx0, z0, z1, z2, z3⟩ := hcs i hi2
              obtain ⟨Fx2, Fy2, out2, t, ro, ho⟩ := hI1.out
              have hcell : ∀ j u, w0.cell? ⟨b2, j, none⟩ = some u → wr.cell? ⟨b2, j, none⟩ = some u := fun j u hu => (t.below.cell (p := ⟨b2, j, none⟩) hlt2).trans hu
              replace z0 := hcell _ _ z0
              replace z1 := hcell _ _ z1
              replace z2 := hcell _ _ z2
              replace z3 := hcell _ _ z3
              have hrb := (hx0.body.below t.below).more t.below.size
              have hsq := hx0.ok.seq
              have hbl2 : (f i).s.body.length ≤ 1000 := by have := hx0.body.1; omega
              generalize f i = fi at *
              obtain ⟨⟨ol, os, oa, ob⟩, oA, on, oc⟩ := fi
              dsimp only at z0 z1 z2 z3 hrb hsq hbl2 q2 hlen
              obtain ⟨Q, hQ⟩ : ∃ Q, Q = os % 100 := ⟨_, rfl⟩
              obtain ⟨S1, hS1⟩ : ∃ S1, S1 = Q + 1 := ⟨_, rfl⟩
              have e6 : (os : Int).tmod 100 = (Q : Int) := by rw [hQ]; rfl
              have e7 : IntKind.u64.wrap (Q : Int) = (Q : Int) := by rw [IntKind.wrap_u64]; omega
              have e8 : IntKind.u64.wrap ((Q : Int) + 1) = (S1 : Int) := by rw [IntKind.wrap_u64]; omega
              have hS64 : S1 < 18446744073709551616 := by omega
              have HS1 := Lib.hid hS1
              have HQ := Lib.hid hQ
              clear hS1 hQ hx0 hcell hcs
              go_wp2_with fail
              have eY : lvY m I1 = ⟨8, m, I1, []⟩ := by unfold lvY; rw [if_neg (by rw [HI1.out]; omega)]
              have eOld : (⟨8, m, I1, []⟩ : Rc).refuse ⟨k, S1, false, ob⟩ = 70 := by
                have := lv_old (m := m) (i := i) (k := Q) (by omega) ob hbl2
                rw [← HI1.out, eY, ← Hk.out, ← HS1.out] at this
                exact this
              have eNack : (lvX m I1).hear ⟨k, S1, true, []⟩ = (70, lvX m I1) := by
                have := lv_nack (m := m) (i := I1) (k := Q) (by omega)
                rw [← Hk.out, ← HS1.out] at this
                exact this
              rw [← HI1.out, eY] at t
              obtain ⟨wq, hwq⟩ : ∃ wq, wq = wr.alloc (.cells #[.int .u64 (k : Int), .int .u64 (S1 : Int), .bool false, .slice oA on oc] 36) := ⟨_, rfl⟩
              have hbq : Below wr.heap.size wr wq := by rw [hwq]; exact (Below.refl _ _).alloc (Nat.le_refl _) _
              have hkq : Bk wq wr.heap.size 36 #[.int .u64 (k : Int), .int .u64 (S1 : Int), .bool false, .slice oA on oc] := by rw [hwq]; exact Bk.new wr 36 _
              rw [← hwq]
              have tq := t.mvb hbq
              have rq := ro.mv (Mv.below7 hbq : Mv (Un Fx2 Fy2) (Un Fx2 Fy2) wr wq)
              have HGt : Hid (∀ W, Below wq.heap.size wq W → Calls Try.prog 14 #[.pointer (some ⟨gy, 0, none⟩)] W fun e w' => e = .returned (.tuple #[.int .u64 (m : Int), .int .u64 (I1 : Int)]) ∧ ∃ q, w' = W.drewN q) := Lib.hid fun W hb => rGot_any (tq.pr.below hb)
              have HEr : Hid (∀ W, Below wq.heap.size wq W → Calls Try.prog 10 #[.pointer (some ⟨gy, 0, none⟩), .agg #[.int .u64 (k : Int), .int .u64 (S1 : Int), .bool false, .slice oA on oc]] W fun e w' => e = .returned (.tuple #[.slice none 0 0, .agg #[.int .u64 0, .int .u64 0, .bool false, .slice none 0 0], .int .i64 70]) ∧ Below W.heap.size W w') := Lib.hid fun W hb =>
                rHear_err (some ⟨gy, 0, none⟩) ⟨k, S1, false, ob⟩ oA on oc W 70 (by decide) fun W' hb' => by
                  have := rRefuse_any (tq.pr.below (below_then hb hb')) ⟨k, S1, false, ob⟩ oA on oc hrb.1
                  rw [eOld] at this
                  exact this
              have HSh : Hid (∀ W, Below wq.heap.size wq W → Calls Try.prog 13 #[.pointer (some ⟨gx, 0, none⟩), .agg #[.int .u64 (k : Int), .int .u64 (S1 : Int), .bool true, .slice none 0 0]] W fun e w' => e = .returned (.int .i64 70) ∧ LiveI w0 w' gx gy m I1 ls u14) := Lib.hid fun W hb => by
                have := (tq.mvb hb).shear ⟨k, S1, true, []⟩ ⟨hk64, hS64⟩ none 0 0 rfl
                rw [eNack] at this
                refine this.mono ?_
                rintro e w' ⟨rfl, Fx', h1, h2⟩
                refine ⟨rfl, Fx', Fy2, out2, by rw [eY]; exact h1, (rq.mv (Mv.below7 hb : Mv (Un Fx2 Fy2) (Un Fx2 Fy2) wq W)).mv h2, by rw [HI1.out]; exact ho⟩
              have HKq : Hid (∀ W, Below wq.heap.size wq W → W.cell? ⟨wr.heap.size, 0, none⟩ = some (.int .u64 (k : Int)) ∧ W.cell? ⟨wr.heap.size, 1, none⟩ = some (.int .u64 (S1 : Int)) ∧ W.cell? ⟨wr.heap.size, 2, none⟩ = some (.bool false) ∧ W.cell? ⟨wr.heap.size, 3, none⟩ = some (.slice oA on oc)) := Lib.hid fun W hb =>
                ⟨(hkq.below hb hkq.lt).cell 0, (hkq.below hb hkq.lt).cell 1, (hkq.below hb hkq.lt).cell 2, (hkq.below hb hkq.lt).cell 3⟩
              clear t ro ho hbq hkq tq rq eY eOld eNack hrb hwq z0 z1 z2 z3 hI1
              refine (HGt.out wq (Below.refl _ _)).mono ?_
              rintro e w6 ⟨rfl, qa, rfl⟩
              have hb6 : Hid (Below wq.heap.size wq (wq.drewN qa)) := Lib.hid (bel_drewN (Below.refl _ _) qa)
              obtain ⟨z0, z1, z2, z3⟩ := HKq.out _ hb6.out
              have He := Lib.hid (HEr.out _ hb6.out)
              obtain ⟨w7, hw7⟩ : ∃ w7, w7 = wq.drewN qa := ⟨_, rfl⟩
              rw [← hw7] at hb6 z0 z1 z2 z3 He ⊢
              clear hw7
              go_wp2_with fail
              refine He.out.mono ?_
              rintro e w8 ⟨rfl, hb8⟩
              obtain ⟨w9, hw9⟩ : ∃ w9, w9 = w8.alloc (.cells #[.int .u64 0, .int .u64 0, .bool false, .slice none 0 0] 36) := ⟨_, rfl⟩
              have hb9 : Below w8.heap.size w8 w9 := by rw [hw9]; exact (Below.refl _ _).alloc (Nat.le_refl _) _
              have Hb9 := Lib.hid (below_then hb6.out (below_then hb8 hb9))
              have Hw9 := Lib.hid hw9
              have Hg9 := Lib.hid (HGt.out w9 Hb9.out)
              clear hw9 hb9 hb8 He hb6 z0 z1 z2 z3
              go_wp2_with fail
              rw [← Hw9.out]
              refine Hg9.out.mono ?_
              rintro e w10 ⟨rfl, qb, rfl⟩
              have hb10 : Hid (Below wq.heap.size wq (w9.drewN qb)) := Lib.hid (bel_drewN Hb9.out qb)
              obtain ⟨w11, hw11⟩ : ∃ w11, w11 = w9.drewN qb := ⟨_, rfl⟩
              rw [← hw11] at hb10 ⊢
              obtain ⟨z0, z1, z2, z3⟩ := HKq.out _ hb10.out
              have Hs11 := Lib.hid (HSh.out _ hb10.out)
              clear hw11 hb10 Hg9 Hb9 HKq HSh HEr HGt
              go_wp2_with fail
              refine Hs11.out.mono ?_
              rintro e w12 ⟨rfl, hL⟩
              have HL12 := Lib.hid hL
              clear hL Hs11 z0 z1 z2 z3
              go_wp2
              go_roundg (g0 - 1)
              case measure => omega
              case rel => exact ⟨I1, rfl, by have := HI1.out; omega, HL12⟩
            · rcases (by omega : ¬ i < n2 ∨ (i < n2 ∧ ¬ (f i).n ≤ 1000)) with hi3 | ⟨hi3, hlen⟩
              · have q1 : ¬ (i : Int) < (n2 : Int) := by omega
                go_wp2
                go_roundg (g0 - 1)
                case measure => omega
                case rel => exact ⟨I1, rfl, by have := HI1.out; omega, by rw [HI1.out]; exact hI1⟩
              · have q1 : (i : Int) < (n2 : Int) := by omega
                have q2 : ¬ ((f i).n : Int) ≤ 1000 := by omega
                obtain ⟨b2, o2, rfl, hlt2, hcs⟩ := HS.out (by omega)
                obtain ⟨hx0, z0, z1, z2, z3⟩ := hcs i hi3
                have hbw : Below w0.heap.size w0 wr := by
                  obtain ⟨Fx2, Fy2, out2, t, ro, ho⟩ := hI1.out
                  exact t.below
                replace z3 := (hbw.cell (p := ⟨b2, o2 + i * 4 + 3, none⟩) hlt2).trans z3
                clear hx0 z0 z1 z2 hcs hbw
                generalize f i = fi at *
                go_wp2
                go_roundg (g0 - 1)
                case measure => omega
                case rel => exact ⟨I1, rfl, by have := HI1.out; omega, by rw [HI1.out]; exact hI1⟩
      · have hie : i = n := by omega
        subst hie
        obtain ⟨Fx1, Fy1, out1, t, ro, ho⟩ := hI0.out
        rw [List.take_of_length_le (by rw [Hn.out]; exact Nat.le_refl _)] at ho
        have hlo : out1.length = i := by
          have := congrArg List.length ho
          simpa [Hn.out] using this
        obtain ⟨Ao, co, hlv, hco⟩ := own_shape ro.own
        subst hlv
        have hpr := ro.prt rfl
        rw [ho] at hpr
        have HSL := Lib.hid (sameL_any Ao A out1.length co i c wr.heap.size w0.heap.size ls ls wr (by omega) (by omega) hpr (HP.out.below t.below))
        have HLe : Hid (∀ q, Calls Try.prog 16 #[.pointer (some ⟨gx, 0, none⟩)] (wr.drewN q) fun e w' => e = .returned (.int .i64 0) ∧ wr.drewN q = w') := Lib.hid fun q => sLeft_any (t.ps.below (bel_drewN (Below.refl _ _) q))
        have HBw : Hid (∀ q, Below w0.heap.size w0 (wr.drewN q)) := Lib.hid fun q => bel_drewN t.below q
        have Hlo := Lib.hid hlo
        clear t ro ho hpr hI0 hI hco hlo
        generalize out1.length = ol at *
        go_wp2_with fail
        refine HSL.out.mono ?_
        rintro e wz ⟨rfl, q, rfl⟩
        simp only [beq_self_eq_true]
        go_wp2_with fail
        refine (HLe.out q).mono ?_
        rintro e wy ⟨rfl, rfl⟩
        go_wp2_with fail
        refine (HKn.out _).mono ?_
        rintro e wx ⟨rfl, hbx⟩
        have HBx := Lib.hid ((HBw.out q).trans (hbx.mono (HBw.out q).size))
        clear hbx
        go_wp2
        go_ret
        exact ⟨rfl, HBx.out⟩

namespace sessLives
set_option maxRecDepth 100000 in
theorem lifted (os : Os) (started : os.Started) (H : Type) (enc : TypeId × Value → H) :
    ReturnsInHanded {} Try.checked os 3 .any (Rows.sessLivesSpec.pre6 enc Try.prog Try.f3 Rows.sessLivesRow.domain false) (Rows.sessLivesSpec.post enc Try.prog Try.f3 false true false false) := by
  refine law_lift started (by kernel_rfl) Try.func3
    (ChangeSpec.witness6 (enc := enc) (C := Try.checked) false ⟨#[], #[.slice none 0 0, .slice none 0 0, .int .u64 0], []⟩ 8 (by kernel_rfl) (by kernel_rfl) (by kernel_rfl) (by kernel_rfl))
    rfl ?_ (by kernel_rfl) (by kernel_rfl) ?_
  · intro ds h
    match ds, h with
    | [_, _, _], _ => rfl
  intro W base args ds p g
  have hA := g.trod
  have hval := g.val
  rw [Try.params3] at hA hval
  obtain ⟨v0, vs0, d0, ds0, p0, q0, hargs, rfl, rfl, h0, r0⟩ := trodAll_cons hA
  obtain ⟨v1, vs1, d1, ds1, p1, q1, rfl, rfl, rfl, h1, r1⟩ := trodAll_cons r0
  obtain ⟨v2, vs2, d2, ds2, p2, q2, rfl, rfl, rfl, h2, r2⟩ := trodAll_cons r1
  obtain ⟨rfl, rfl, rfl⟩ := trodAll_nil r2
  obtain rfl : args = #[v0, v1, v2] := by cases args; simp_all
  obtain ⟨A0, n0, c0, ls0, rfl, hc0, hm0, hr0⟩ := given_prt (hval 0 22 v0 rfl rfl) h0
  obtain ⟨A1, n1, c1, f1, rfl, hc1, hm1, hr1⟩ := given_sgs (hval 1 23 v1 rfl rfl) h1
  obtain ⟨a2, rfl, _, _, w2⟩ := open_int Try.underlying24 (hval 2 24 v2 rfl rfl) h2
  have b2 := bounds_u64 w2
  obtain ⟨m2, rfl⟩ := Int.eq_ofNat_of_zero_le b2.1
  exact sessLives_walk A0 n0 c0 ls0 A1 n1 c1 f1 m2 W hc0 hm0 hr0 hc1 hm1 hr1 (by omega)

theorem over : Rows.sessLivesRow.holds Try.pinned (OpenSpec.ofChange Rows.sessLivesSpec) :=
  OpenClaim.holds_of_wide 3 Try.f3 rfl rfl rfl rfl rfl rfl rfl ⟨rfl, rfl, rfl, rfl, rfl⟩ rfl rfl rfl rfl rfl (by kernel_rfl) Try.func3 (by kernel_rfl)
    (of_decide_eq_true (by kernel_rfl)) (by unfold Func.isWrapper; first | (rw [if_pos (by decide +kernel)]; kernel_rfl) | (rw [if_neg (by decide +kernel)]; exact ⟨rfl, rfl⟩))
    (fun os started H enc _ => lifted os started H enc)
end sessLives

theorem SessLives_proved : Rows.SessLivesSaid := sessLives.over
#print axioms SessLives_proved
end Go.Proofs.Ytfghbhjljbdlmab
