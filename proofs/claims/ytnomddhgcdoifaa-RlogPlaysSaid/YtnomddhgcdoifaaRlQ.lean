/- Layer 12, the program's log: Catch. -/
import Derived.Test.YtnomddhgcdoifaaRlL
import Derived.Test.YtnomddhgcdoifaaFam
namespace Go.Proofs.Ytnomddhgcdoifaa
open Go.RowKit

def CloneEs (w : World) (es : List Ene) (e : Ending) (w' : World) : Prop := ∃ A c, e = .returned (.slice A es.length c) ∧ w'.ownsRow w.heap.size 45 2 (.slice A es.length c) es.length (enC es) ∧ Below w.heap.size w w'
set_option maxRecDepth 100000 in
set_option maxHeartbeats 2000000 in
theorem eclones_any {w : World} {F : Nat → Prop} {A : Option Addr} {n c : Nat} {es : List Ene} (h : EnsR w F A n c es) (hn : n ≤ 1000000) :
    Calls Try.prog 31 #[.slice A n c] w (CloneEs w es) := by
  obtain ⟨i0, hi0, hz0, hz1, hz2⟩ := info_parts Try.infoEntry
  have q := fun (w : World) (a : Option Addr) (n c n' c' : Nat) => Lib.run_eql_slice_nil (P := Try.prog) w 49 45 a n c n' c' Try.underlying49
  have hl := h.len
  cases A with
  | none =>
    have hn0 := h.none_
    subst hn0
    obtain rfl : es = [] := List.eq_nil_of_length_eq_zero hl
    clear h
    go_enter Try.func31, Try.ntmps31
    go_wp2
    go_ret
    exact ⟨none, 0, rfl, World.ownsRow_nil _ _ _ _, Below.refl _ _⟩
  | some a =>
    have hb0 := (Below.refl w.heap.size w).alloc (Nat.le_refl _) (.cells #[] 45)
    have h' := h.below hb0
    have Hcells := Lib.hid h'.cellsP
    have Hl := Lib.hid hl
    clear hl h h'
    go_enter Try.func31, Try.ntmps31
    go_wp2_with (at_builtin; refine wpList_append_app _ rfl _ _ 49 rfl w.heap.size 45 i0 (.agg #[.int .u64 0, .slice none 0 0]) 2 32 Try.underlying49 hi0 hz0 hz1 hz2 rfl _ 0 [] rfl (World.ownsRow_made w #[] 0 (Nat.le_refl _) (Nat.zero_le _) rfl) (some a) n c (enC es) rfl (by rw [enC_len, Hl.out]) (by intro e; cases e) Hcells.out (enC_one es) (by unfold maxLen; omega) (by omega) (by simp) ?_)
    intro v' w1 ha
    have hb1 := ha.below hb0 (by simp) (by intro k hk; simp [Value.ownBlock] at hk; omega)
    have ho := ha.own
    rw [Nat.zero_add, List.nil_append] at ho
    obtain ⟨A', c', rfl, _⟩ := own_shape ho
    obtain rfl := Hl.out
    have HS := Lib.hid ho
    have HB := Lib.hid hb1
    clear Hcells ha ho hb0 hb1 Hl
    go_wp2
    go_ret
    exact ⟨A', c', rfl, HS.out, HB.out⟩
/-- Entries of the call's own, each body its own, all apart. -/
structure CatR (w : World) (base : Nat) (v : Value) (n : Nat) (es : List Ene) : Prop where
  own : w.ownsRow base 45 2 v n (enC es)
  fam : Fam w base (es.map fun e => s3W e.2) (es.map fun e => e.1.val)
  len : es.length = n
def CatE (w : World) (l : List En) (e : Ending) (w' : World) : Prop := ∃ A n c es, e = .returned (.slice A n c) ∧ CatR w' w.heap.size (.slice A n c) n es ∧ es.map (·.1) = l ∧ Below w.heap.size w w'
set_option maxRecDepth 100000 in
theorem ecatch_nil (f : Nat) (m : Int) (w : World) : Calls Try.prog 14 #[.pointer none, .int .u64 (f : Int), .int .i64 m] w fun e w' => e = .returned (.slice none 0 0) ∧ w = w' := by
  go_enter Try.func14, Try.ntmps14
  go_wp2
  go_ret
  exact ⟨rfl, rfl⟩
/-- Ahead of a round: so many are cloned. -/
structure CatL (w : World) (base : Nat) (v : Value) (n : Nat) (src news : List Ene) (i : Nat) (wr : World) : Prop where
  own : wr.ownsRow base 45 2 v n (enC (news ++ src.drop i))
  fam : Fam wr base (news.map fun e => s3W e.2) (news.map fun e => e.1.val)
  len : news.length = i
  vals : news.map (·.1) = (src.map (·.1)).take i
  bel : Below base w wr
theorem Fam.kpE {w w' : World} {base : Nat} {vals : List Value} {ls : List (List UInt8)} {F : Nat → Prop} (h : Fam w base vals ls) (hk : Kp F w w') (hd : ∀ (i : Nat) (v : Value), vals[i]? = some v → ∀ k, v.ownBlock = some k → ¬ F k) : Fam w' base vals ls :=
  ⟨h.len, fun i v hv => own_kp (h.each i v hv) hk (hd i v hv), h.apart⟩
theorem set_mid (news src : List Ene) (i : Nat) (x : Ene) (hn : news.length = i) (hi : i < src.length) : (news ++ src.drop i).set i x = (news ++ [x]) ++ src.drop (i + 1) := by
  subst hn
  rw [List.set_append_right _ _ (Nat.le_refl _), Nat.sub_self, List.drop_eq_getElem_cons hi, List.set_cons_zero, List.append_assoc]
  rfl
set_option maxRecDepth 100000 in
set_option maxHeartbeats 4000000 in
theorem ecatch_any {w : World} {F : Nat → Prop} {g : Nat} {p : Rl} (h : PL w F g p) (f : Nat) (hf : f < 18446744073709551616) (m : Int) (hm : m ≤ 9223372036854775807) : Calls Try.prog 14 #[.pointer (some ⟨g, 0, none⟩), .int .u64 (f : Int), .int .i64 m] w (CatE w (p.run f m.toNat)) := by
  obtain ⟨A, N, c, es, hbk, hrow, heq, hNp, hok, hFg, hlt⟩ := h
  have hel : N = es.length := by rw [hNp, ← heq, List.length_map]
  have hN4 := hok.len
  rw [← hNp] at hN4
  have c1 : w.cell? ⟨g, 1, none⟩ = some (.slice A N c) := hbk.cell 1
  have HR := Lib.hid (erun_any hrow (by rw [heq]; exact hok.rise) (by omega) (fun e he => (hok.slot e.1 (by rw [← heq]; exact List.mem_map_of_mem he)).2) f hf m hm)
  rw [heq] at HR
  change Hid (Calls _ _ _ _ (RunE F (p.run f m.toNat) w)) at HR
  have hrl : (p.run f m.toNat).length ≤ 1000000 := by
    have h2 := (runL_facts m.toNat f (p.row.drop (findE f p.row))).2.1
    have h3 : (p.row.drop (findE f p.row)).length ≤ p.row.length := by rw [List.length_drop]; omega
    unfold Rl.run
    omega
  have hrv : ∀ e ∈ p.run f m.toNat, e.val.length ≤ 1000000 := fun e he => by
    have h5 := (runL_facts m.toNat f (p.row.drop (findE f p.row))).2.2.2.2
    unfold Rl.run at he
    rw [h5] at he
    have := hok.val e ((List.drop_sublist _ _).subset ((List.take_sublist _ _).subset he))
    omega
  have Hlt := Lib.hid hlt
  generalize p.run f m.toNat = rl at *
  clear hbk hrow heq hNp hok hFg hlt hel
  go_enter Try.func14, Try.ntmps14
  go_wp2_with fail
  refine HR.out.mono ?_
  rintro e w2 ⟨A2, n2, c2, es2, rfl, hE, rfl, hb2⟩
  have hl2 := hE.len
  rw [List.length_map, hl2] at hrl
  have HCl := Lib.hid (eclones_any hE hrl)
  have HB2 := Lib.hid hb2
  have HSrc : Hid (∀ W, Below w2.heap.size w2 W → ∀ i (hi : i < es2.length), Rd W W.heap.size es2[i].2.1 es2[i].2.2.1 es2[i].1.val ∧ es2[i].1.val.length ≤ 1000000) := Lib.hid fun W hb i hi => ⟨((hE.each _ (List.getElem_mem hi)).below hb).rd, hrv _ (List.mem_map_of_mem (List.getElem_mem hi))⟩
  have Hl2 := Lib.hid hl2
  clear hE hb2 HR hrv
  go_wp2_with fail
  refine HCl.out.mono ?_
  rintro e w3 ⟨A3, c3, rfl, ho3, hb3⟩
  rw [hl2] at ho3 ⊢
  have HL0 : Hid (∃ news, CatL w2 w2.heap.size (.slice A3 n2 c3) n2 es2 news 0 w3) := Lib.hid ⟨[], by simpa using ho3, Fam.nil _ _, rfl, rfl, hb3⟩
  have Hs3 : Hid (w2.heap.size ≤ w3.heap.size ∧ n2 ≤ 1000000) := Lib.hid ⟨hb3.size, hrl⟩
  clear ho3 hb3 HCl hl2
  go_wp2
  go_loopg [22] n2 (fun gk a wr => ∃ i : Nat, a = .int .i64 (i : Int) ∧ i + gk = n2 ∧ Hid (∃ news, CatL w2 w2.heap.size (.slice A3 n2 c3) n2 es2 news i wr))
  case atStart => exact ⟨0, rfl, by omega, HL0⟩
  case round =>
    obtain ⟨i, rfl, hig, HL⟩ := hrel
    by_cases hi : i < n2
    · obtain ⟨news, hL⟩ := HL.out
      have hie : i < es2.length := by rw [Hl2.out]; exact hi
      obtain ⟨R, rfl⟩ : ∃ R, A3 = some ⟨R, 0, none⟩ := by
        rcases hL.own.2 with ⟨_, h0⟩ | ⟨g, cap, cur, hv, _⟩
        · omega
        · injection hv with hv _ _; exact ⟨g, hv⟩
      have hlen : (news ++ es2.drop i).length = n2 := by rw [List.length_append, List.length_drop, hL.len, Hl2.out]; omega
      have hget : (news ++ es2.drop i)[i]'(by omega) = es2[i] := by
        rw [List.getElem_append_right (by rw [hL.len]; exact Nat.le_refl _)]
        simp [hL.len]
      have q := fun j (hj : j < 2) u (hu : (enE es2[i])[j]? = some u) => hL.own.cells (g := R) rfl (i * 2 + j) u (by rw [enC_at _ i j (by omega) hj, hget]; exact hu)
      have q0 := q 0 (by omega) _ rfl
      have q1 := q 1 (by omega) _ rfl
      rw [Addr.add_lit, Nat.zero_add] at q0 q1
      rw [Nat.add_zero] at q0
      have hRl : R < wr.heap.size := (hL.own.lt R rfl).2
      obtain ⟨hsrc, hvl⟩ := HSrc.out wr hL.bel i hie
      have HLL := Lib.hid hL
      obtain ⟨v, hv⟩ : ∃ v, v = es2[i].1 := ⟨_, rfl⟩
      obtain ⟨s, hs⟩ : ∃ s, s = es2[i].2 := ⟨_, rfl⟩
      rw [← hv] at q0 hsrc hvl
      rw [← hs] at q1 hsrc
      have HVS : Hid (∀ hi : i < es2.length, v = es2[i].1) := Lib.hid fun _ => hv
      obtain ⟨w4, hw4⟩ : ∃ w4, w4 = wr.alloc (.cells #[.int .u64 (v.slot : Int), s3W s] 45) := ⟨_, rfl⟩
      have hk4 : Bk w4 wr.heap.size 45 #[.int .u64 (v.slot : Int), s3W s] := by rw [hw4]; exact Bk.new wr _ _
      have hb4 : Below wr.heap.size wr w4 := by rw [hw4]; exact bel1L wr _
      have HCn := Lib.hid (eclone_any v s (hsrc.up hb4) hvl)
      have z0 : w4.cell? ⟨wr.heap.size, 0, none⟩ = some (.int .u64 (v.slot : Int)) := hk4.cell 0
      have z1 : w4.cell? ⟨wr.heap.size, 1, none⟩ = some (s3W s) := hk4.cell 1
      have HW4 := Lib.hid hw4
      have HB4 := Lib.hid hb4
      have m1 : (i : Int) < (n2 : Int) := by omega
      have m0 : ¬ (i : Int) < 0 := by omega
      have e5 : IntKind.i64.wrap ((i : Int) + 1) = ((i + 1 : Nat) : Int) := by rw [IntKind.wrap_i64]; have := Hs3.out.2; omega
      clear hlen hget q hL hsrc hv hs hw4 hk4 hb4 hie HL
      obtain ⟨sA, sN, sC⟩ := s
      unfold enV at HCn
      unfold s3W at q1 HCn z1 HW4
      dsimp only at q1 HCn z1 HW4
      go_upto_region 7 with (fail)
      rw [← HW4.out]
      go_wp2_with fail
      refine HCn.out.mono ?_
      rintro e w5 ⟨⟨s5A, s5N, s5C⟩, rfl, ho5, hb5⟩
      have hb45 := below_then HB4.out hb5
      have hfam5 := HLL.out.fam.push (v := s3W (s5A, s5N, s5C)) (l := v.val) hb45 (own_mono ho5 HB4.out.size) (by have := Hs3.out.1; exact HLL.out.bel.size)
      have hrow5 := own_below HLL.out.own hb45 fun k e => (HLL.out.own.lt k e).2
      have hx0 := own_there hrow5 (i * 2) 2 (by omega)
      have f0 := (hx0 0 (by omega)).2
      have f1 := (hx0 1 (by omega)).2
      obtain ⟨y0, hy0⟩ := Option.isSome_iff_exists.1 (hx0 0 (by omega)).1
      obtain ⟨y1, hy1⟩ := Option.isSome_iff_exists.1 (hx0 1 (by omega)).1
      rw [Nat.add_zero] at f0 hy0
      have HN : Hid (∃ news, CatL w2 w2.heap.size (.slice (some ⟨R, 0, none⟩) n2 c3) n2 es2 news (i + 1) ((w5.setCell ⟨R, i * 2, none⟩ (.int .u64 (v.slot : Int))).setCell ⟨R, i * 2 + 1, none⟩ (.slice s5A s5N s5C))) := Lib.hid (by
        have hie : i < es2.length := by rw [Hl2.out]; exact hi
        have hsets : (w5.setCell ⟨R, i * 2, none⟩ (.int .u64 (v.slot : Int))).setCell ⟨R, i * 2 + 1, none⟩ (.slice s5A s5N s5C) = w5.setCells R (i * 2) (enE (v, (s5A, s5N, s5C))) := rfl
        rw [hsets]
        have hk : Kp (fun j => j = R) w5 (w5.setCells R (i * 2) (enE (v, (s5A, s5N, s5C)))) := Kp.sets (F := fun j => j = R) rfl _ _ _
        have hlen : (news ++ es2.drop i).length = n2 := by rw [List.length_append, List.length_drop, HLL.out.len, Hl2.out]; omega
        have hown := own_sets hrow5 (i * 2) (enE (v, (s5A, s5N, s5C))) (by show i * 2 + 2 ≤ n2 * 2; omega)
        rw [show over (enC (news ++ es2.drop i)) (i * 2) (enE (v, (s5A, s5N, s5C))) = enC ((news ++ es2.drop i).set i (v, (s5A, s5N, s5C))) from flat_set (s := 2) _ (fun _ _ => rfl) i _ (by omega) rfl, set_mid _ _ _ _ HLL.out.len hie] at hown
        refine ⟨news ++ [(v, (s5A, s5N, s5C))], hown, ?_, by simp [HLL.out.len], ?_, HLL.out.bel.trans ((hb45.mono HLL.out.bel.size).trans ?_)⟩
        · have := hfam5.kpE hk fun j u hu k e1 e2 => by
            have := hfam5.each j u hu
            rcases own_types_ne this hrow5 (by decide) with h' | h'
            · rw [h'] at e1; cases e1
            · exact h' (by rw [e1, e2]; rfl)
          simpa using this
        · rw [List.map_append, HLL.out.vals, List.map_cons, List.map_nil, HVS.out hie, List.take_succ_eq_append_getElem (by rw [List.length_map]; exact hie)]
          simp
        · exact hk.below (fun k e => by rw [e]; exact (HLL.out.own.lt R rfl).1) (by have := HLL.out.bel.size; have := hb45.size; omega))
      clear hb45 hfam5 hrow5 hx0 ho5 hb5 q0 q1 z0 z1
      unfold enV s3W
      dsimp only
      go_wp2
      go_roundg (gk - 1)
      case measure => omega
      case rel => exact ⟨i + 1, by go_num, by omega, HN⟩
    · obtain rfl : i = n2 := by omega
      have m1 : ¬ (i : Int) < (i : Int) := by omega
      go_wp2
      go_ret
      obtain ⟨news, hL⟩ := HL.out
      have hd : es2.drop i = [] := List.drop_of_length_le (by rw [Hl2.out]; exact Nat.le_refl _)
      have ho := hL.own
      rw [hd, List.append_nil] at ho
      have hbase := HB2.out.size
      refine ⟨A3, i, c3, news, rfl, ⟨own_mono ho hbase, ⟨hL.fam.len, fun j u hu => own_mono (hL.fam.each j u hu) hbase, hL.fam.apart⟩, hL.len⟩, ?_, below_then HB2.out hL.bel⟩
      rw [hL.vals, List.take_of_length_le (by rw [List.length_map, Hl2.out]; exact Nat.le_refl _)]
end Go.Proofs.Ytnomddhgcdoifaa
