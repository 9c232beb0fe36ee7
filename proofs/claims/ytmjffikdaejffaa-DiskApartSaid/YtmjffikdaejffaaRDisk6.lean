/- The document's Disk: New, Clone. -/
import Derived.Test.YtmjffikdaejffaaRDisk5
import Derived.BigRegion
namespace Go.Proofs.Ytmjffikdaejffaa
open Go.RowKit

set_option maxHeartbeats 1000000 in
theorem blank_any (w : World) : Calls Try.prog 28 #[] w fun e w' => e = .returned (strV (List.replicate 32 0)) ∧ Below w.heap.size w w' := by
  obtain ⟨i0, hi0, hz0, hz1, hz2⟩ := info_parts Try.infoU8R
  have hmk : ∀ W : World, (Instr.makeSlice 37 (.int .i64 32) (.int .i64 32)).run Try.prog W = .ok (.slice (some ⟨W.heap.size, 0, none⟩) 32 32) (W.alloc (.cells (Array.replicate 32 (.int .u8 0)) 5)) := fun W => by
    have h := run_make (P := Try.prog) W 37 5 i0 (.int .u8 0) Try.underlying37 hi0 hz0 .i64 .i64 32 32 (by omega) (by omega) (by rw [hz2]; omega) (by omega)
    rw [hz1] at h
    have e : madeCells (Value.int .u8 0).cells (Int.toNat 32 * 1) = Array.replicate 32 (.int .u8 0) := by
      apply Array.toList_inj.1
      rw [show (Value.int .u8 0).cells = #[Value.int .u8 0] from rfl, toList_madeCells_one]
      simp
    rw [e] at h
    exact h
  have hrd : Rd (w.alloc (.cells (Array.replicate 32 (.int .u8 0)) 5)) (w.heap.size + 1) (some ⟨w.heap.size, 0, none⟩) 32 (List.replicate 32 0) := by
    refine ⟨List.length_replicate, fun _ => ⟨_, 0, rfl, by omega, fun j hj => ?_⟩⟩
    have hj' : j < 32 := by simpa using hj
    rw [(Bk.new w 5 (Array.replicate 32 (.int .u8 0))).cell]
    rw [Nat.zero_add, List.getElem_replicate, Array.getElem?_replicate, if_pos hj']
    rfl
  have hcv := hrd.str (P := Try.prog) Try.underlying37 Try.underlying5 Try.underlying9 32
  clear hrd hi0 hz0 hz1 hz2
  have hb := (Below.refl w.heap.size w).alloc (Nat.le_refl _) (.cells (Array.replicate 32 (.int .u8 0)) 5)
  have Hb := Lib.hid hb
  clear hb
  generalize (List.replicate 32 (0 : UInt8)) = l at *
  go_enter Try.func28, Try.ntmps28
  go_wp2
  go_ret
  exact ⟨rfl, Hb.out⟩

theorem DR.newSafe {w w1 : World} {F : Nat → Prop} {M : Nat} {sv sv' : Value} {safe safe' : List (List UInt8)} {left : Int} {down : Bool} (h : DR w F M sv (.slice none 0 0) safe [] left down) (hk : Kp (fun k => sv.ownBlock = some k) w w1) (ho : w1.ownsRow 0 9 1 sv' safe'.length (safe'.map strV))
    (hb : sv'.ownBlock = sv.ownBlock ∨ ∀ k, sv'.ownBlock = some k → w.heap.size ≤ k) (hr : ∀ x ∈ safe', x.length = 32) :
    DR (w1.setCell ⟨M, 0, none⟩ sv') (fun k => F k ∨ sv'.ownBlock = some k) M sv' (.slice none 0 0) safe' [] left down ∧ Mv F (fun k => F k ∨ sv'.ownBlock = some k) w (w1.setCell ⟨M, 0, none⟩ sv') := by
  have hk2 : Kp (· = M) w1 (w1.setCell ⟨M, 0, none⟩ sv') := Kp.set_ (F := (· = M)) (p := ⟨M, 0, none⟩) rfl _
  have hlt := ho.lt
  have hne : ∀ k, sv'.ownBlock = some k → k ≠ M := fun k e => by
    rcases hb with hb | hb
    · rw [hb] at e; exact h.sne k e
    · have h0 := hb k e
      have h1 := h.lt M h.foot.1
      omega
  have hkk : Kp F w (w1.setCell ⟨M, 0, none⟩ sv') := (hk.mono (fun k e => h.foot.2.1 k e)).trans (hk2.mono fun k e => by rw [e]; exact h.foot.1)
  refine ⟨{ blk := ?_, rsafe := own_kp ho hk2 fun k e => hne k e, rwaits := World.ownsRow_nil _ _ _ _, srow := hr, wrow := (by intro x hx; cases hx), sne := hne, wne := (by intro k hk; simp [Value.ownBlock] at hk), foot := ⟨.inl h.foot.1, fun k e => .inr e, by intro k hk; simp [Value.ownBlock] at hk⟩, lt := ?_ }, ⟨hkk, ?_⟩⟩
  · have := (h.blk.kp hk fun e => h.sne M e rfl).set_ 0 sv'
    simpa using this
  · rintro k (hf | e)
    · exact Nat.lt_of_lt_of_le (h.lt k hf) hkk.size
    · exact Nat.lt_of_lt_of_le (hlt k e).2 hk2.size
  · rintro k (hf | e)
    · exact .inl hf
    · rcases hb with hb | hb
      · rw [hb] at e; exact .inl (h.foot.2.1 k e)
      · exact .inr (hb k e)

def MadeR (d : Dk) (w : World) (e : Ending) (w' : World) : Prop := ∃ g F, e = .returned (.tuple #[.pointer (some ⟨g, 0, none⟩), .int .i64 0]) ∧ RD w' F g d ∧ (∀ k, F k → w.heap.size ≤ k) ∧ Below w.heap.size w w'
theorem rep_snoc {α : Type} (j : Nat) (x : α) : List.replicate j x ++ [x] = List.replicate (j + 1) x := List.replicate_succ'.symm
set_option maxRecDepth 100000 in
set_option maxHeartbeats 4000000 in
theorem rnew_any (n : Nat) (w : World) (h1 : 1 ≤ n) (h2 : n ≤ 2048) :
    Calls Try.prog 11 #[.int .i64 n] w (MadeR (Dk.new n) w) := by
  obtain ⟨i0, hi0, hz0, hz1, hz2⟩ := info_parts Try.infoStr
  obtain ⟨z, hz⟩ : ∃ z, strV (List.replicate 32 0) = .string z := ⟨_, rfl⟩
  have HBl : Hid (∀ W, Calls Try.prog 28 #[] W fun e w' => e = .returned (.string z) ∧ Below W.heap.size W w') := fun W => by rw [← hz]; exact blank_any W
  have Hz := Lib.hid hz
  clear hz
  have Hi0 := Lib.hid hi0
  have Hz0 := Lib.hid hz0
  have Hz1 := Lib.hid hz1
  have Hz2 := Lib.hid hz2
  have HD0 : Hid (DR (w.alloc (.cells #[.slice none 0 0, .slice none 0 0, .int .i64 (-1), .bool false] 66)) (fun k => k = w.heap.size) w.heap.size (.slice none 0 0) (.slice none 0 0) [] [] (-1) false) :=
    { blk := Bk.new w _ _, rsafe := World.ownsRow_nil _ _ _ _, rwaits := World.ownsRow_nil _ _ _ _, srow := (by intro x hx; cases hx), wrow := (by intro x hx; cases hx), sne := (by intro k hk; simp [Value.ownBlock] at hk), wne := (by intro k hk; simp [Value.ownBlock] at hk), foot := ⟨rfl, by intro k hk; simp [Value.ownBlock] at hk, by intro k hk; simp [Value.ownBlock] at hk⟩, lt := by rintro k rfl; simp }
  have HB0 := Lib.hid ((Below.refl w.heap.size w).alloc (Nat.le_refl _) (.cells #[.slice none 0 0, .slice none 0 0, .int .i64 (-1), .bool false] 66))
  clear hi0 hz0 hz1 hz2
  go_enter Try.func11, Try.ntmps11
  go_wp2
  generalize w.alloc (.cells #[.slice none 0 0, .slice none 0 0, .int .i64 (-1), .bool false] 66) = W0 at *
  generalize hM : w.heap.size = M at *
  have HM := Lib.hid hM
  clear hM
  go_loopg [5] n (fun k i wr => ∃ (j : Nat), i = .int .i64 j ∧ j + k = n ∧ Hid (∃ F sv, DR wr F M sv (.slice none 0 0) (List.replicate j (List.replicate 32 0)) [] (-1) false ∧ (∀ k, F k → M ≤ k) ∧ Below M w wr ∧ M < wr.heap.size))
  case atStart => exact ⟨0, rfl, by omega, ⟨_, _, HD0.out, by rintro k rfl; exact Nat.le_refl _, HB0.out, HD0.out.lt _ rfl⟩⟩
  case round =>
    clear HD0 HB0
    obtain ⟨j, rfl, hk, HR⟩ := hrel
    obtain ⟨F, sv, hr, hge, hbel, hlt⟩ := HR.out
    by_cases hj : j < n
    · have hlen : (List.replicate j (List.replicate 32 (0 : UInt8))).length = j := List.length_replicate
      have c0 : wr.cell? ⟨M, 0, none⟩ = some sv := hr.blk.cell 0
      have f0 := hr.blk.frozen 0
      have HR1 := Lib.hid hr
      have Hge := Lib.hid hge
      have Hbel := Lib.hid hbel
      clear hr hge hbel HR hlt
      go_wp2
      have hbd : Hid (∀ w2, Below wr.heap.size wr.drew w2 → DR w2 F M sv (.slice none 0 0) (List.replicate j (List.replicate 32 0)) [] (-1) false ∧ Below M w w2 ∧ wr.heap.size ≤ w2.heap.size) := fun w2 hb =>
        ⟨(HR1.out.drewN 1).below hb, Hbel.out.trans ((bel_drewN (Below.refl _ _) 1).trans (hb.mono (Nat.le_of_lt (HR1.out.lt M HR1.out.foot.1)))), hb.size⟩
      go_region_law (first | ((refine step_append_app _ rfl _ _ 63 (by rfl) 0 9 i0 (.string ByteArray.empty) 1 16 Try.underlying63 Hi0.out Hz0.out Hz1.out Hz2.out rfl sv j _ (by rfl) (Hown.out (.cells #[.string z] 9)) (some ⟨w2.heap.size, 0, none⟩) 1 1 [.string z] (by rfl) rfl (by intro e; cases e) (one_new _ _ _ rfl) (by intro u hu; simp at hu; subst hu; rfl) (by unfold maxLen; omega) (by omega) (by simp) ?_); intro v' w3 happ; (have hk3 : Kp (fun k => sv.ownBlock = some k) _ w3 := Kp.of_row happ.grow (fun g e => e)); (have kb := (Hd2.out.alloc (.cells #[.string z] 9)).blk.kp hk3 (fun e => Hd2.out.sne M e rfl)); (have k2 := kb.cell 0); (have kf := kb.frozen 0); (obtain ⟨Av, cv, rfl, _⟩ := own_shape happ.own)) | (go_simp; go_at_call 28; (refine (HBl.out _).mono ?_; rintro e w2 ⟨rfl, hbl⟩; (have hx := hbd.out w2 hbl); (have Hd2 := Lib.hid hx.1); (have Hb2 := Lib.hid hx.2); (have Hown : Hid (∀ o, (w2.alloc o).ownsRow 0 9 1 sv j ((List.replicate j (List.replicate 32 (0 : UInt8))).map strV)) := fun o => by have := (Hd2.out.alloc o).rsafe; rwa [hlen] at this); (have c0b : w2.cell? ⟨M, 0, none⟩ = some sv := Hd2.out.blk.cell 0); (have c0c : ∀ o, (w2.alloc o).cell? ⟨M, 0, none⟩ = some sv := fun o => (Hd2.out.alloc o).blk.cell 0); clear hx hbl)))
      all_goals
        have hrl : (List.replicate j (List.replicate 32 (0 : UInt8)) ++ [List.replicate 32 0]) = List.replicate (j + 1) (List.replicate 32 0) := (rep_snoc j _)
        have ho : w3.ownsRow 0 9 1 (.slice Av (j + 1) cv) (List.replicate (j + 1) (List.replicate 32 (0 : UInt8))).length ((List.replicate (j + 1) (List.replicate 32 (0 : UInt8))).map strV) := by
          rw [← hrl, List.map_append, List.map_singleton, Hz.out, List.length_append, hlen]
          exact happ.own
        obtain ⟨hpr, hmv⟩ := (Hd2.out.alloc (.cells #[.string z] 9)).newSafe hk3 ho (by
          rcases happ.block with h | h
          · exact .inl h
          · exact .inr fun k e => by rw [h] at e; injection e with e; rw [← e]; exact Nat.le_refl _) (fun x hx => by rw [List.eq_of_mem_replicate hx, List.length_replicate])
        have hMlt := Hd2.out.lt M Hd2.out.foot.1
        have hb2 := Hb2.out
        have HF : Hid (∃ F sv, DR (w3.setCell ⟨M, 0, none⟩ (.slice Av (j + 1) cv)) F M sv (.slice none 0 0) (List.replicate (j + 1) (List.replicate 32 0)) [] (-1) false ∧ (∀ k, F k → M ≤ k) ∧ Below M w (w3.setCell ⟨M, 0, none⟩ (.slice Av (j + 1) cv)) ∧ M < (w3.setCell ⟨M, 0, none⟩ (.slice Av (j + 1) cv)).heap.size) := by
          refine ⟨_, _, hpr, hmv.ge (by simp; omega) Hge.out, (hb2.1.alloc (Nat.le_of_lt hMlt) _).trans (hmv.kp.below Hge.out (by simp; omega)), hpr.lt M hpr.foot.1⟩
        clear happ hk3 kb k2 kf ho hpr hmv c0b c0c c0 f0 hrl hb2 hMlt Hb2 Hd2 Hown hbd HR1
        go_wp2
        go_roundg (gk - 1)
        case measure => omega
        case rel => exact ⟨j + 1, by go_num, by omega, HF.out⟩
    · obtain rfl : j = n := by omega
      have HF : Hid (RD wr F M (Dk.new j) ∧ (∀ k, F k → M ≤ k) ∧ Below M w wr) := by
        refine ⟨⟨sv, .slice none 0 0, hr, by simp [Dk.new], by simp [Dk.new], by simp [Dk.new]; exact h1, by simp [Dk.new]; exact h2⟩, hge, hbel⟩
      have hz : w.heap.size = M := HM.out
      clear hr hge hbel HR hlt
      subst hz
      go_wp2
      go_ret2
      exact (⟨_, F, rfl, HF.out⟩ : MadeR _ w _ wr)
theorem rnew_bad (n : Int) (w : World) (h : n < 1 ∨ 2048 < n) :
    Calls Try.prog 11 #[.int .i64 n] w fun e w' => e = .returned (.tuple #[.pointer none, .int .i64 2]) ∧ w = w' := by
  by_cases h1 : n < 1
  · go_enter Try.func11, Try.ntmps11
    go_wp2
    go_ret2
    exact ⟨rfl, rfl⟩
  · have h2 : 2048 < n := by omega
    clear h
    go_enter Try.func11, Try.ntmps11
    go_wp2
    go_ret2
    exact ⟨rfl, rfl⟩

set_option maxRecDepth 100000 in
set_option maxHeartbeats 4000000 in
theorem rclone_meth (M : Nat) (d : Dk) (F : Nat → Prop) (w : World) (hwl : d.waits.length ≤ 1000000000) (h : RD w F M d) :
    Calls Try.prog 25 #[.pointer (some ⟨M, 0, none⟩)] w fun e w' => ∃ M' F', e = .returned (.pointer (some ⟨M', 0, none⟩)) ∧ RD w' F' M' d ∧ (∀ k, F' k → w.heap.size ≤ k) ∧ Below w.heap.size w w' := by
  have hlen := h.len
  obtain ⟨sv, wv, hr, hrest⟩ := h
  obtain ⟨ms, cs, rfl⟩ := own_someR hr.rsafe (by omega)
  obtain ⟨Aw, cw, rfl, _⟩ := own_shape hr.rwaits
  have c2 : w.cell? ⟨M, 2, none⟩ = some (.int .i64 d.left) := hr.blk.cell 2
  have c3 : w.cell? ⟨M, 3, none⟩ = some (.bool d.down) := hr.blk.cell 3
  have HR := Lib.hid hr
  have Hrest := Lib.hid hrest
  clear hr hrest
  go_enter Try.func25, Try.ntmps25
  go_wp2
  go_still_tail 9, (by kernel_rfl)
  change wpList _ _ _ _ _ w.drew
  have HB0 := Lib.hid (Bk.new w.drew 66 #[.slice none 0 0, .slice none 0 0, .int .i64 d.left, .bool d.down])
  have HR0 := Lib.hid ((HR.out.drewN 1).alloc (.cells #[.slice none 0 0, .slice none 0 0, .int .i64 d.left, .bool d.down] 66))
  have HBel := Lib.hid ((bel_drewN (Below.refl w.heap.size w) 1).alloc (Nat.le_refl _) (.cells #[.slice none 0 0, .slice none 0 0, .int .i64 d.left, .bool d.down] 66))
  have HNF : Hid (∀ k, F k → ¬ k = w.heap.size) := fun k hk e => by have := HR.out.lt k hk; omega
  have Hz : Hid ((w.drew.alloc (.cells #[.slice none 0 0, .slice none 0 0, .int .i64 d.left, .bool d.down] 66)).heap.size = w.heap.size + 1) := by show _ = _; simp
  clear c2 c3
  go_wp2
  have HB0 : Hid (Bk (w.alloc (.cells #[.slice none 0 0, .slice none 0 0, .int .i64 d.left, .bool d.down] 66)).drew w.heap.size 66 #[.slice none 0 0, .slice none 0 0, .int .i64 d.left, .bool d.down]) := HB0
  have HR0 : Hid (DR (w.alloc (.cells #[.slice none 0 0, .slice none 0 0, .int .i64 d.left, .bool d.down] 66)).drew F M (.slice (some ⟨ms, 0, none⟩) d.safe.length cs) (.slice Aw d.waits.length cw) d.safe d.waits d.left d.down) := ⟨HR0.out.blk, HR0.out.rsafe, HR0.out.rwaits, HR0.out.srow, HR0.out.wrow, HR0.out.sne, HR0.out.wne, HR0.out.foot, HR0.out.lt⟩
  have HBel : Hid (Below w.heap.size w (w.alloc (.cells #[.slice none 0 0, .slice none 0 0, .int .i64 d.left, .bool d.down] 66)).drew) := ⟨HBel.out.os, HBel.out.tape, HBel.out.output, HBel.out.size, HBel.out.block⟩
  have Hz : Hid ((w.alloc (.cells #[.slice none 0 0, .slice none 0 0, .int .i64 d.left, .bool d.down] 66)).drew.heap.size = w.heap.size + 1) := Hz
  generalize (w.alloc (.cells #[.slice none 0 0, .slice none 0 0, .int .i64 d.left, .bool d.down] 66)).drew = W1 at *
  obtain ⟨i0, hi0, hz0, hz1, hz2⟩ := info_parts Try.infoStr
  have Hi0 := Lib.hid hi0
  have Hz0 := Lib.hid hz0
  have Hz1 := Lib.hid hz1
  have Hz2 := Lib.hid hz2
  obtain ⟨iw, hiw, hzw, hsw, hbw⟩ := info_parts Try.infoPut
  have Hiw := Lib.hid hiw
  have Hzw := Lib.hid hzw
  have Hsw := Lib.hid hsw
  have Hbw := Lib.hid hbw
  have a0 : W1.cell? ⟨w.heap.size, 0, none⟩ = some (.slice none 0 0) := HB0.out.cell 0
  have a1 : W1.cell? ⟨M, 0, none⟩ = some (.slice (some ⟨ms, 0, none⟩) d.safe.length cs) := HR0.out.blk.cell 0
  have Hcells : Hid (∀ ad, (some ⟨ms, 0, none⟩ : Option Addr) = some ad → ∀ j u, (d.safe.map strV)[j]? = some u → W1.drew.cell? (ad.add j) = some u) := by
    intro ad e j u hu
    obtain rfl := Option.some.inj e
    exact HR0.out.rsafe.cells (g := ms) rfl j u hu
  have Hone : Hid (∀ u ∈ d.safe.map strV, u.oneCell' = true) := by
    intro u hu
    obtain ⟨x, _, rfl⟩ := List.mem_map.1 hu
    rfl
  have Hlen : Hid ((d.safe.map strV).length = d.safe.length * 1) := by show _ = _; simp
  clear hi0 hz0 hz1 hz2 hiw hzw hsw hbw
  have HB1 : Hid (Bk W1.drew w.heap.size 66 #[.slice none 0 0, .slice none 0 0, .int .i64 d.left, .bool d.down]) := HB0
  have HR1 : Hid (DR W1.drew F M (.slice (some ⟨ms, 0, none⟩) d.safe.length cs) (.slice Aw d.waits.length cw) d.safe d.waits d.left d.down) := HR0.out.drewN 1
  have HBel1 : Hid (Below w.heap.size w W1.drew) := bel_drewN HBel.out 1
  have Hz1' : Hid (W1.drew.heap.size = w.heap.size + 1) := Hz
  have h63 : 0 + d.safe.length ≤ maxLen := by unfold maxLen; omega
  have hby : (0 + d.safe.length) * 16 ≤ 140737488355328 := by omega
  go_region_law ((refine step_append_app _ rfl _ _ 63 (by rfl) W1.drew.heap.size 9 i0 (.string ByteArray.empty) 1 16 Try.underlying63 Hi0.out Hz0.out Hz1.out Hz2.out rfl (.slice none 0 0) 0 [] (by rfl) (World.ownsRow_nil _ _ _ _) (some ⟨ms, 0, none⟩) d.safe.length cs (d.safe.map strV) (by rfl) Hlen.out (by intro e; cases e) Hcells.out Hone.out h63 hby (Nat.le_refl _) ?_); intro v' w3 happ; (have ho := happ.own); (have hbl : Below W1.drew.heap.size W1.drew w3 := happ.below (Below.refl _ _) (Nat.le_refl _) (by intro k hk; simp [Value.ownBlock] at hk)); (have HB3 := Lib.hid (HB1.out.below hbl HB1.out.lt)); (have k1 := HB3.out.cell 0); (have f1 := HB3.out.frozen 0); (obtain ⟨Ks, cs', rfl, _⟩ := own_shape ho))
  all_goals
    rw [Nat.zero_add, List.nil_append] at ho
    obtain ⟨ks, cs2, he⟩ := own_someR ho (by omega)
    have hks := fun e => (ho.lt ks e)
    simp only [Nat.zero_add] at *
    obtain ⟨rfl, rfl⟩ : Ks = some ⟨ks, 0, none⟩ ∧ cs' = cs2 := by injection he with e1 _ e3; exact ⟨e1, e3⟩
    have hks := hks rfl
    have HR4 := Lib.hid ((HR1.out.below hbl).kp (Kp.set_ (F := fun k => k = w.heap.size) (p := ⟨w.heap.size, 0, none⟩) rfl (.slice (some ⟨ks, 0, none⟩) d.safe.length cs')) HNF.out)
    have HB4 := Lib.hid (HB3.out.set_ 0 (.slice (some ⟨ks, 0, none⟩) d.safe.length cs'))
    have Ho4 := Lib.hid (own_kp ho (Kp.set_ (F := fun k => k = w.heap.size) (p := ⟨w.heap.size, 0, none⟩) rfl (.slice (some ⟨ks, 0, none⟩) d.safe.length cs')) (fun k e1 e2 => by have e3 : ks = k := (by simpa [Value.ownBlock] using e1); have := Hz1'.out; omega))
    have HBel4 := Lib.hid ((HBel1.out.trans (hbl.mono HBel1.out.size)).setCell (p := ⟨w.heap.size, 0, none⟩) (Nat.le_refl _) (.slice (some ⟨ks, 0, none⟩) d.safe.length cs'))
    have Hks := Lib.hid hks
    have Hsz := Lib.hid (And.intro Hz1'.out hbl.size)
    have Hsz4 : Hid ((w3.setCell ⟨w.heap.size, 0, none⟩ (.slice (some ⟨ks, 0, none⟩) d.safe.length cs')).heap.size = w3.heap.size) := by show _ = _; simp [World.setCell]
    clear happ ho hbl hks he HR0 HB0 HBel Hz Hcells Hone Hlen HR1 HB1 HBel1 HR HB3 a0 a1 k1 f1
    go_wp2
    generalize w3.setCell ⟨w.heap.size, 0, none⟩ (.slice (some ⟨ks, 0, none⟩) d.safe.length cs') = W4 at *
    have a0 : W4.cell? ⟨w.heap.size, 1, none⟩ = some (.slice none 0 0) := HB4.out.cell 1
    have a1 : W4.cell? ⟨M, 1, none⟩ = some (.slice Aw d.waits.length cw) := HR4.out.blk.cell 1
    have Hcells : Hid (∀ ad, Aw = some ad → ∀ j u, (putC d.waits)[j]? = some u → W4.drew.cell? (ad.add j) = some u) := by
      intro ad e j u hu
      subst e
      rcases HR4.out.rwaits.2 with ⟨h', _⟩ | ⟨gw, cap, cur, hv, _⟩
      · cases h'
      · injection hv with e1
        injection e1 with e1
        subst e1
        exact HR4.out.rwaits.cells (g := gw) rfl j u hu
    have HAw : Hid (Aw = none → d.waits.length = 0) := by
      intro e
      subst e
      rcases HR4.out.rwaits.2 with ⟨_, h0⟩ | ⟨gw, cap, cur, hv, _⟩
      · exact h0
      · cases hv
    have Hone : Hid (∀ u ∈ putC d.waits, u.oneCell' = true) := by
      intro u hu
      obtain ⟨x, _, h⟩ := List.mem_flatMap.1 hu
      simp [put1, strV] at h
      rcases h with rfl | rfl <;> rfl
    have Hlen : Hid ((putC d.waits).length = d.waits.length * 2) := HR4.out.rwaits.1
    have HB5 : Hid (Bk W4.drew w.heap.size 66 _) := HB4
    have Ho5 : Hid (W4.drew.ownsRow W1.drew.heap.size 9 1 (.slice (some ⟨ks, 0, none⟩) d.safe.length cs') d.safe.length (d.safe.map strV)) := Ho4
    have HBel5 : Hid (Below w.heap.size w W4.drew) := bel_drewN HBel4.out 1
    have Hsz5 : Hid (W4.drew.heap.size = w3.heap.size) := Hsz4
    have h63 : 0 + d.waits.length ≤ maxLen := by unfold maxLen; omega
    have hby : (0 + d.waits.length) * 24 ≤ 140737488355328 := by omega
    go_region_law ((refine step_append_app _ rfl _ _ 64 (by rfl) W4.drew.heap.size 81 iw _ 2 24 Try.underlying64 Hiw.out Hzw.out Hsw.out Hbw.out rfl (.slice none 0 0) 0 [] (by rfl) (World.ownsRow_nil _ _ _ _) Aw d.waits.length cw (putC d.waits) (by rfl) Hlen.out HAw.out Hcells.out Hone.out h63 hby (Nat.le_refl _) ?_); intro v' w6 happ; (have ho := happ.own); (have hbl : Below W4.drew.heap.size W4.drew w6 := happ.below (Below.refl _ _) (Nat.le_refl _) (by intro k hk; simp [Value.ownBlock] at hk)); (have HB6 := Lib.hid (HB5.out.below hbl HB5.out.lt)); (have k1 := HB6.out.cell 1); (have f1 := HB6.out.frozen 1); (obtain ⟨Av, cv, rfl, _⟩ := own_shape ho))
    all_goals
      rw [Nat.zero_add, List.nil_append] at ho
      simp only [Nat.zero_add] at *
      have hk7 : Kp (fun k => k = w.heap.size) w6 (w6.setCell ⟨w.heap.size, 1, none⟩ (.slice Av d.waits.length cv)) := Kp.set_ (F := fun k => k = w.heap.size) (p := ⟨w.heap.size, 1, none⟩) rfl _
      have x1 := Hks.out
      have x2 := Hsz.out
      have x3 := Hsz5.out
      have x4 := hbl.size
      have x5 := ho.lt
      have hs7 : (w6.setCell ⟨w.heap.size, 1, none⟩ (.slice Av d.waits.length cv)).heap.size = w6.heap.size := by simp [World.setCell]
      have HF : Hid (∃ F', RD (w6.setCell ⟨w.heap.size, 1, none⟩ (.slice Av d.waits.length cv)) F' w.heap.size d ∧ (∀ k, F' k → w.heap.size ≤ k) ∧ Below w.heap.size w (w6.setCell ⟨w.heap.size, 1, none⟩ (.slice Av d.waits.length cv))) := by
        refine ⟨fun k => k = w.heap.size ∨ k = ks ∨ Value.ownBlock (.slice Av d.waits.length cv) = some k, ⟨.slice (some ⟨ks, 0, none⟩) d.safe.length cs', .slice Av d.waits.length cv, { blk := by simpa using HB6.out.set_ 1 (.slice Av d.waits.length cv), rsafe := own_mono (own_kp (own_below Ho5.out hbl (fun k e => (Ho5.out.lt k e).2)) hk7 ?_) (Nat.zero_le _), rwaits := own_mono (own_kp ho hk7 ?_) (Nat.zero_le _), srow := HR4.out.srow, wrow := HR4.out.wrow, sne := ?_, wne := ?_, foot := ⟨.inl rfl, ?_, fun k e => .inr (.inr e)⟩, lt := ?_ }, Hrest.out⟩, ?_, (HBel5.out.trans (hbl.mono HBel5.out.size)).setCell (p := ⟨w.heap.size, 1, none⟩) (Nat.le_refl _) _⟩
        · intro k e e2; have e3 : ks = k := (by simpa [Value.ownBlock] using e); omega
        · intro k e e2; have := (x5 k e).1; omega
        · intro k e; have e3 : ks = k := (by simpa [Value.ownBlock] using e); omega
        · intro k e
          have := (x5 k e).1
          refine ⟨by omega, fun e2 => ?_⟩
          have e3 : ks = k := (by simpa [Value.ownBlock] using e2)
          omega
        · intro k e; have e3 : ks = k := (by simpa [Value.ownBlock] using e); exact .inr (.inl e3.symm)
        · rintro k (rfl | rfl | e)
          · rw [hs7]; omega
          · rw [hs7]; omega
          · rw [hs7]; exact (x5 k e).2
        · rintro k (rfl | rfl | e)
          · exact Nat.le_refl _
          · omega
          · have := (x5 k e).1; omega
      clear happ ho hbl hk7 x1 x2 x3 x4 x5 hs7 HB6 HB5 Ho5 HBel5 Hcells HAw Hone Hlen HR4 HB4 Ho4 HBel4
      go_wp2
      go_ret
      obtain ⟨F', h1, h2, h3⟩ := HF.out
      exact ⟨_, F', rfl, h1, h2, h3⟩
end Go.Proofs.Ytmjffikdaejffaa
