/- The program's Disk: New, Clone. -/
import Derived.Test.YtmjffikdaejffaaPDisk6
import Derived.BigRegion
namespace Go.Proofs.Ytmjffikdaejffaa
open Go.RowKit

theorem secC_zero (n : Nat) : secC (List.replicate n (List.replicate 32 0)) = List.replicate (n * 32) (.int .u8 0) := by
  induction n with
  | zero => rfl
  | succ n ih =>
    unfold secC at ih ⊢
    rw [List.replicate_succ, List.flatMap_cons, ih, Nat.add_mul, Nat.one_mul, Nat.add_comm, ← List.replicate_append_replicate]
    rfl
theorem made_zero (n : Nat) : (madeCells (Value.agg (Array.replicate 32 (.int .u8 0))).cells (n * 32)).toList = List.replicate (n * 32) (.int .u8 0) := by
  apply List.ext_getElem?
  intro j
  by_cases hj : j < n * 32
  · have h2 : j % 32 < (Array.replicate 32 (Value.int .u8 0)).size := by simp; omega
    simp only [madeCells, Value.cells, Array.size_replicate, Array.toList_map, List.getElem?_map, Array.toList_range, List.getElem?_range hj, Option.map_some, List.getElem?_replicate, if_pos hj]
    rw [getElem!_pos (Array.replicate 32 (Value.int .u8 0)) _ h2]
    simp
  · rw [List.getElem?_eq_none (by simp [madeCells]; omega), List.getElem?_eq_none (by simp; omega)]
theorem syncS_nil (s : List (List UInt8)) : syncS s [] = s := rfl

theorem PR.fresh (w : World) (n : Nat) (hn : n ≤ 2048) {w1 : World} {gn gs g : Nat} (hgn : Bk w1 gn 74 (madeCells (Value.agg (Array.replicate 32 (.int .u8 0))).cells (n * 32))) (hgs : Bk w1 gs 74 (madeCells (Value.agg (Array.replicate 32 (.int .u8 0))).cells (n * 32)))
    (hg : Bk w1 g 62 #[.slice (some ⟨gn, 0, none⟩) n n, .slice (some ⟨gs, 0, none⟩) n n, .slice none 0 0, .bool true, .int .i64 (-1)]) (h1 : g ≠ gn) (h2 : g ≠ gs) (h3 : gn ≠ gs) (b1 : w.heap.size ≤ g) (b2 : w.heap.size ≤ gn) (b3 : w.heap.size ≤ gs) (hn1 : 1 ≤ n) :
    ∃ F, PD w1 F g (Dk.new n) ∧ ∀ k, F k → w.heap.size ≤ k := by
  have hl : (List.replicate n (List.replicate 32 (0 : UInt8))).length = n := List.length_replicate
  have ho : ∀ k, Bk w1 k 74 (madeCells (Value.agg (Array.replicate 32 (.int .u8 0))).cells (n * 32)) → w1.ownsRow 0 74 32 (.slice (some ⟨k, 0, none⟩) n n) n (secC (List.replicate n (List.replicate 32 0))) := fun k hk =>
    ⟨by rw [secC_zero]; simp, .inr ⟨k, n, _, rfl, Nat.zero_le _, hk, Nat.le_refl _, by unfold maxLen; omega, by simp [madeCells], by rw [made_zero, secC_zero]; simp⟩⟩
  refine ⟨fun k => k = g ∨ k = gn ∨ k = gs, ⟨gn, n, gs, n, .slice none 0 0, -1, { blk := ?_, rnow := ?_, rsafe := ?_, rwaits := World.ownsRow_nil _ _ _ _, nlen := rfl, nrow := ?_, srow := ?_, wrow := by intro x hx; simp [Dk.new] at hx, ne1 := h1, ne2 := h2, ne3 := h3, wne := by intro k hk; simp [Value.ownBlock] at hk, foot := ⟨.inl rfl, .inr (.inl rfl), .inr (.inr rfl), by intro k hk; simp [Value.ownBlock] at hk⟩, lt := ?_ }, .inl rfl, by simp [Dk.new], by simp [Dk.new], by omega, by simp [Dk.new]; exact hn1, by simp [Dk.new]; exact hn⟩, ?_⟩
  · simp only [Dk.new, hl]
    exact hg
  · simp only [Dk.new, hl, syncS_nil]
    exact ho gn hgn
  · simp only [Dk.new, hl]
    exact ho gs hgs
  · intro s hs
    simp only [Dk.new, syncS_nil] at hs
    rw [List.eq_of_mem_replicate hs, List.length_replicate]
  · intro s hs
    simp only [Dk.new] at hs
    rw [List.eq_of_mem_replicate hs, List.length_replicate]
  · rintro k (rfl | rfl | rfl)
    · exact hg.lt
    · exact hgn.lt
    · exact hgs.lt
  · rintro k (rfl | rfl | rfl) <;> assumption

theorem three_new (w : World) (a b c : Array Value) (t t' t'' : TypeId) : Bk (((w.alloc (.cells a t)).alloc (.cells b t')).alloc (.cells c t'')).drew w.heap.size t a ∧ Bk (((w.alloc (.cells a t)).alloc (.cells b t')).alloc (.cells c t'')).drew (w.heap.size + 1) t' b ∧
    Bk (((w.alloc (.cells a t)).alloc (.cells b t')).alloc (.cells c t'')).drew (w.heap.size + 1 + 1) t'' c ∧ Below w.heap.size w (((w.alloc (.cells a t)).alloc (.cells b t')).alloc (.cells c t'')).drew := by
  have h1 := Bk.new w t a
  have h2 := Bk.new (w.alloc (.cells a t)) t' b
  have h3 := Bk.new ((w.alloc (.cells a t)).alloc (.cells b t')) t'' c
  have e2 : (w.alloc (.cells a t)).heap.size = w.heap.size + 1 := by simp
  have e3 : ((w.alloc (.cells a t)).alloc (.cells b t')).heap.size = w.heap.size + 1 + 1 := by simp
  rw [e2] at h2
  rw [e3] at h3
  have b2 := (Below.refl (w.alloc (.cells a t)).heap.size (w.alloc (.cells a t))).alloc (Nat.le_refl _) (.cells b t')
  have b3 := (Below.refl ((w.alloc (.cells a t)).alloc (.cells b t')).heap.size ((w.alloc (.cells a t)).alloc (.cells b t'))).alloc (Nat.le_refl _) (.cells c t'')
  have k1 := (h1.below b2 h1.lt).below b3 (Nat.lt_of_lt_of_le h1.lt (by omega))
  have k2 := h2.below b3 h2.lt
  exact ⟨k1, k2, h3, ((((Below.refl _ _).alloc (Nat.le_refl _) _).alloc (by simp) _).alloc (by simp; omega) _).drew⟩
set_option maxHeartbeats 2000000 in
theorem new_any (n : Nat) (w : World) (h1 : 1 ≤ n) (h2 : n ≤ 2048) :
    Calls Try.prog 10 #[.int .i64 n] w fun e w' => ∃ g F, e = .returned (.tuple #[.pointer (some ⟨g, 0, none⟩), .int .i64 0]) ∧ PD w' F g (Dk.new n) ∧ (∀ k, F k → w.heap.size ≤ k) ∧ Below w.heap.size w w' := by
  obtain ⟨iw, hiw, hzw, hsw, hbw⟩ := info_parts Try.infoSector
  have hmk : ∀ W : World, (Instr.makeSlice 59 (.int .i64 (n : Int)) (.int .i64 (n : Int))).run Try.prog W = .ok (.slice (some ⟨W.heap.size, 0, none⟩) n n) (W.alloc (.cells (madeCells (Value.agg (Array.replicate 32 (.int .u8 0))).cells (n * 32)) 74)) := fun W => by
    have h := run_make (P := Try.prog) W 59 74 iw _ Try.underlying59 hiw hzw .i64 .i64 n n (by omega) (Int.le_refl _) (by rw [hbw]; omega) (by omega)
    rw [hsw] at h
    simpa only [Int.toNat_natCast] using h
  clear hiw hzw hsw hbw
  generalize hZ : madeCells (Value.agg (Array.replicate 32 (.int .u8 0))).cells (n * 32) = Z at *
  go_enter Try.func10, Try.ntmps10
  go_wp2
  go_region
  all_goals
    go_wp2
    go_ret2
    obtain ⟨t1, t2, t3, t4⟩ := three_new w Z Z #[.slice (some ⟨_, 0, none⟩) n n, .slice (some ⟨_, 0, none⟩) n n, .slice none 0 0, .bool true, .int .i64 (-1)] 74 74 62
    subst Z
    first
      | (obtain ⟨F, hF, hge⟩ := PR.fresh w n h2 t1 t2 t3 (by omega) (by omega) (by omega) (by omega) (by omega) (by omega) h1; exact ⟨_, F, rfl, hF, hge, t4⟩)
      | (obtain ⟨F, hF, hge⟩ := PR.fresh w n h2 t2 t1 t3 (by omega) (by omega) (by omega) (by omega) (by omega) (by omega) h1; exact ⟨_, F, rfl, hF, hge, t4⟩)
set_option maxHeartbeats 1000000 in
set_option maxRecDepth 100000 in
theorem cloneS_any (g n c : Nat) (xs : List Value) (w : World) (hn : n ≤ 2048) (h1 : ∀ u ∈ xs, u.oneCell' = true) (h : w.ownsRow 0 74 32 (.slice (some ⟨g, 0, none⟩) n c) n xs) :
    Calls Try.prog 40 #[.slice (some ⟨g, 0, none⟩) n c] w fun e w' => ∃ v, e = .returned v ∧ w'.ownsRow w.heap.size 74 32 v n xs ∧ Below w.heap.size w w' := by
  obtain ⟨i0, hi0, hz0, hz1, hz2⟩ := info_parts Try.infoSector
  have q := fun (w : World) (a : Option Addr) (n c n' c' : Nat) => Lib.run_eql_slice_nil (P := Try.prog) w 59 74 a n c n' c' Try.underlying59
  have hb0 := (Below.refl w.heap.size w).alloc (Nat.le_refl _) (.cells #[] 74)
  have h' := (h.alloc (.cells #[] 74)).cells (g := g) rfl
  have H' := Lib.hid h'
  have hl := h.1
  have Hl := Lib.hid hl
  have H1 := Lib.hid h1
  have Hi0 := Lib.hid hi0
  have Hz0 := Lib.hid hz0
  have Hz1 := Lib.hid hz1
  have Hz2 := Lib.hid hz2
  have Hb0 := Lib.hid hb0
  clear h h' hl h1 hi0 hz0 hz1 hz2 hb0
  go_enter Try.func40, Try.ntmps40
  go_wp2_with (at_builtin; refine wpList_append_app _ rfl _ _ 59 rfl w.heap.size 74 i0 _ 32 32 Try.underlying59 Hi0.out Hz0.out Hz1.out Hz2.out (by rfl) _ 0 [] rfl (World.ownsRow_made w #[] 0 (Nat.le_refl _) (Nat.zero_le _) rfl) (some ⟨g, 0, none⟩) n c xs rfl Hl.out (by intro e; cases e) (by intro ad e j u hu; obtain rfl := Option.some.inj e; exact H'.out j u hu) H1.out (by unfold maxLen; omega) (by omega) (by simp) ?_)
  intro v' w1 ha
  have hb1 := ha.below Hb0.out (by simp) (by intro k hk; simp [Value.ownBlock] at hk; omega)
  have ho := ha.own
  rw [Nat.zero_add, List.nil_append] at ho
  have Ho := Lib.hid ho
  have Hb1 := Lib.hid hb1
  clear ha ho hb1
  go_wp2
  go_ret
  exact ⟨v', rfl, Ho.out, Hb1.out⟩
set_option maxHeartbeats 1000000 in
set_option maxRecDepth 100000 in
theorem cloneW_any (A : Option Addr) (n c : Nat) (xs : List Value) (w : World) (hn : n ≤ 1000000000) (h1 : ∀ u ∈ xs, u.oneCell' = true) (h : w.ownsRow 0 76 33 (.slice A n c) n xs) :
    Calls Try.prog 41 #[.slice A n c] w fun e w' => ∃ v, e = .returned v ∧ w'.ownsRow w.heap.size 76 33 v n xs ∧ Below w.heap.size w w' := by
  obtain ⟨i0, hi0, hz0, hz1, hz2⟩ := info_parts Try.infoWrite
  have q := fun (w : World) (a : Option Addr) (n c n' c' : Nat) => Lib.run_eql_slice_nil (P := Try.prog) w 60 76 a n c n' c' Try.underlying60
  rcases A with _ | a
  · obtain ⟨hx, h0⟩ : xs = [] ∧ n = 0 := by
      rcases h.2 with ⟨_, h0⟩ | ⟨g', cap, cur, hv, _⟩
      · subst h0
        exact ⟨List.eq_nil_of_length_eq_zero (by have := h.1; omega), rfl⟩
      · cases hv
    subst hx h0
    clear h
    go_enter Try.func41, Try.ntmps41
    go_wp2
    go_ret
    exact ⟨_, rfl, World.ownsRow_nil _ _ _ _, Below.refl _ _⟩
  · obtain ⟨g, rfl⟩ : ∃ g, a = ⟨g, 0, none⟩ := by
      rcases h.2 with ⟨hv, _⟩ | ⟨g', cap, cur, hv, _⟩
      · cases hv
      · injection hv with e; injection e with e; exact ⟨g', e⟩
    have hb0 := (Below.refl w.heap.size w).alloc (Nat.le_refl _) (.cells #[] 76)
    have h' := (h.alloc (.cells #[] 76)).cells (g := g) rfl
    have H' := Lib.hid h'
    have hl := h.1
    have Hl := Lib.hid hl
    have H1 := Lib.hid h1
    have Hi0 := Lib.hid hi0
    have Hz0 := Lib.hid hz0
    have Hz1 := Lib.hid hz1
    have Hz2 := Lib.hid hz2
    have Hb0 := Lib.hid hb0
    clear h h' hl h1 hi0 hz0 hz1 hz2 hb0
    go_enter Try.func41, Try.ntmps41
    go_wp2_with (at_builtin; refine wpList_append_app _ rfl _ _ 60 rfl w.heap.size 76 i0 _ 33 40 Try.underlying60 Hi0.out Hz0.out Hz1.out Hz2.out (by rfl) _ 0 [] rfl (World.ownsRow_made w #[] 0 (Nat.le_refl _) (Nat.zero_le _) rfl) (some ⟨g, 0, none⟩) n c xs rfl Hl.out (by intro e; cases e) (by intro ad e j u hu; obtain rfl := Option.some.inj e; exact H'.out j u hu) H1.out (by unfold maxLen; omega) (by omega) (by simp) ?_)
    intro v' w1 ha
    have hb1 := ha.below Hb0.out (by simp) (by intro k hk; simp [Value.ownBlock] at hk; omega)
    have ho := ha.own
    rw [Nat.zero_add, List.nil_append] at ho
    have Ho := Lib.hid ho
    have Hb1 := Lib.hid hb1
    clear ha ho hb1
    go_wp2
    go_ret
    exact ⟨v', rfl, Ho.out, Hb1.out⟩

theorem new_bad (n : Int) (w : World) (h : n < 1 ∨ 2048 < n) :
    Calls Try.prog 10 #[.int .i64 n] w fun e w' => e = .returned (.tuple #[.pointer none, .int .i64 2]) ∧ w = w' := by
  by_cases h1 : n < 1
  · go_enter Try.func10, Try.ntmps10
    go_wp2
    go_ret2
    exact ⟨rfl, rfl⟩
  · have h2 : 2048 < n := by omega
    clear h
    go_enter Try.func10, Try.ntmps10
    go_wp2
    go_ret2
    exact ⟨rfl, rfl⟩
end Go.Proofs.Ytmjffikdaejffaa
