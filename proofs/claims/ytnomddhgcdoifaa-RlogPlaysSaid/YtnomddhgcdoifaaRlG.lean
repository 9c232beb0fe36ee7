/- Layer 12, the program's row: an entry is put in between. -/
import Derived.Test.YtnomddhgcdoifaaRlF
namespace Go.Proofs.Ytnomddhgcdoifaa
open Go.RowKit

section
variable {w : World} {n c b vb i : Nat} {xs vs : List Value}
theorem row_src (h : w.ownsRow 0 45 2 (.slice (some ⟨b, 0, none⟩) n c) n xs) (i : Nat) : ∀ j u, (xs.drop (i * 2))[j]? = some u → w.cell? ((⟨b, i * 2, none⟩ : Addr).add j) = some u := fun j u hu => by
  rw [List.getElem?_drop] at hu
  have := h.cells (g := b) rfl (i * 2 + j) u hu
  rw [Addr.add_lit] at this ⊢
  rwa [Nat.zero_add] at this
theorem bk_src (hv : Bk w vb 45 vs.toArray) : ∀ j u, vs[j]? = some u → w.cell? ((⟨vb, 0, none⟩ : Addr).add j) = some u := fun j u hu => by
  rw [Addr.add_lit, Nat.zero_add, hv.cell]
  simpa using hu
set_option maxHeartbeats 4000000 in
set_option maxRecDepth 100000 in
/-- In between, where there is room. -/
theorem einsIn_any (h : w.ownsRow 0 45 2 (.slice (some ⟨b, 0, none⟩) n c) n xs) (hn : n ≤ 1000000) (hi : i < n) (hc : n + 1 ≤ c) (hv : Bk w vb 45 vs.toArray) (hvb : vb ≠ b) (hv2 : vs.length = 2) (h1 : ∀ v ∈ vs, v.oneCell' = true) (h1x : ∀ v ∈ xs, v.oneCell' = true) :
    Calls Try.prog 36 #[.slice (some ⟨b, 0, none⟩) n c, .int .i64 (i : Int), .slice (some ⟨vb, 0, none⟩) 1 1] w (InsE w (some ⟨b, 0, none⟩) n c (xs.take (i * 2) ++ (vs ++ xs.drop (i * 2)))) := by
  obtain ⟨iw, hiw, hzw, hsw, hbw⟩ := info_parts Try.infoEntry
  obtain ⟨zs, hzl, hlo⟩ := own_longer h hc
  obtain ⟨T, hT⟩ : ∃ T, T = i + 1 := ⟨_, rfl⟩
  obtain ⟨M, hM⟩ : ∃ M, M = n + 1 := ⟨_, rfl⟩
  have hxl := h.1
  have hdl : (xs.drop (i * 2)).length = (n - i) * 2 := by rw [List.length_drop, hxl]; omega
  rw [← hM] at hlo hc
  have hll : (xs ++ zs).length = M * 2 := by rw [List.length_append, hxl, hzl]; omega
  have hov : ∀ lb cb, (callFunc 44 #[.slice (some ⟨vb, 0, none⟩) 1 1, .slice (some ⟨b, T * 2, none⟩) lb cb]).run Try.prog w = .ok (.value (.bool false)) w := fun lb cb => by
    obtain ⟨tA, kA, hsa, hka, _⟩ := World.shape?_of_cell? (w := w) (a := ⟨vb, 0, none⟩) (v := vs[0]) (by rw [hv.cell]; simp)
    obtain ⟨tB, kB, hsb, hkb, _⟩ := World.shape?_of_cell? (w := w) (a := ⟨b, 0, none⟩) (v := xs[0]'(by omega)) (by
      have := h.cells (g := b) rfl 0 (xs[0]'(by omega)) (List.getElem?_eq_getElem (by omega))
      rwa [Addr.add_lit] at this)
    rw [run_callFunc_extern Try.func44 (by kernel_rfl) (by kernel_rfl) (by kernel_rfl) (e := Extern.SlicesOverlaps.overlaps #[29, 29] #[4]) (by kernel_rfl),
      Lib.run_overlaps_apart w 29 4 45 Try.underlying29 2 Try.sizeOf45 ⟨vb, 0, none⟩ ⟨b, T * 2, none⟩ 1 1 lb cb hvb tA tB kA kB hsa hsb (by simp at hkb; omega) (hv.frozen 0) (hv.frozen kA)]
    rfl
  have hrow1 : (w.drew.setCells b (T * 2) (xs.drop (i * 2))).ownsRow 0 45 2 (.slice (some ⟨b, 0, none⟩) M c) M (over (xs ++ zs) (T * 2) (xs.drop (i * 2))) := own_sets (w := w.drew) hlo _ _ (by rw [hdl]; omega)
  have HC1 : Hid (∀ ty dc sc, (Builtin.copy_ #[49, 49] ty #[.slice (some ⟨b, T * 2, none⟩) (M - T) dc, .slice (some ⟨b, i * 2, none⟩) (M - i) sc]).run Try.prog w.drew = .ok (goInt ((n - i : Nat) : Int)) (w.drew.setCells b (T * 2) (xs.drop (i * 2)))) := Lib.hid fun ty dc sc =>
    run_copy_sized w.drew _ _ ty 45 b (T * 2) (M - T) dc ⟨b, i * 2, none⟩ (M - i) sc (n - i) 2 iw _ Try.underlying49 hiw hsw (by simp only [Nat.min_def]; split <;> omega) hdl (row_src (w := w.drew) h i) (own_there (w := w.drew) hlo _ _ (by rw [hdl]; omega)) (fun u hu => h1x u (List.mem_of_mem_drop hu))
  have HC2 : Hid (∀ ty dc, (Builtin.copy_ #[49, 29] ty #[.slice (some ⟨b, i * 2, none⟩) (M - i) dc, .slice (some ⟨vb, 0, none⟩) 1 1]).run Try.prog (w.drew.setCells b (T * 2) (xs.drop (i * 2))) = .ok (goInt ((1 : Nat) : Int)) ((w.drew.setCells b (T * 2) (xs.drop (i * 2))).setCells b (i * 2) vs)) := Lib.hid fun ty dc =>
    run_copy_sized _ _ _ ty 45 b (i * 2) (M - i) dc ⟨vb, 0, none⟩ 1 1 1 2 iw vs Try.underlying49 hiw hsw (by simp only [Nat.min_def]; split <;> omega) hv2 (bk_src (Bk.kp (w := w.drew) hv (Kp.sets (F := fun j => j = b) rfl _ _ _) hvb)) (own_there hrow1 _ _ (by rw [hv2]; omega)) h1
  have HE : Hid (InsE w (some ⟨b, 0, none⟩) n c (xs.take (i * 2) ++ (vs ++ xs.drop (i * 2))) (.returned (.slice (some ⟨b, 0, none⟩) M c)) ((w.drew.setCells b (T * 2) (xs.drop (i * 2))).setCells b (i * 2) vs)) := Lib.hid (by
    have h2 := own_sets hrow1 (i * 2) vs (by rw [hv2]; omega)
    rw [hT, ins_in xs vs zs n i hxl (by omega) hv2 hzl] at h2
    rw [hM, hT] at *
    exact ⟨_, _, rfl, h2, ((Kp.drew (fun j => j = b) w).trans ((Kp.sets (F := fun j => j = b) rfl _ _ _).trans (Kp.sets (F := fun j => j = b) rfl _ _ _))).mono fun k e => by subst e; rfl, fun k e => .inl e⟩)
  have Hov := Lib.hid hov
  have w1 : IntKind.i64.wrap ((n : Int) + 1) = (M : Int) := by rw [IntKind.wrap_i64]; omega
  have w2 : IntKind.i64.wrap ((i : Int) + 1) = (T : Int) := by rw [IntKind.wrap_i64]; omega
  have a1 : ¬ ((i : Int) = (n : Int)) := by omega
  have a2 : ¬ (c : Int) < (M : Int) := by omega
  have a3 : (i : Int) ≤ (n : Int) := by omega
  have a4 : (T : Int) ≤ (M : Int) := by omega
  have a5 : (i : Int) ≤ (M : Int) := by omega
  have a6 : ¬ c = i := by omega
  have a7 : ¬ c = T := by omega
  have a8 : M ≤ c := by omega
  have a9 : (M : Int) ≤ (c : Int) := by omega
  have a10 : i ≤ n := by omega
  have a11 : T ≤ M := by omega
  have a12 : i ≤ M := by omega
  clear hrow1 hov h hlo hv h1 h1x hxl hdl hll hM hT hiw hzw hsw hbw hzl hv2 hi hc
  go_enter Try.func36, Try.ntmps36
  have hc1 := HC1.out
  have hc2 := HC2.out
  go_wp2_with (simp only [Hov.out])
  go_region_law (fail)
  all_goals
    go_wp2
    go_ret
    exact HE.out
set_option maxHeartbeats 4000000 in
set_option maxRecDepth 100000 in
/-- In between, where there is no room. -/
theorem einsNew_any (h : w.ownsRow 0 45 2 (.slice (some ⟨b, 0, none⟩) n c) n xs) (hn : n ≤ 1000000) (hi : i < n) (hnc : n ≤ c) (hc : c < n + 1) (hv : Bk w vb 45 vs.toArray) (hv2 : vs.length = 2) (h1 : ∀ v ∈ vs, v.oneCell' = true) (h1x : ∀ v ∈ xs, v.oneCell' = true) :
    Calls Try.prog 36 #[.slice (some ⟨b, 0, none⟩) n c, .int .i64 (i : Int), .slice (some ⟨vb, 0, none⟩) 1 1] w (InsE w (some ⟨b, 0, none⟩) n c (xs.take (i * 2) ++ (vs ++ xs.drop (i * 2)))) := by
  obtain ⟨iw, hiw, hzw, hsw, hbw⟩ := info_parts Try.infoEntry
  obtain ⟨T, hT⟩ : ∃ T, T = i + 1 := ⟨_, rfl⟩
  obtain ⟨M, hM⟩ : ∃ M, M = n + 1 := ⟨_, rfl⟩
  obtain ⟨K, hK⟩ : ∃ K, K = n + 1 - i := ⟨_, rfl⟩
  have hxl := h.1
  have hdl : (xs.drop (i * 2)).length = (n - i) * 2 := by rw [List.length_drop, hxl]; omega
  have htl : (xs.take (i * 2)).length = i * 2 := by rw [List.length_take]; omega
  have hbl : b < w.heap.size := (h.lt b rfl).2
  have hold : (Builtin.firstCells iw.size i (.slice (some ⟨b, 0, none⟩) i c)).run Try.prog w.drew = .ok (xs.take (i * 2)).toArray w.drew := by
    rw [hsw]
    exact run_firstCells_some w.drew 2 i ⟨b, 0, none⟩ i c _ htl (fun j v hj => by
      rw [List.getElem?_take] at hj
      split at hj
      · exact h.cells (g := b) rfl j v hj
      · cases hj)
  have hik : i + K = M := by omega
  have hz := fun ty => Lib.run_append_grow_zeros w 49 3 ty 45 iw _ .i64 .i64 Try.underlying49 Try.underlying3 hiw hzw (some ⟨b, 0, none⟩) i c (xs.take (i * 2)) hold K (by omega) (by omega) (by omega) (by omega) (by rw [hbw]; omega) (by rw [hbw, hik]; exact growslice_fits (by omega) (by omega))
  rw [hik] at hz
  have hGn : M ≤ grownCap w M c 45 := grownCap_ge w _ _ _
  have hGm : grownCap w M c 45 ≤ maxLen := grownCap_le_maxLen w M c 45 (by unfold maxLen; omega)
  have hzk : (Builtin.zeroCells (Value.agg #[.int .u64 0, .slice none 0 0]).cells K).toList.length = K * 2 := by simp [Builtin.zeroCells, Value.cells]
  obtain ⟨ho1, _⟩ := own_new w (base := w.heap.size) (e := 45) (size := 2) (k := M) (cap := grownCap w M c 45) (cur := (xs.take (i * 2)).toArray ++ Builtin.zeroCells (Value.agg #[.int .u64 0, .slice none 0 0]).cells K ++ Builtin.zeroCells (Value.agg #[.int .u64 0, .slice none 0 0]).cells (grownCap w M c 45 - M)) (ys := xs.take (i * 2) ++ (Builtin.zeroCells (Value.agg #[.int .u64 0, .slice none 0 0]).cells K).toList)
    (Nat.le_refl _) hGn hGm (by
      rw [Array.size_append, Array.size_append, size_zeroCells, size_zeroCells, List.size_toArray, htl]
      simp only [Value.cells]
      show i * 2 + K * 2 + (grownCap w M c 45 - M) * 2 = _
      omega) (by rw [List.length_append, htl, hzk]; omega) (by simp only [Array.toList_append, List.take_left])
  generalize grownCap w M c 45 = G at *
  have hbel : Below w.heap.size w (w.drew.alloc (.cells ((xs.take (i * 2)).toArray ++ Builtin.zeroCells (Value.agg #[.int .u64 0, .slice none 0 0]).cells K ++ Builtin.zeroCells (Value.agg #[.int .u64 0, .slice none 0 0]).cells (G - M)) 45)) := (Below.refl w.heap.size w).drew.alloc (Nat.le_refl _) _
  generalize w.drew.alloc (.cells ((xs.take (i * 2)).toArray ++ Builtin.zeroCells (Value.agg #[.int .u64 0, .slice none 0 0]).cells K ++ Builtin.zeroCells (Value.agg #[.int .u64 0, .slice none 0 0]).cells (G - M)) 45) = W1 at *
  generalize (Builtin.zeroCells (Value.agg #[.int .u64 0, .slice none 0 0]).cells K).toList = zs at *
  obtain ⟨N, hN⟩ : ∃ N, N = w.heap.size := ⟨_, rfl⟩
  rw [← hN] at hz ho1 hbl
  obtain ⟨W2, hW2⟩ : ∃ W2, W2 = W1.setCells N (i * 2) vs := ⟨_, rfl⟩
  obtain ⟨W3, hW3⟩ : ∃ W3, W3 = W2.drew.setCells N (T * 2) (xs.drop (i * 2)) := ⟨_, rfl⟩
  have hvl := hv.lt
  have hv1 : Bk W1 vb 45 vs.toArray := hv.below hbel hvl
  have ho2 : W2.ownsRow N 45 2 (.slice (some ⟨N, 0, none⟩) M G) M (over (xs.take (i * 2) ++ zs) (i * 2) vs) := by rw [hW2]; exact own_sets ho1 _ _ (by rw [hv2]; omega)
  have ho3 := own_sets (w := W2.drew) ho2 (T * 2) (xs.drop (i * 2)) (by rw [hdl]; omega)
  rw [← hW3] at ho3
  have hk12 : Kp (fun j => j = N) W1 W2 := by rw [hW2]; exact Kp.sets (F := fun j => j = N) rfl _ _ _
  have hk23 : Kp (fun j => j = N) W2 W3 := by rw [hW3]; exact (Kp.drew _ _).trans (Kp.sets (F := fun j => j = N) rfl _ _ _)
  have hold0 : W1.ownsRow 0 45 2 (.slice (some ⟨b, 0, none⟩) n c) n xs := own_below h hbel fun k e => (h.lt k e).2
  have hold3 : W2.ownsRow 0 45 2 (.slice (some ⟨b, 0, none⟩) n c) n xs := own_kp hold0 hk12 fun k e e2 => by
    have e : b = k := by injection e
    omega
  have hold2 : W2.drew.ownsRow 0 45 2 (.slice (some ⟨b, 0, none⟩) n c) n xs := hold3
  have hcA : ∀ ty dc, (Builtin.copy_ #[49, 29] ty #[.slice (some ⟨N, i * 2, none⟩) (M - i) dc, .slice (some ⟨vb, 0, none⟩) 1 1]).run Try.prog W1 = .ok (goInt ((1 : Nat) : Int)) W2 := fun ty dc => by
    rw [hW2]
    exact run_copy_sized _ _ _ ty 45 N (i * 2) (M - i) dc ⟨vb, 0, none⟩ 1 1 1 2 iw vs Try.underlying49 hiw hsw (by simp only [Nat.min_def]; split <;> omega) hv2 (bk_src hv1) (own_there ho1 _ _ (by rw [hv2]; omega)) h1
  have hcB : ∀ ty dc sc, (Builtin.copy_ #[49, 49] ty #[.slice (some ⟨N, T * 2, none⟩) (M - T) dc, .slice (some ⟨b, i * 2, none⟩) (n - i) sc]).run Try.prog W2.drew = .ok (goInt ((n - i : Nat) : Int)) W3 := fun ty dc sc => by
    rw [hW3]
    exact run_copy_sized W2.drew _ _ ty 45 N (T * 2) (M - T) dc ⟨b, i * 2, none⟩ (n - i) sc (n - i) 2 iw _ Try.underlying49 hiw hsw (by simp only [Nat.min_def]; split <;> omega) hdl (row_src (w := W2.drew) hold2 i) (own_there (w := W2.drew) ho2 _ _ (by rw [hdl]; omega)) (fun u hu => h1x u (List.mem_of_mem_drop hu))
  have hE : InsE w (some ⟨b, 0, none⟩) n c (xs.take (i * 2) ++ (vs ++ xs.drop (i * 2))) (.returned (.slice (some ⟨N, 0, none⟩) M G)) W3 := by
    by_cases hzl : zs.length = (n + 1 - i) * 2
    · rw [hT, ins_new xs vs zs n i hxl (by omega) hv2 hzl] at ho3
      rw [hM] at *
      refine ⟨_, _, rfl, own_mono ho3 (Nat.zero_le _), ?_, fun k e => .inr (by have e : N = k := (by injection e); omega)⟩
      exact (Kp.of_below hbel).trans' ((hk12.trans hk23).mono (G := fun j => j = N) fun _ e => e) fun k e => .inr (by omega)
    · exact absurd (by rw [hzk, hK]) hzl
  have HE := Lib.hid hE
  have w1 : IntKind.i64.wrap ((n : Int) + 1) = (M : Int) := by rw [IntKind.wrap_i64]; omega
  have w2 : IntKind.i64.wrap ((i : Int) + 1) = (T : Int) := by rw [IntKind.wrap_i64]; omega
  have w3 : IntKind.i64.wrap ((M : Int) - (i : Int)) = (K : Int) := by rw [IntKind.wrap_i64]; omega
  have a1 : ¬ ((i : Int) = (n : Int)) := by omega
  have a2 : (c : Int) < (M : Int) := by omega
  have a3 : (i : Int) ≤ (n : Int) := by omega
  have a4 : (T : Int) ≤ (M : Int) := by omega
  have a5 : (i : Int) ≤ (M : Int) := by omega
  have a6 : ¬ c = i := by omega
  have a7 : ¬ G = T := by omega
  have a8 : ¬ G = i := by omega
  have a10 : i ≤ n := by omega
  have a11 : T ≤ M := by omega
  have a12 : i ≤ M := by omega
  have a13 : i ≤ c := by omega
  have a14 : (i : Int) ≤ (c : Int) := by omega
  have HZ := Lib.hid hz
  clear hz hE ho1 ho2 ho3 hold2 hold3 hold0 hold hbel hk12 hk23 hv1 h hv h1 h1x hxl hdl htl hM hT hK hik hiw hzw hsw hbw hv2 hi hc hnc hGn hGm hzk hbl hvl hN hW2 hW3
  go_enter Try.func36, Try.ntmps36
  go_wp2_with (at_builtin; refine Lib.wpList_append_run _ rfl _ _ _ _ rfl _ _ rfl rfl _ _ (HZ.out _) ?_)
  go_region_law (fail)
  all_goals
    go_wp2
    go_ret
    exact HE.out
end
end Go.Proofs.Ytnomddhgcdoifaa
