/- Layer 12, the document's log: Catch. -/
import Derived.Test.YtnomddhgcdoifaaRlDd
namespace Go.Proofs.Ytnomddhgcdoifaa
open Go.RowKit

section
variable {w w' w3 : World} {F G : Nat → Prop} {g n c : Nat} {p p2 : Rl} {A : Option Addr} {es es2 : List Ene} {v' : Value}
theorem find_run (hok : p.Ok) (f : Nat) : ∀ i, (∀ j, j < i → p.has (f + j) = true) → findE (f + i) p.row = findE f p.row + i
  | 0, _ => rfl
  | i + 1, h => by
    have h1 := find_run hok f i fun j hj => h j (by omega)
    have h2 := find_succ (u := f + i) hok.rise
    rw [if_pos (show hasE (f + i) p.row = true from h i (by omega)), h1] at h2
    show findE (f + i + 1) p.row = _
    omega
theorem run_eq (hok : p.Ok) (f M i : Nat) (h : ∀ j, j < i → p.has (f + j) = true) (hi : i ≤ M) (he : i = M ∨ p.has (f + i) = false) : p.run f M = (List.range i).map fun j => p.at_ (f + j) := by
  have hat : ∀ j, j < i → ∃ hk : findE f p.row + j < p.row.length, p.at_ (f + j) = p.row[findE f p.row + j] ∧ (p.at_ (f + j)).slot = f + j := fun j hj => by
    obtain ⟨hk, e1, e2⟩ := Rl.at_eq (h j hj)
    have h1 := find_run hok f j fun k hk => h k (by omega)
    have hk' : findE f p.row + j < p.row.length := by omega
    refine ⟨hk', ?_, e2⟩
    rw [e1]
    congr 1
  unfold Rl.run
  have hlen : i ≤ (p.row.drop (findE f p.row)).length := by
    rw [List.length_drop]
    by_cases h0 : i = 0
    · omega
    · obtain ⟨hk, _⟩ := hat (i - 1) (by omega)
      omega
  rw [runL_take M f (p.row.drop (findE f p.row)) i hi hlen (fun j hj hji => by
      obtain ⟨hk, e1, e2⟩ := hat j hji
      rw [List.getElem_drop, ← e1]; exact e2) (by
      rcases he with he | he
      · exact .inl he
      · by_cases hl : i = (p.row.drop (findE f p.row)).length
        · exact .inr (.inl hl)
        · refine .inr (.inr ⟨by omega, fun hs => ?_⟩)
          rw [List.getElem_drop] at hs
          have := (has_iff (x := f + i) hok).2 ⟨_, List.getElem_mem _, hs⟩
          rw [he] at this
          cases this)]
  refine List.ext_getElem (by rw [List.length_take, List.length_map, List.length_range]; omega) fun j h1 h2 => ?_
  rw [List.length_take] at h1
  obtain ⟨hk, e1, _⟩ := hat j (by omega)
  rw [List.getElem_take, List.getElem_drop, List.getElem_map, List.getElem_range, e1]
/-- What the document's Catch answers: a row of the call's own, of entries that lie in the log. -/
def RCatE (w : World) (es : List Ene) (l : List En) (e : Ending) (w' : World) : Prop := ∃ A n c l2, e = .returned (.slice A n c) ∧ Hid (RowN w w' (.slice A n c) l2 ∧ n = l2.length ∧ l2.map (·.1) = l ∧ ∀ x ∈ l2, x ∈ es)
set_option maxRecDepth 100000 in
set_option maxHeartbeats 8000000 in
theorem rcatch_any (h : RDL w G g p A n c es) (f : Nat) (hf : f < 18446744073709551616) (m : Int) (hm : m ≤ 9223372036854775807) : Calls Try.prog 15 #[.pointer (some ⟨g, 0, none⟩), .int .u64 (f : Int), .int .i64 m] w (RCatE w es (p.run f m.toNat)) := by
  obtain ⟨iw, hiw, hzw, hsw, hbw⟩ := info_parts Try.infoEntry
  have HAt : Hid (∀ W, Below w.heap.size w W → ∀ s : Nat, Calls Try.prog 30 #[.pointer (some ⟨g, 0, none⟩), .int .u64 (s : Int)] W fun e w' => (∃ r : Int, e = .returned (.int .i64 r) ∧ Hid (AtR p es s r)) ∧ w' = W) := Lib.hid fun W hb s => rat_any (h.below hb) s
  have HH := Lib.hid h
  have hn4 := h.n_len.2
  have Hl : Hid (n = es.length) := Lib.hid h.len
  obtain ⟨M, hM⟩ : ∃ M, M = m.toNat := ⟨_, rfl⟩
  rw [← hM]
  have HM := Lib.hid hM
  have HC1 : Hid (∀ (a : Int) (x : Option Addr) (y z : Nat), ∀ u ∈ [Value.int .u64 a, .slice x y z], u.oneCell' = true) := Lib.hid fun a x y z => by
    intro u hu
    simp only [List.mem_cons, List.not_mem_nil, or_false] at hu
    rcases hu with rfl | rfl <;> rfl
  have HRun : Hid (∀ i, (∀ j, j < i → p.has (f + j) = true) → i ≤ M → (i = M ∨ p.has (f + i) = false) → p.run f M = (List.range i).map fun j => p.at_ (f + j)) := Lib.hid fun i h1 h2 h3 => run_eq h.ok f M i h1 h2 h3
  have HLe : Hid (∀ i, (∀ j, j < i → p.has (f + j) = true) → i ≤ 4096) := Lib.hid fun i h1 => by
    by_cases h0 : i = 0
    · omega
    · have h2 := h1 (i - 1) (by omega)
      obtain ⟨hk, _⟩ := Rl.at_eq h2
      have h3 := find_run h.ok f (i - 1) fun j hj => h1 j (by omega)
      have h4 := h.ok.len
      omega
  have Hiw := Lib.hid hiw
  have Hzw := Lib.hid hzw
  have Hsw := Lib.hid hsw
  have Hbw := Lib.hid hbw
  have HA0 := Lib.hid (HAt.out w (Below.refl _ _) f)
  clear h hM hiw hzw hsw hbw
  go_enter Try.func15, Try.ntmps15
  go_wp2_with fail
  refine HA0.out.mono ?_
  clear HA0
  rintro e w' ⟨⟨r0, rfl, HX0⟩, hw⟩
  rw [hw]
  clear hw w'
  go_wp2_with fail
  go_loopg [1, 7, 8] M (fun gk a b d wr => ∃ (i s : Nat) (r : Int), a = .int .u64 (s : Int) ∧ Hid (s = f + i) ∧ s < 18446744073709551616 ∧ d = .int .i64 r ∧ i + gk = M ∧ (∃ Ar cr, b = .slice Ar i cr) ∧ Hid (AtR p es s r) ∧ Hid ((∀ j, j < i → p.has (f + j) = true) ∧ ∃ l2, RowN w wr b l2 ∧ i = l2.length ∧ l2.map (·.1) = ((List.range i).map fun j => p.at_ (f + j)) ∧ ∀ x ∈ l2, x ∈ es))
  case atStart => exact ⟨0, f, r0, rfl, Lib.hid rfl, hf, rfl, by omega, ⟨none, 0, rfl⟩, HX0, Lib.hid ⟨fun j hj => by omega, [], ⟨World.ownsRow_nil _ _ _ _, Below.refl _ _⟩, rfl, rfl, fun x hx => by cases hx⟩⟩
  case round =>
    clear HX0
    obtain ⟨i, s, r, rfl, hsf, hs64, rfl, hig, ⟨Ar, cr, rfl⟩, HX, HI⟩ := hrel
    have hi4 := HLe.out i HI.out.1
    have hcase : (r = -1 ∧ p.has s = false) ∨ ∃ k : Nat, r = (k : Int) ∧ ∃ hk : k < es.length, es[k].1.slot = s := HX.out
    rcases hcase with ⟨rfl, hno⟩ | ⟨k, rfl, hk, hsl⟩
    · have HF : Hid (RCatE w es (p.run f M) (.returned (.slice Ar i cr)) wr) := Lib.hid (by
        obtain ⟨l2, h1, h2, h3, h4⟩ := HI.out.2
        exact ⟨Ar, i, cr, l2, rfl, Lib.hid ⟨h1, h2, by rw [h3]; exact (HRun.out i HI.out.1 (by omega) (.inr (by rw [← hsf.out]; exact hno))).symm, h4⟩⟩)
      clear HX HI hno
      go_wp2
      go_ret
      exact HF.out
    · have m2 : (0 : Int) ≤ (k : Int) := by omega
      by_cases hlm : (i : Int) < m
      · have hh := HH.out.hasAt k hk
        rw [hsl] at hh
        have hs2 := (has_pos HH.out.ok hh.1).2
        have e6 : IntKind.u64.wrap ((s : Int) + 1) = ((s + 1 : Nat) : Int) := by rw [IntKind.wrap_u64]; omega
        have hiM : i < M := by have := HM.out; omega
        have m4 : ¬ (k : Int) < 0 := by omega
        have hkn : k < n := by rw [HH.out.len]; exact hk
        have m5 : (k : Int) < (n : Int) := by omega
        obtain ⟨l2, h1, h2, h3, h4⟩ := HI.out.2
        have hb1 := h1.2
        have c1 : wr.cell? ⟨g, 1, none⟩ = some (.slice A n c) := (HH.out.below hb1).c1
        obtain ⟨R, rfl, q0, q1⟩ := (HH.out.below hb1).at_ k hkn
        have hmem := List.getElem_mem hk
        obtain ⟨y, hy⟩ : ∃ y, y = es[k] := ⟨_, rfl⟩
        rw [← hy] at q0 q1 hh hmem
        obtain ⟨⟨ys, yv⟩, ⟨xA, xN, xC⟩⟩ := y
        unfold s3W at q1
        dsimp only at q0 hh
        have HRo : Hid (wr.ownsRow w.heap.size 45 2 (.slice Ar i cr) i (enC l2)) := Lib.hid (by have := h1.1; rwa [← h2] at this)
        have HL2 := Lib.hid (And.intro h1 (And.intro h2 (And.intro h3 h4)))
        have HHs := Lib.hid (And.intro hh hmem)
        have HI1 := Lib.hid HI.out.1
        have HSz := Lib.hid hb1.size
        clear h1 h2 h3 h4 hh hmem hy hsl hk HX HI hb1
        go_wp2_with (at_builtin; refine (?_ : _ ∧ True).1)
        refine ⟨?_, trivial⟩
        refine wpList_append_app _ rfl _ _ 29 rfl w.heap.size 45 iw _ 2 32 Try.underlying29 Hiw.out Hzw.out Hsw.out Hbw.out rfl (.slice Ar i cr) i (enC l2) rfl (own_below HRo.out ((Below.refl _ _).alloc (Nat.le_refl _) _) fun k hk => (HRo.out.lt k hk).2) (some ⟨wr.heap.size, 0, none⟩) 1 1 [.int .u64 (ys : Int), .slice xA xN xC] rfl rfl (by intro e; cases e) (new_cells _ _ _ rfl) (HC1.out _ _ _ _) (by unfold maxLen; omega) (by omega) (by have := HSz.out; simp; omega) ?_
        intro v' w5 happ
        obtain ⟨A6, c6, rfl, _⟩ := own_shape happ.own
        have HR3 : Hid ((∀ j, j < i + 1 → p.has (f + j) = true) ∧ ∃ l2, RowN w w5 (.slice A6 (i + 1) c6) l2 ∧ i + 1 = l2.length ∧ l2.map (·.1) = ((List.range (i + 1)).map fun j => p.at_ (f + j)) ∧ ∀ x ∈ l2, x ∈ es) := Lib.hid (by
          obtain ⟨h1, h2, h3, h4⟩ := HL2.out
          refine ⟨fun j hj => ?_, l2 ++ [(⟨ys, yv⟩, (xA, xN, xC))], RowN.push (h1.alloc1 _) (by rw [← h2]; exact happ), by rw [List.length_append, ← h2]; rfl, ?_, fun x hx => ?_⟩
          · by_cases e : j = i
            · subst e; rw [← hsf.out]; exact HHs.out.1.1
            · exact HI1.out j (by omega)
          · rw [List.map_append, h3, List.range_succ, List.map_append]
            simp only [List.map_cons, List.map_nil]
            rw [← hsf, HHs.out.1.2]
          · rcases List.mem_append.1 hx with hx | hx
            · exact h4 x hx
            · rw [List.mem_singleton.1 hx]; exact HHs.out.2)
        have HB5 : Hid (Below w.heap.size w w5) := Lib.hid (by obtain ⟨_, l3, hl3, _⟩ := HR3.out; exact hl3.2)
        have HA := Lib.hid (HAt.out w5 HB5.out (s + 1))
        clear happ HRo HL2
        go_wp2_with fail
        refine HA.out.mono ?_
        clear HA
        rintro e w' ⟨⟨r2, rfl, HX2⟩, hw⟩
        rw [hw]
        clear hw w'
        go_wp2
        go_roundg (gk - 1)
        case measure => omega
        case rel => exact ⟨i + 1, s + 1, r2, by go_num, Lib.hid (by have := hsf.out; omega), by omega, rfl, by omega, ⟨A6, c6, rfl⟩, HX2, HR3⟩
      · have HF : Hid (RCatE w es (p.run f M) (.returned (.slice Ar i cr)) wr) := Lib.hid (by
          obtain ⟨l2, h1, h2, h3, h4⟩ := HI.out.2
          exact ⟨Ar, i, cr, l2, rfl, Lib.hid ⟨h1, h2, by rw [h3]; exact (HRun.out i HI.out.1 (by omega) (.inl (by have := HM.out; omega))).symm, h4⟩⟩)
        clear HX HI hsl hk
        go_wp2
        go_ret
        exact HF.out
end
end Go.Proofs.Ytnomddhgcdoifaa
