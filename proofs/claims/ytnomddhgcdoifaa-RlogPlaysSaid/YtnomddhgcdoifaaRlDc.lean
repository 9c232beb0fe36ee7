/- Layer 12, the document's log: Holes. -/
import Derived.Test.YtnomddhgcdoifaaRlDb
import Derived.Test.YtnomddhgcdoifaaRlS
namespace Go.Proofs.Ytnomddhgcdoifaa
open Go.RowKit

section
variable {w w' : World} {F G : Nat → Prop} {g n c : Nat} {p : Rl} {A : Option Addr} {es : List Ene}
set_option maxRecDepth 100000 in
set_option maxHeartbeats 4000000 in
theorem rholes_any (h : RDL w G g p A n c es) (m : Int) (hm : m ≤ 1000000) : Calls Try.prog 17 #[.pointer (some ⟨g, 0, none⟩), .int .i64 m] w (HolE w (p.hol m.toNat p.top)) := by
  obtain ⟨i0, hi0, hz0, hz1, hz2⟩ := info_parts infoU64
  have HAt : Hid (∀ W, Below w.heap.size w W → ∀ s : Nat, Calls Try.prog 30 #[.pointer (some ⟨g, 0, none⟩), .int .u64 (s : Int)] W fun e w' => (∃ r : Int, e = .returned (.int .i64 r) ∧ Hid (AtR p es s r)) ∧ w' = W) := Lib.hid fun W hb s => rat_any (h.below hb) s
  have HTop := Lib.hid (rtop_any h)
  have c0 := h.c0
  have hap := h.ok.ap
  have ht1 := top_ge p
  have HH := Lib.hid h
  obtain ⟨T, hT⟩ : ∃ T, T = p.top := ⟨_, rfl⟩
  have hT64 : T < 18446744073709551615 := by
    by_cases e : p.ap < p.top
    · have := (has_pos h.ok (top_kept h.ok e)).2
      omega
    · omega
  rw [← hT] at HTop ht1 ⊢
  obtain ⟨ap, hae⟩ : ∃ ap, ap = p.ap := ⟨_, rfl⟩
  rw [← hae] at c0 ht1 hap
  have ea : IntKind.u64.wrap ((ap : Int) + 1) = ((ap + 1 : Nat) : Int) := by rw [IntKind.wrap_u64]; omega
  obtain ⟨M, hM⟩ : ∃ M, M = m.toNat := ⟨_, rfl⟩
  rw [← hM]
  have HEnd : Hid (∀ s, ap + 1 ≤ s → (s = max T (ap + 1) ∨ (s ≤ T ∧ M ≤ (p.hol M s).length)) → p.hol M s = p.hol M T) := Lib.hid fun s h1 h2 => by
    subst hae
    rcases h2 with h2 | ⟨h2, h3⟩
    · by_cases e : p.ap + 1 ≤ T
      · rw [show s = T by omega]
      · rw [hol_low p M (by omega), hol_low p M (by omega)]
    · exact (hol_full' h1 h3 h2).symm
  have HM := Lib.hid hM
  have HAe := Lib.hid hae
  clear h hT hae hM
  go_enter Try.func17, Try.ntmps17
  go_wp2_with fail
  refine HTop.out.mono ?_
  clear HTop
  rintro e w' ⟨rfl, hw⟩
  rw [hw]
  clear hw w'
  go_wp2_with fail
  go_loopg [5, 7] (max T (ap + 1) - (ap + 1)) (fun gk a b wr => ∃ s : Nat, b = .int .u64 (s : Int) ∧ ap + 1 ≤ s ∧ s + gk = max T (ap + 1) ∧ (∃ A c, a = .slice A (p.hol M s).length c) ∧ Hid (HolS w a (p.hol M s) wr))
  case atStart =>
    have h0 : p.hol M (ap + 1) = [] := by rw [HAe.out]; exact hol_start p M
    refine ⟨ap + 1, rfl, Nat.le_refl _, by omega, ⟨none, 0, by rw [h0]; rfl⟩, Lib.hid ?_⟩
    rw [h0]
    exact ⟨by simpa [u64s] using World.ownsRow_nil _ _ _ _, Below.refl _ _⟩
  case round =>
    obtain ⟨s, rfl, hs1, hsg, ⟨Ah, ch, rfl⟩, HS⟩ := hrel
    obtain ⟨Ln, hLn⟩ : ∃ Ln, Ln = (p.hol M s).length := ⟨_, rfl⟩
    have hLM : Ln ≤ M := by rw [hLn]; exact hol_len p M s
    rw [← hLn] at HS ⊢
    have HLn := Lib.hid hLn
    have hM1 : M ≤ 1000000 := by have := HM.out; omega
    clear hLn
    by_cases hst : s < T
    · have m1 : (s : Int) < (T : Int) := by omega
      by_cases hlm : (Ln : Int) < m
      · have HA := Lib.hid (HAt.out wr HS.out.bel s)
        have e6 : IntKind.u64.wrap ((s : Int) + 1) = ((s + 1 : Nat) : Int) := by rw [IntKind.wrap_u64]; omega
        have hlM : Ln < M := by have := HM.out; omega
        go_wp2_with fail
        refine HA.out.mono ?_
        clear HA
        rintro e w' ⟨⟨r, rfl, HR⟩, hw⟩
        rw [hw]
        clear hw w'
        have hcase : (r = -1 ∧ p.has s = false) ∨ ∃ k : Nat, r = (k : Int) ∧ p.has s = true := by
          rcases HR.out with h | ⟨k, h1, hk, h2⟩
          · exact .inl h
          · exact .inr ⟨k, h1, by have := (HH.out.hasAt k hk).1; rwa [h2] at this⟩
        clear HR
        rcases hcase with ⟨rfl, hhas⟩ | ⟨k, rfl, hhas⟩
        · have hadd : p.hol M (s + 1) = p.hol M s ++ [s] := hol_add (by have := HAe.out; omega) hhas (by have := HLn.out; omega)
          have HAdd := Lib.hid hadd
          have HO : Hid (wr.ownsRow w.heap.size 23 1 (.slice Ah Ln ch) Ln (u64s (p.hol M s))) := Lib.hid (by have := HS.out.own; rwa [← HLn.out] at this)
          clear hadd hhas
          go_wp2_with (at_builtin; refine (?_ : _ ∧ True).1)
          refine ⟨?_, trivial⟩
          refine wpList_append_app _ rfl _ _ 39 rfl w.heap.size 23 i0 (.int .u64 0) 1 8 Try.underlying39 hi0 hz0 hz1 hz2 rfl _ Ln (u64s (p.hol M s)) rfl (own_below HO.out ((Below.refl _ _).alloc (Nat.le_refl _) _) fun k hk => (HO.out.lt k hk).2) (some ⟨wr.heap.size, 0, none⟩) 1 1 (u64s [s]) rfl rfl (by intro e; cases e) (new_cells wr _ 23 rfl) (u64s_one _) (by unfold maxLen; omega) (by omega) (by have := HS.out.bel.size; simp; omega) ?_
          intro v' w5 ha
          obtain ⟨A6, c6, rfl, _⟩ := own_shape ha.own
          have HS6 : Hid (HolS w (.slice A6 (Ln + 1) c6) (p.hol M (s + 1)) w5 ∧ (p.hol M (s + 1)).length = Ln + 1) := Lib.hid (by
            have hl6 : (p.hol M (s + 1)).length = Ln + 1 := by rw [HAdd.out, List.length_append, ← HLn.out]; rfl
            refine ⟨⟨?_, ha.below (HS.out.bel.trans (((Below.refl _ _).alloc (Nat.le_refl _) _ : Below wr.heap.size wr _).mono HS.out.bel.size)) (by have := HS.out.bel.size; simp; omega) fun k hk => (HO.out.lt k hk).1⟩, hl6⟩
            rw [hl6, HAdd.out, u64s_app]
            exact ha.own)
          clear ha HO HS
          go_wp2
          go_roundg (gk - 1)
          case measure => omega
          case rel => exact ⟨s + 1, by go_num, by omega, by omega, ⟨A6, c6, by rw [HS6.out.2]⟩, Lib.hid HS6.out.1⟩
        · have hkp : p.hol M (s + 1) = p.hol M s := hol_kept (by have := HAe.out; omega) hhas
          have HS6 : Hid (HolS w (.slice Ah Ln ch) (p.hol M (s + 1)) wr ∧ (p.hol M (s + 1)).length = Ln) := Lib.hid (by rw [hkp]; exact ⟨HS.out, HLn.out.symm⟩)
          have m2 : ¬ (k : Int) < 0 := by omega
          clear hkp hhas HS
          go_wp2
          go_roundg (gk - 1)
          case measure => omega
          case rel => exact ⟨s + 1, by go_num, by omega, by omega, ⟨Ah, ch, by rw [HS6.out.2]⟩, Lib.hid HS6.out.1⟩
      · have hend : p.hol M s = p.hol M T := HEnd.out s hs1 (.inr ⟨by omega, by have := HLn.out; have := HM.out; omega⟩)
        have HF : Hid (HolE w (p.hol M T) (.returned (.slice Ah Ln ch)) wr) := Lib.hid ⟨Ah, Ln, ch, rfl, by have := HS.out.own; rw [← HLn.out] at this; rwa [hend] at this, by rw [← hend]; exact HLn.out.symm, HS.out.bel⟩
        clear hend HS
        go_wp2
        go_ret
        exact HF.out
    · have m1 : ¬ (s : Int) < (T : Int) := by omega
      have hend : p.hol M s = p.hol M T := HEnd.out s hs1 (.inl (by omega))
      have HF : Hid (HolE w (p.hol M T) (.returned (.slice Ah Ln ch)) wr) := Lib.hid ⟨Ah, Ln, ch, rfl, by have := HS.out.own; rw [← HLn.out] at this; rwa [hend] at this, by rw [← hend]; exact HLn.out.symm, HS.out.bel⟩
      clear hend HS
      go_wp2
      go_ret
      exact HF.out
end
end Go.Proofs.Ytnomddhgcdoifaa
