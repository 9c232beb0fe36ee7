/- Layer 12, the document's log: At, Top, Next. -/
import Derived.Test.YtnomddhgcdoifaaRlDa
namespace Go.Proofs.Ytnomddhgcdoifaa
open Go.RowKit

/-- Block g is the document's log of the same entries. -/
structure RDL (w : World) (G : Nat → Prop) (g : Nat) (p : Rl) (A : Option Addr) (n c : Nat) (es : List Ene) : Prop where
  bk : Bk w g 31 #[.int .u64 (p.ap : Int), .slice A n c]
  row : EnRow w G (.slice A n c) es
  al : Alike p (es.map (·.1))
  len : n = es.length
  ok : p.Ok
  fg : G g
  lt : ∀ k, G k → k < w.heap.size
section
variable {w w' : World} {F G : Nat → Prop} {g n c : Nat} {p : Rl} {A : Option Addr} {es : List Ene}
theorem RDL.kp (h : RDL w G g p A n c es) (hk : Kp F w w') (hd : ∀ k, G k → ¬ F k) : RDL w' G g p A n c es :=
  ⟨h.bk.kp hk (hd g h.fg), h.row.kp hk hd, h.al, h.len, h.ok, h.fg, fun k e => Nat.lt_of_lt_of_le (h.lt k e) hk.size⟩
theorem RDL.below (h : RDL w G g p A n c es) (hb : Below w.heap.size w w') : RDL w' G g p A n c es := h.kp (F := fun _ => False) (Kp.of_below hb) fun _ _ h => h
theorem RDL.c0 (h : RDL w G g p A n c es) : w.cell? ⟨g, 0, none⟩ = some (.int .u64 (p.ap : Int)) := h.bk.cell 0
theorem RDL.c1 (h : RDL w G g p A n c es) : w.cell? ⟨g, 1, none⟩ = some (.slice A n c) := h.bk.cell 1
theorem RDL.n_len (h : RDL w G g p A n c es) : n = p.row.length ∧ n ≤ 4096 := by
  have h1 := h.al.len
  have h2 := h.ok.len
  have h3 := h.len
  rw [List.length_map] at h1
  omega
theorem RDL.at_ (h : RDL w G g p A n c es) (i : Nat) (hi : i < n) : ∃ R, A = some ⟨R, 0, none⟩ ∧ w.cell? ⟨R, i * 2, none⟩ = some (.int .u64 ((es[i]'(h.len ▸ hi)).1.slot : Int)) ∧ w.cell? ⟨R, i * 2 + 1, none⟩ = some (s3W (es[i]'(h.len ▸ hi)).2) := by
  obtain ⟨R, c', ev, _, _, _, q⟩ := h.row.cell i (h.len ▸ hi)
  injection ev with ev _ _
  exact ⟨R, ev, q⟩
theorem RDL.hasAt (h : RDL w G g p A n c es) (i : Nat) (hi : i < es.length) : p.has es[i].1.slot = true ∧ p.at_ es[i].1.slot = es[i].1 := by
  have h1 := h.al.at_ (k := i) (s := es[i].1.slot) h.ok (by simpa using hi) (by simp)
  simpa using h1
theorem RDL.hasNot (h : RDL w G g p A n c es) {s : Nat} (hn : ∀ j (hj : j < es.length), es[j].1.slot ≠ s) : p.has s = false :=
  h.al.no h.ok fun k hk => by
    have hk' : k < es.length := by simpa using hk
    simpa using hn k hk'
/-- Where a slot stands. -/
def AtR (p : Rl) (es : List Ene) (s : Nat) (r : Int) : Prop := (r = -1 ∧ p.has s = false) ∨ ∃ k : Nat, r = (k : Int) ∧ ∃ hk : k < es.length, es[k].1.slot = s
set_option maxRecDepth 100000 in
set_option maxHeartbeats 4000000 in
theorem rat_any (h : RDL w G g p A n c es) (s : Nat) : Calls Try.prog 30 #[.pointer (some ⟨g, 0, none⟩), .int .u64 (s : Int)] w fun e w' => (∃ r : Int, e = .returned (.int .i64 r) ∧ Hid (AtR p es s r)) ∧ w' = w := by
  have H := Lib.hid h
  have hn := h.n_len.2
  have Hn := Lib.hid h.len
  have c1 := h.c1
  clear h
  go_enter Try.func30, Try.ntmps30
  go_wp2_with fail
  go_loopg [5] n (fun gk a wr => ∃ i : Nat, a = .int .i64 (i : Int) ∧ i + gk = n ∧ wr = w ∧ Hid (∀ j (hj : j < es.length), j < i → es[j].1.slot ≠ s))
  case atStart => exact ⟨0, rfl, by omega, rfl, Lib.hid fun j _ h => by omega⟩
  case round =>
    obtain ⟨i, rfl, hig, rfl, HN⟩ := hrel
    by_cases hin : i < n
    · have hil : i < es.length := by rw [← Hn.out]; exact hin
      have m1 : (i : Int) < (n : Int) := by omega
      have m0 : ¬ (i : Int) < 0 := by omega
      have e5 : IntKind.i64.wrap ((i : Int) + 1) = ((i + 1 : Nat) : Int) := by rw [IntKind.wrap_i64]; omega
      obtain ⟨R, rfl, q0, _⟩ := H.out.at_ i hin
      by_cases he : es[i].1.slot = s
      · have HA : Hid (AtR p es s (i : Int)) := Lib.hid (.inr ⟨i, rfl, hil, he⟩)
        rw [he] at q0
        go_wp2
        go_ret
        exact ⟨⟨_, rfl, HA⟩, rfl⟩
      · have n1 : ((es[i].1.slot : Int) == (s : Int)) = false := by simp; omega
        have n2 : ¬ (es[i].1.slot : Int) = (s : Int) := by omega
        have HN2 : Hid (∀ j (hj : j < es.length), j < i + 1 → es[j].1.slot ≠ s) := Lib.hid fun j hj hji => by
          by_cases e : j = i
          · subst e; exact he
          · exact HN.out j hj (by omega)
        generalize es[i].1.slot = LI at *
        clear he
        go_wp2
        go_roundg (gk - 1)
        case measure => omega
        case rel => exact ⟨i + 1, by go_num, by omega, rfl, HN2⟩
    · obtain rfl : i = n := by omega
      have m1 : ¬ (i : Int) < (i : Int) := by omega
      have HA : Hid (AtR p es s (-1)) := Lib.hid (.inl ⟨rfl, H.out.hasNot fun j hj => HN.out j hj (by rw [Hn.out]; exact hj)⟩)
      go_wp2
      go_ret
      exact ⟨⟨_, rfl, HA⟩, rfl⟩
set_option maxRecDepth 100000 in
set_option maxHeartbeats 4000000 in
theorem rtop_any (h : RDL w G g p A n c es) : Calls Try.prog 12 #[.pointer (some ⟨g, 0, none⟩)] w fun e w' => e = .returned (.int .u64 (p.top : Int)) ∧ w' = w := by
  have H := Lib.hid h
  have hn := h.n_len.2
  have Hn := Lib.hid h.len
  have c0 := h.c0
  have c1 := h.c1
  obtain ⟨T, hT⟩ : ∃ T, T = p.top := ⟨_, rfl⟩
  rw [← hT]
  have HT := Lib.hid hT
  clear h hT
  go_enter Try.func12, Try.ntmps12
  go_wp2_with fail
  go_loopg [3, 4] n (fun gk b a wr => ∃ i t : Nat, b = .int .u64 (t : Int) ∧ a = .int .i64 (i : Int) ∧ i + gk = n ∧ wr = w ∧ Hid (p.ap ≤ t ∧ (t = p.ap ∨ p.has t = true) ∧ ∀ j (hj : j < es.length), j < i → es[j].1.slot ≤ t))
  case atStart => exact ⟨0, p.ap, rfl, rfl, by omega, rfl, Lib.hid ⟨Nat.le_refl _, .inl rfl, fun j _ h => by omega⟩⟩
  case round =>
    obtain ⟨i, t, rfl, rfl, hig, rfl, HN⟩ := hrel
    by_cases hin : i < n
    · have hil : i < es.length := by rw [← Hn.out]; exact hin
      have m1 : (i : Int) < (n : Int) := by omega
      have m0 : ¬ (i : Int) < 0 := by omega
      have e5 : IntKind.i64.wrap ((i : Int) + 1) = ((i + 1 : Nat) : Int) := by rw [IntKind.wrap_i64]; omega
      obtain ⟨R, rfl, q0, _⟩ := H.out.at_ i hin
      have hhas := (H.out.hasAt i hil).1
      obtain ⟨x, hx⟩ : ∃ x, x = es[i].1.slot := ⟨_, rfl⟩
      rw [← hx] at q0 hhas
      by_cases hgt : t < x
      · have n1 : (t : Int) < (x : Int) := by omega
        have HN2 : Hid (p.ap ≤ x ∧ (x = p.ap ∨ p.has x = true) ∧ ∀ j (hj : j < es.length), j < i + 1 → es[j].1.slot ≤ x) := Lib.hid ⟨by have := HN.out.1; omega, .inr hhas, fun j hj hji => by
          by_cases e : j = i
          · subst e; omega
          · have := HN.out.2.2 j hj (by omega); omega⟩
        clear hx hhas
        go_wp2
        go_roundg (gk - 1)
        case measure => omega
        case rel => exact ⟨i + 1, x, rfl, by go_num, by omega, rfl, HN2⟩
      · have n1 : ¬ (t : Int) < (x : Int) := by omega
        have HN2 : Hid (p.ap ≤ t ∧ (t = p.ap ∨ p.has t = true) ∧ ∀ j (hj : j < es.length), j < i + 1 → es[j].1.slot ≤ t) := Lib.hid ⟨HN.out.1, HN.out.2.1, fun j hj hji => by
          by_cases e : j = i
          · subst e; omega
          · have := HN.out.2.2 j hj (by omega); omega⟩
        clear hx hhas
        go_wp2
        go_roundg (gk - 1)
        case measure => omega
        case rel => exact ⟨i + 1, t, rfl, by go_num, by omega, rfl, HN2⟩
    · obtain rfl : i = n := by omega
      have m1 : ¬ (i : Int) < (i : Int) := by omega
      have hTt : T = t := by
        rw [HT.out]
        refine top_eq H.out.ok HN.out.1 HN.out.2.1 fun x hx => ?_
        obtain ⟨k, hk, hs⟩ := (H.out.al.has H.out.ok).1 hx
        have hk' : k < es.length := by simpa using hk
        have := HN.out.2.2 k hk' (by rw [Hn.out]; exact hk')
        rw [← hs]
        simpa using this
      clear HT
      subst hTt
      go_wp2
      go_ret
      exact ⟨rfl, rfl⟩
/-- The first slot behind the applied ones that is not kept. -/
theorem first_gap (hok : p.Ok) : ∀ (m x : Nat), p.ap < x → (∀ y, p.ap < y → y < x → p.has y = true) → p.top + 1 ≤ x + m → ∃ z, p.ap < z ∧ (∀ y, p.ap < y → y < z → p.has y = true) ∧ p.has z = false
  | 0, x, h1, h2, h3 => ⟨x, h1, h2, by
    cases h : p.has x with
    | false => rfl
    | true => have := top_all hok h; omega⟩
  | m + 1, x, h1, h2, h3 => by
    cases h : p.has x with
    | false => exact ⟨x, h1, h2, h⟩
    | true => exact first_gap hok m (x + 1) (by omega) (fun y h4 h5 => by
        by_cases e : y = x
        · subst e; exact h
        · exact h2 y h4 (by omega)) (by omega)
theorem next_spec (hok : p.Ok) (hl : p.row.length < 4096) : p.ap < p.next ∧ (∀ y, p.ap < y → y < p.next → p.has y = true) ∧ p.has p.next = false ∧ p.next ≤ p.ap + 1 + p.row.length := by
  obtain ⟨z, h1, h2, h3⟩ := first_gap hok (p.top + 1) (p.ap + 1) (by omega) (fun y h4 h5 => by omega) (by omega)
  have h4 := next_eq hok hl h1 h2 h3
  rw [h4]
  refine ⟨h1, h2, h3, ?_⟩
  rw [← h4]
  unfold Rl.next Rl.run
  have := (runL_facts 4096 (p.ap + 1) (p.row.drop (findE (p.ap + 1) p.row))).2.1
  rw [List.length_drop] at this
  omega
set_option maxRecDepth 100000 in
set_option maxHeartbeats 4000000 in
theorem rnext_any (h : RDL w G g p A n c es) (hl : p.row.length < 4096) : Calls Try.prog 10 #[.pointer (some ⟨g, 0, none⟩)] w fun e w' => e = .returned (.int .u64 (p.next : Int)) ∧ w' = w := by
  have HAt := Lib.hid fun s => rat_any h s
  have hn := h.n_len
  have c0 := h.c0
  have c1 := h.c1
  have hap := h.ok.ap
  obtain ⟨s1, s2, s3, s4⟩ := next_spec h.ok hl
  obtain ⟨X, hX⟩ : ∃ X, X = p.next := ⟨_, rfl⟩
  rw [← hX] at s1 s2 s3 s4 ⊢
  obtain ⟨ap, hae⟩ : ∃ ap, ap = p.ap := ⟨_, rfl⟩
  rw [← hae] at c0 s1 s2 s4 hap
  have HS := Lib.hid (And.intro s2 s3)
  have HH := Lib.hid h
  have hn2 := hn.2
  have hXn : X ≤ ap + 1 + n := by omega
  have ea : IntKind.u64.wrap ((ap : Int) + 1) = ((ap + 1 : Nat) : Int) := by rw [IntKind.wrap_u64]; omega
  clear h hX hae s2 s3 s4 hn hl
  go_enter Try.func10, Try.ntmps10
  go_wp2_with fail
  go_loopg [3, 4] (n + 1) (fun gk b a wr => ∃ k : Nat, b = .int .u64 ((ap + 1 + k : Nat) : Int) ∧ a = .int .i64 (k : Int) ∧ k + gk = n + 1 ∧ ap + 1 + k ≤ X ∧ wr = w)
  case atStart => exact ⟨0, rfl, rfl, by omega, by omega, rfl⟩
  case round =>
    obtain ⟨k, rfl, rfl, hkg, hkX, rfl⟩ := hrel
    have hkn : k ≤ n := by omega
    have m1 : (k : Int) ≤ (n : Int) := by omega
    have e5 : IntKind.i64.wrap ((k : Int) + 1) = ((k + 1 : Nat) : Int) := by rw [IntKind.wrap_i64]; omega
    obtain ⟨x, hx⟩ : ∃ x, x = ap + 1 + k := ⟨_, rfl⟩
    have HA := Lib.hid (HAt.out x)
    rw [← hx]
    rw [← hx] at hkX
    have hxx := Lib.hid hx
    clear hx
    go_wp2_with fail
    refine HA.out.mono ?_
    clear HA
    rintro e w' ⟨⟨r, rfl, HR⟩, hw⟩
    rw [hw]
    clear hw w'
    by_cases hxX : x = X
    · have hr : r = -1 := by
        rcases HR.out with h | ⟨k', _, hk', hs⟩
        · exact h.1
        · have := (HH.out.hasAt k' hk').1
          rw [hs, hxX, HS.out.2] at this
          cases this
      subst hr
      rw [hxX]
      go_wp2
      go_ret
      exact ⟨rfl, rfl⟩
    · have hr : ∃ k' : Nat, r = (k' : Int) := by
        rcases HR.out with h | ⟨k', h, _⟩
        · have := HS.out.1 x (by have := hxx.out; omega) (by omega)
          rw [h.2] at this
          cases this
        · exact ⟨k', h⟩
      obtain ⟨k', rfl⟩ := hr
      have m2 : ¬ (k' : Int) < 0 := by omega
      have hx64 : x + 1 < 18446744073709551616 := by
        have h1 := HS.out.1 x (by have := hxx.out; omega) (by omega)
        have := (has_pos HH.out.ok h1).2
        omega
      have e6 : IntKind.u64.wrap ((x : Int) + 1) = ((x + 1 : Nat) : Int) := by rw [IntKind.wrap_u64]; omega
      clear HR
      go_wp2
      go_roundg (gk - 1)
      case measure => omega
      case rel => exact ⟨k + 1, by have := hxx.out; subst this; go_num, by go_num, by omega, by have := hxx.out; omega, rfl⟩
end
end Go.Proofs.Ytnomddhgcdoifaa
