/- OnceRoom: who is forgotten; what the law sees of a round. -/
import Derived.Test.YtonkohbmknopmaaOnQ
import Derived.Test.YtonkohbmknopmaaOnKn
namespace Go.Proofs.Ytonkohbmknopmaa
open Go.RowKit Go.Maps

theorem findC_is {l : List Cl} {c : Cl} (h : c ∈ l) : (findC c.id l).isSome = true := by
  cases hf : findC c.id l with
  | some k => rfl
  | none => exact absurd rfl (findC_none hf c h)
theorem findC_no {l : List Cl} {id : Nat} (h : ∀ c ∈ l, c.id ≠ id) : findC id l = none := by
  unfold findC
  rw [List.findIdx?_eq_none_iff]
  intro c hc
  simpa using h c hc
/-- What a Begin leaves of those that were there. -/
structure RoomF (m : Nat) (id : Nat) (er : Int) (l l' : List Cl) (kg : Option Nat) : Prop where
  len : l'.length ≤ m
  same : er ≠ 0 → l' = l
  last : er = 0 → ∃ l0 c, l' = l0 ++ [c] ∧ c.id = id
  here : ∀ i (hi : i < l.length), some i ≠ kg → (findC l[i].id l').isSome = true
  gone : ∀ k, kg = some k → ∃ hk : k < l.length, findC l[k].id l' = none ∧ l[k].busy = false ∧ l.length = m ∧ ∀ j (hj : j < k), l[j].busy = true
theorem RoomF.err {m id : Nat} {er : Int} {l : List Cl} (h : er ≠ 0) (hl : l.length ≤ m) : RoomF m id er l l none :=
  ⟨hl, fun _ => rfl, fun e => absurd e h, fun i hi _ => findC_is (List.getElem_mem hi), fun k e => by cases e⟩
theorem id_at {l : List Cl} (hn : (l.map (·.id)).Nodup) {i k : Nat} (hi : i < l.length) (hk : k < l.length) (h : l[i].id = l[k].id) : i = k := by
  have h1 := List.pairwise_iff_getElem.1 hn
  rcases Nat.lt_trichotomy i k with a | a | a
  · have := h1 i k (by simpa using hi) (by simpa using hk) a
    simp at this
    exact absurd h this
  · exact a
  · have := h1 k i (by simpa using hk) (by simpa using hi) a
    simp at this
    exact absurd h.symm this
theorem RoomF.use {m : Nat} {l : List Cl} (hn : (l.map (·.id)).Nodup) (hl : l.length ≤ m) {k : Nat} (hk : k < l.length) {c : Cl} (hc : c.id = l[k].id) : RoomF m l[k].id 0 l (useC k c l) none :=
  ⟨by rw [use_len hk]; exact hl, fun h => absurd rfl h, fun _ => ⟨l.eraseIdx k, c, rfl, hc⟩, fun i hi _ => by
    by_cases h : l[i].id = l[k].id
    · rw [h, ← hc]
      exact findC_is (by unfold useC; simp)
    · exact findC_is (by
        unfold useC
        rw [erase_others hn hk]
        exact List.mem_append_left _ (List.mem_filter.2 ⟨List.getElem_mem hi, by simpa using h⟩)), fun k e => by cases e⟩
theorem begin_room {t : Tb} (hok : t.Ok) (id num : Nat) : ∃ kg, RoomF t.most id (t.begin id num).err t.row (t.begin id num).tb.row kg := by
  have hl := hok.len
  by_cases h0 : num = 0
  · have : t.begin id num = ⟨0, [], 2, t⟩ := by unfold Tb.begin; rw [if_pos h0]
    rw [this]
    exact ⟨none, RoomF.err (show (2 : Int) ≠ 0 by decide) hl⟩
  cases hf : findC id t.row with
  | some k =>
    obtain ⟨hk, hid⟩ := findC_some hf
    have hat := Tb.at_eq t hk
    by_cases h1 : num < t.row[k].num
    · have : t.begin id num = ⟨0, [], 70, t⟩ := by unfold Tb.begin; simp only [if_neg h0, hf, hat, if_pos h1]
      rw [this]
      exact ⟨none, RoomF.err (show (70 : Int) ≠ 0 by decide) hl⟩
    · by_cases h2 : t.row[k].num < num
      · have : t.begin id num = t.fresh id num (t.row.eraseIdx k) := by unfold Tb.begin; simp only [if_neg h0, hf, hat, if_neg h1, if_pos h2]
        rw [this]
        refine ⟨none, ?_⟩
        have := RoomF.use hok.ids hl hk (c := ⟨id, num, true, []⟩) hid.symm
        rw [hid] at this
        exact this
      · have hu := RoomF.use hok.ids hl hk (c := t.row[k]) rfl
        rw [hid] at hu
        cases hb : t.row[k].busy with
        | true =>
          have : t.begin id num = ⟨3, [], 0, { t with row := useC k t.row[k] t.row }⟩ := by unfold Tb.begin; simp only [if_neg h0, hf, hat, if_neg h1, if_neg h2, hb, if_true]
          rw [this]
          exact ⟨none, hu⟩
        | false =>
          have : t.begin id num = ⟨2, t.row[k].rep, 0, { t with row := useC k t.row[k] t.row, na := more1 t.na }⟩ := by unfold Tb.begin; simp [if_neg h0, hf, hat, if_neg h1, if_neg h2, hb]
          rw [this]
          exact ⟨none, hu⟩
  | none =>
    have hno := findC_none hf
    rw [begin_none h0 hf]
    by_cases hr : t.row.length < t.most
    · have hro : t.roomy = (true, t) := by unfold Tb.roomy; rw [if_pos hr]
      rw [hro, if_pos rfl]
      refine ⟨none, ⟨by simp only [Tb.fresh, List.length_append, List.length_singleton]; omega, fun h => absurd rfl h, fun _ => ⟨t.row, ⟨id, num, true, []⟩, rfl, rfl⟩, fun i hi _ => findC_is (List.mem_append_left _ (List.getElem_mem hi)), fun k e => by cases e⟩⟩
    · cases hfr : freeC t.row with
      | none =>
        have hro : t.roomy = (false, t) := by unfold Tb.roomy; rw [if_neg hr, hfr]
        rw [hro, if_neg (by simp)]
        exact ⟨none, RoomF.err (show (130 : Int) ≠ 0 by decide) hl⟩
      | some k =>
        have hro : t.roomy = (true, { t with row := t.row.eraseIdx k }) := by unfold Tb.roomy; rw [if_neg hr, hfr]
        rw [hro, if_pos rfl]
        obtain ⟨hk, hb, hj⟩ := freeC_some hfr
        refine ⟨some k, ⟨?_, fun h => absurd rfl h, fun _ => ⟨t.row.eraseIdx k, ⟨id, num, true, []⟩, rfl, rfl⟩, fun i hi hne => ?_, fun k' e => ?_⟩⟩
        · simp only [Tb.fresh, List.length_append, List.length_singleton, List.length_eraseIdx_of_lt hk]; omega
        · have hik : i ≠ k := fun e => hne (by rw [e])
          exact findC_is (by
            show _ ∈ t.row.eraseIdx k ++ _
            rw [erase_others hok.ids hk]
            exact List.mem_append_left _ (List.mem_filter.2 ⟨List.getElem_mem hi, by simpa using fun e => hik (id_at hok.ids hi hk e)⟩))
        · injection e with e
          subst e
          refine ⟨hk, findC_no fun c hc => ?_, hb, by omega, hj⟩
          rcases List.mem_append.1 hc with hc | hc
          · exact erase_id hok.ids hk c hc
          · rw [List.mem_singleton.1 hc]
            exact fun e => hno _ (List.getElem_mem hk) e.symm
/-- A table with so much room. -/
def SvR (W : World) (g M : Nat) (w : World) : Prop := ∃ F t, OW W w F g t ∧ t.most = M
theorem begin_most (t : Tb) (id num : Nat) : (t.begin id num).tb.most = t.most := by
  unfold Tb.begin Tb.fresh
  by_cases h0 : num = 0
  · rw [if_pos h0]
  · rw [if_neg h0]
    cases findC id t.row with
    | some k =>
      dsimp only
      split
      · rfl
      · split
        · rfl
        · split <;> rfl
    | none =>
      dsimp only
      split
      · rfl
      · cases freeC t.row <;> rfl
theorem ended_most (t : Tb) (id num : Nat) (rep : List UInt8) : (t.ended id num rep).2.most = t.most := by
  unfold Tb.ended
  split
  · rfl
  · cases findC id t.row with
    | some k => dsimp only; split <;> rfl
    | none => rfl
/-- Behind a Begin, ahead of the law's looking. -/
structure RoomS (W : World) (g M bx : Nat) (ty : TypeId) (cs : Array Value) (id : Nat) (er : Int) (A A' : Option Addr) (l l' : List Cl) (kg : Option Nat) (w : World) : Prop where
  was : CsR w A l
  now : CsR w A' l'
  box : Bk w bx ty cs
  sv : SvR W g M w
  len : l.length ≤ M
  f : RoomF M id er l l' kg
section
variable {W w w' : World} {g M : Nat}
theorem SvR.bel (h : SvR W g M w) : Below W.heap.size W w := by obtain ⟨F, t, h, _⟩ := h; exact h.bel
theorem SvR.below (h : SvR W g M w) (hb : Below w.heap.size w w') : SvR W g M w' := by obtain ⟨F, t, h, e⟩ := h; exact ⟨F, t, h.below hb, e⟩
theorem RoomS.below {bx : Nat} {ty : TypeId} {cs : Array Value} {id : Nat} {er : Int} {A A' : Option Addr} {l l' : List Cl} {kg : Option Nat} (h : RoomS W g M bx ty cs id er A A' l l' kg w) (hb : Below w.heap.size w w') : RoomS W g M bx ty cs id er A A' l l' kg w' :=
  ⟨h.was.up hb, h.now.up hb, h.box.below hb h.box.lt, h.sv.below hb, h.len, h.f⟩
/-- The second Clients. -/
def R3 (W : World) (g M bx : Nat) (ty : TypeId) (cs : Array Value) (id : Nat) (er : Int) (A : Option Addr) (l : List Cl) (e : Ending) (w3 : World) : Prop :=
  ∃ A' c' m' l' kg, e = .returned (.slice A' m' c') ∧ m' = l'.length ∧ Hid (RoomS W g M bx ty cs id er A A' l l' kg w3)
/-- The Begin. -/
def R2 (W : World) (g M bx : Nat) (ty : TypeId) (cs : Array Value) (id : Nat) (A : Option Addr) (l : List Cl) (e : Ending) (w2 : World) : Prop :=
  ∃ v1 v2 er, e = .returned (.tuple #[v1, v2, .int .i64 er]) ∧ Hid (Calls Try.prog 26 #[.pointer (some ⟨g, 0, none⟩)] w2 (R3 W g M bx ty cs id er A l))
/-- The first Clients. -/
def R1 (W : World) (g M : Nat) (e : Ending) (w1 : World) : Prop :=
  ∃ A c m l, e = .returned (.slice A m c) ∧ m = l.length ∧ Hid (Below W.heap.size W w1) ∧
    Hid (∀ id num ty cs, id < 18446744073709551616 → num < 18446744073709551616 → Calls Try.prog 13 #[.pointer (some ⟨g, 0, none⟩), .int .u64 ((id : Nat) : Int), .int .u64 ((num : Nat) : Int)] (w1.alloc (.cells cs ty)) (R2 W g M w1.heap.size ty cs id A l)) ∧
    Hid (∀ (id num : Nat) A0 n0 c0 rep ty cs, id < 18446744073709551616 → Rd W W.heap.size A0 n0 rep → n0 ≤ c0 ∧ c0 ≤ maxLen → n0 ≤ 1000000 → Calls Try.prog 18 #[.pointer (some ⟨g, 0, none⟩), .int .u64 ((id : Nat) : Int), .int .u64 ((num : Nat) : Int), .slice A0 n0 c0] (w1.alloc (.cells cs ty)) fun e w2 => ∃ v, e = .returned v ∧ Hid (SvR W g M w2))
theorem SvR.round (h : SvR W g M w) : Calls Try.prog 26 #[.pointer (some ⟨g, 0, none⟩)] w (R1 W g M) := by
  obtain ⟨F, t, h, hM⟩ := h
  refine (clients_any h.p h.ok).mono ?_
  rintro e w1 ⟨A, c, m, rfl, hm, HX⟩
  obtain ⟨es, he, hc, hb⟩ := HX.out
  have h1 := h.below hb
  refine ⟨A, c, m, t.row, rfl, hm, Lib.hid h1.bel, Lib.hid fun id num ty cs hid hnum => ?_, Lib.hid fun id num A0 n0 c0 rep ty cs hid hr hcap hn => ?_⟩
  · have hb0 := bel1N w1 (.cells cs ty)
    have hbx := Bk.new w1 ty cs
    refine ((h1.below hb0).begin id num hid hnum).mono ?_
    rintro e w2 ⟨A2, c2, rfl, HY⟩
    obtain ⟨F', ho, hm2, _, _⟩ := HY.out
    refine ⟨_, _, _, rfl, Lib.hid ?_⟩
    have hFb : ∀ k, F k → k < w.heap.size := h.p.lt
    have hc2 : CliR w2 w.heap.size A c es := ((hc.kp (F := fun _ => False) (Kp.of_below hb0) (fun _ h => h.elim)).kp hm2.kp hFb)
    have hbx2 := hbx.kp hm2.kp (fun hf => by have := h.p.lt _ hf; have := hb.size; omega)
    refine (clients_any ho.p ho.ok).mono ?_
    rintro e w3 ⟨A3, c3, m3, rfl, hm3, HZ⟩
    obtain ⟨es3, he3, hc3, hb3⟩ := HZ.out
    obtain ⟨kg, hkg⟩ := begin_room h.ok id num
    refine ⟨A3, c3, m3, _, kg, rfl, hm3, Lib.hid ⟨?_, ?_, hbx2.below hb3 hbx2.lt, ⟨F', _, ho.below hb3, by rw [begin_most]; exact hM⟩, by rw [← hM]; exact h.ok.len, by rw [← hM]; exact hkg⟩⟩
    · have := hc2.reads
      rw [he] at this
      exact this.up hb3
    · have := hc3.reads
      rw [he3] at this
      exact this
  · have hb0 := bel1N w1 (.cells cs ty)
    have hob := h1.below hb0
    refine (hob.ended id num hid A0 n0 c0 rep (RdA.old hob (hr.below hob.bel) hcap) hn).mono ?_
    rintro e w2 ⟨rfl, HY⟩
    obtain ⟨F', ho, _⟩ := HY.out
    exact ⟨_, rfl, Lib.hid ⟨F', _, ho, by rw [ended_most]; exact hM⟩⟩
end
end Go.Proofs.Ytonkohbmknopmaa
