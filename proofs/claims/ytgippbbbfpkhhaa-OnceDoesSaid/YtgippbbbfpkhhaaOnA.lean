/- Layer 13, the document's table: a row that turns; New, Find, last. -/
import Derived.Test.YtgippbbbfpkhhaaOnJ
namespace Go.Proofs.Ytgippbbbfpkhhaa
open Go.RowKit Go.Maps

def dtC (t : Tb) (v : Value) : Array Value := #[.int .i64 (t.most : Int), v, .int .i64 t.nb, .int .i64 t.na]
/-- Block g is the document's table t. -/
structure DT (w : World) (G : Nat → Prop) (g : Nat) (t : Tb) (A : Option Addr) (n c : Nat) (es : List Cle) : Prop where
  bk : Bk w g 49 (dtC t (.slice A n c))
  row : ClRow w G (.slice A n c) es
  eq : es.map (·.1) = t.row
  len : n = es.length
  fg : G g
  lt : ∀ k, G k → k < w.heap.size
def kept {α : Type} (o : Option Nat) (l : List α) : List α :=
  match o with
  | none => l
  | some k => l.eraseIdx k
theorem kept_snoc {α : Type} {o : Option Nat} (l : List α) (x : α) (h : o ≠ some l.length) : kept o (l ++ [x]) = kept o l ++ [x] := by
  cases o with
  | none => rfl
  | some k =>
    unfold kept
    dsimp only
    have hk : k ≠ l.length := fun e => h (by rw [e])
    by_cases hlt : k < l.length
    · rw [List.eraseIdx_append_of_lt_length hlt]
    · rw [List.eraseIdx_of_length_le (by simp; omega), List.eraseIdx_of_length_le (by omega)]
theorem kept_skip {α : Type} (l : List α) (x : α) : kept (some l.length) (l ++ [x]) = kept (some l.length) l := by
  unfold kept
  dsimp only
  rw [List.eraseIdx_append_of_length_le (Nat.le_refl _), Nat.sub_self, List.eraseIdx_of_length_le (Nat.le_refl l.length)]
  simp
theorem kept_sub {α : Type} (o : Option Nat) (l : List α) : kept o l ⊆ l := by
  cases o with
  | none => exact fun _ h => h
  | some k => exact (List.eraseIdx_sublist _ _).subset
theorem kept_map {α β : Type} (f : α → β) (o : Option Nat) (l : List α) : (kept o l).map f = kept o (l.map f) := by
  cases o with
  | none => rfl
  | some k => exact map_eraseC f l k
theorem kept_le {α : Type} (o : Option Nat) (l : List α) : (kept o l).length ≤ l.length := by
  cases o with
  | none => exact Nat.le_refl _
  | some k => exact (List.eraseIdx_sublist _ _).length_le
theorem own_base {w : World} {b b' e size n : Nat} {v : Value} {xs : List Value} (h : w.ownsRow b e size v n xs) (hb : b' ≤ b) : w.ownsRow b' e size v n xs := by
  refine ⟨h.1, ?_⟩
  rcases h.2 with h' | ⟨g, cap, cur, h1, h2, h3⟩
  · exact .inl h'
  · exact .inr ⟨g, cap, cur, h1, Nat.le_trans hb h2, h3⟩
section
variable {w w' w3 : World} {F G G' : Nat → Prop} {g n c : Nat} {t : Tb} {A : Option Addr} {es es2 : List Cle} {v' : Value}
theorem DT.kp (h : DT w G g t A n c es) (hk : Kp F w w') (hd : ∀ k, G k → ¬ F k) : DT w' G g t A n c es :=
  ⟨h.bk.kp hk (hd _ h.fg), h.row.kp hk hd, h.eq, h.len, h.fg, fun k e => Nat.lt_of_lt_of_le (h.lt k e) hk.size⟩
theorem DT.below (h : DT w G g t A n c es) (hb : Below w.heap.size w w') : DT w' G g t A n c es := h.kp (F := fun _ => False) (Kp.of_below hb) fun _ _ h => h
theorem DT.mono (h : DT w G g t A n c es) (hf : ∀ k, G k → G' k) (hl : ∀ k, G' k → k < w.heap.size) : DT w G' g t A n c es := ⟨h.bk, h.row.mono hf, h.eq, h.len, hf _ h.fg, hl⟩
theorem DT.cells (h : DT w G g t A n c es) : w.cell? ⟨g, 0, none⟩ = some (.int .i64 (t.most : Int)) ∧ w.cell? ⟨g, 1, none⟩ = some (.slice A n c) ∧ w.cell? ⟨g, 2, none⟩ = some (.int .i64 t.nb) ∧ w.cell? ⟨g, 3, none⟩ = some (.int .i64 t.na) :=
  ⟨h.bk.cell 0, h.bk.cell 1, h.bk.cell 2, h.bk.cell 3⟩
theorem DT.frz (h : DT w G g t A n c es) (i : Nat) : w.frozen? ⟨g, i, none⟩ = false := h.bk.frozen i
theorem DT.at_ (h : DT w G g t A n c es) (i : Nat) (hi : i < n) : ∃ R, A = some ⟨R, 0, none⟩ ∧ w.cell? ⟨R, i * 4, none⟩ = some (.int .u64 ((es[i]'(h.len ▸ hi)).1.id : Int)) ∧ w.cell? ⟨R, i * 4 + 1, none⟩ = some (.int .u64 ((es[i]'(h.len ▸ hi)).1.num : Int)) ∧ w.cell? ⟨R, i * 4 + 2, none⟩ = some (.bool (es[i]'(h.len ▸ hi)).1.busy) ∧ w.cell? ⟨R, i * 4 + 3, none⟩ = some (s3W (es[i]'(h.len ▸ hi)).2) := by
  obtain ⟨R, c', ev, _, _, _, q⟩ := h.row.cell i (h.len ▸ hi)
  injection ev with ev _ _
  exact ⟨R, ev, q⟩
/-- The row turns: a new row, of clients that were there, or that come. -/
theorem DT.turn (h : DT w G g t A n c es) (hb : Below w.heap.size w w3) (ho : w3.ownsRow w.heap.size 64 4 v' es2.length (clC es2)) (hin : ∀ e ∈ es2, e ∈ es ∨ (w.ownsRow 0 5 1 (s3W e.2) e.1.rep.length (u8s e.1.rep) ∧ ∀ k, (s3W e.2).ownBlock = some k → G k)) :
    w3.cell? ⟨g, 1, none⟩ = some (.slice A n c) ∧ w3.frozen? ⟨g, 1, none⟩ = false ∧
    Hid (∃ A' c' G', v' = .slice A' es2.length c' ∧ DT (w3.setCell ⟨g, 1, none⟩ v') G' g { t with row := es2.map (·.1) } A' es2.length c' es2 ∧ Mv G G' w (w3.setCell ⟨g, 1, none⟩ v') ∧ ∀ k, G k → G' k) := by
  have h3 := h.below hb
  have hk4 : Kp (fun k => k = g) w3 (w3.setCell ⟨g, 1, none⟩ v') := Kp.set_ (F := fun k => k = g) (p := ⟨g, 1, none⟩) rfl _
  obtain ⟨A', c', rfl, _, _⟩ := own_shape ho
  have hk : Kp (fun k => k = g) w (w3.setCell ⟨g, 1, none⟩ (.slice A' es2.length c')) := (Kp.of_below hb).trans hk4
  have hgs := h.bk.lt
  refine ⟨h3.bk.cell 1, h3.bk.frozen 1, Lib.hid ⟨A', c', fun k => G k ∨ (Value.slice A' es2.length c').ownBlock = some k, rfl, ⟨h3.bk.set_ 1 _, ⟨own_base (own_kp ho hk4 fun k e e2 => by have := (ho.lt k e).1; omega) (Nat.zero_le _), fun e he => ?_, fun k e => .inr e, fun e he k e2 => ?_⟩, rfl, rfl, .inl h.fg, ?_⟩, ⟨hk.mono fun k e => e ▸ h.fg, ?_⟩, fun k e => .inl e⟩⟩
  · rcases hin e he with h1 | ⟨h1, _⟩
    · exact own_kp (h.row.each e h1) hk (own_not_bkC h.bk (h.row.each e h1) (by decide))
    · exact own_kp h1 hk (own_not_bkC h.bk h1 (by decide))
  · rcases hin e he with h1 | ⟨_, h2⟩
    · exact .inl (h.row.bods e h1 k e2)
    · exact .inl (h2 k e2)
  · rintro k (e | e)
    · exact Nat.lt_of_lt_of_le (h.lt k e) hk.size
    · have := (ho.lt k e).2
      simpa [World.setCell] using this
  · rintro k (e | e)
    · exact .inl e
    · exact .inr (ho.lt k e).1
set_option maxRecDepth 100000 in
set_option maxHeartbeats 4000000 in
theorem rfind_any (h : DT w G g t A n c es) (hn : n ≤ 200) (id : Nat) : Calls Try.prog 36 #[.pointer (some ⟨g, 0, none⟩), .int .u64 (id : Int)] w fun e w' => e = .returned (.int .i64 (idxI (findC id t.row))) ∧ w' = w := by
  have H := Lib.hid h
  have Hn : Hid (n = t.row.length) := Lib.hid (by rw [h.len, ← h.eq, List.length_map])
  have c1 := h.cells.2.1
  obtain ⟨I, hI⟩ : ∃ I, I = idxI (findC id t.row) := ⟨_, rfl⟩
  rw [← hI]
  have HI := Lib.hid hI
  clear h hI
  go_enter Try.func36, Try.ntmps36
  go_wp2_with fail
  go_loopg [5] n (fun gk a wr => ∃ i : Nat, a = .int .i64 (i : Int) ∧ i + gk = n ∧ wr = w ∧ Hid (∀ j (hj : j < t.row.length), j < i → t.row[j].id ≠ id))
  case atStart => exact ⟨0, rfl, by omega, rfl, Lib.hid fun j _ h => by omega⟩
  case round =>
    obtain ⟨i, rfl, hig, rfl, HN⟩ := hrel
    by_cases hin : i < n
    · have hil : i < t.row.length := by rw [← Hn.out]; exact hin
      have m1 : (i : Int) < (n : Int) := by omega
      have m0 : ¬ (i : Int) < 0 := by omega
      have e5 : IntKind.i64.wrap ((i : Int) + 1) = ((i + 1 : Nat) : Int) := by rw [IntKind.wrap_i64]; omega
      obtain ⟨R, rfl, q0, -⟩ := H.out.at_ i hin
      have hat : (es[i]'(H.out.len ▸ hin)).1 = t.row[i] := by simp only [← H.out.eq, List.getElem_map]
      rw [hat] at q0
      clear hat
      by_cases he : t.row[i].id = id
      · have hI : I = (i : Int) := by
          rw [HI.out]
          have : findC id t.row = some i := by
            unfold findC
            rw [List.findIdx?_eq_some_iff_getElem]
            exact ⟨hil, by simpa using he, fun j hj => by simpa using HN.out j (by omega) hj⟩
          rw [this]; rfl
        clear HI
        subst hI
        rw [he] at q0
        go_wp2
        go_ret
        exact ⟨rfl, rfl⟩
      · have n1 : ((t.row[i].id : Int) == (id : Int)) = false := by simp; omega
        have n2 : ¬ (t.row[i].id : Int) = (id : Int) := by omega
        have HN2 : Hid (∀ j (hj : j < t.row.length), j < i + 1 → t.row[j].id ≠ id) := Lib.hid fun j hj hji => by
          by_cases e : j = i
          · subst e; exact he
          · exact HN.out j hj (by omega)
        generalize t.row[i].id = LI at *
        clear he
        go_wp2
        go_roundg (gk - 1)
        case measure => omega
        case rel => exact ⟨i + 1, by go_num, by omega, rfl, HN2⟩
    · obtain rfl : i = n := by omega
      have m1 : ¬ (i : Int) < (i : Int) := by omega
      have hI : I = -1 := by
        rw [HI.out]
        have : findC id t.row = none := by
          unfold findC
          rw [List.findIdx?_eq_none_iff]
          intro c hc
          obtain ⟨j, hj, rfl⟩ := List.getElem_of_mem hc
          simpa using HN.out j hj (by rw [Hn.out]; exact hj)
        rw [this]; rfl
      clear HI
      subst hI
      go_wp2
      go_ret
      exact ⟨rfl, rfl⟩
def RNewE (w : World) (m : Nat) (e : Ending) (w' : World) : Prop := ∃ g, e = .returned (.tuple #[.pointer (some ⟨g, 0, none⟩), .int .i64 0]) ∧ Hid (DT w' (fun k => k = g) g (Tb.new m) none 0 0 [] ∧ w.heap.size ≤ g ∧ Below w.heap.size w w')
set_option maxRecDepth 100000 in
theorem rnew_any (m : Nat) (w : World) (h : 1 ≤ m ∧ m ≤ 64) : Calls Try.prog 12 #[.int .i64 (m : Int)] w (RNewE w m) := by
  have h1 : ¬ (m : Int) < 1 := by omega
  have h2 : ¬ (m : Int) > 64 := by omega
  clear h
  go_enter Try.func12, Try.ntmps12
  go_wp2
  have hk := Bk.new w 49 #[.int .i64 (m : Int), .slice none 0 0, .int .i64 0, .int .i64 0]
  have hb := bel1N w (.cells #[.int .i64 (m : Int), .slice none 0 0, .int .i64 0, .int .i64 0] 49)
  have hz : (w.alloc (.cells #[.int .i64 (m : Int), .slice none 0 0, .int .i64 0, .int .i64 0] 49)).heap.size = w.heap.size + 1 := by simp
  generalize w.alloc (.cells #[.int .i64 (m : Int), .slice none 0 0, .int .i64 0, .int .i64 0] 49) = w2 at *
  refine bodyPost_ret (by simp [results, Try.results12, go_sem]; try rfl) rfl ?_
  exact ⟨w.heap.size, rfl, Lib.hid ⟨⟨hk, ClRow.nil _ _, rfl, rfl, rfl, fun k e => by omega⟩, Nat.le_refl _, hb⟩⟩
set_option maxRecDepth 100000 in
theorem rnew_bad (m : Int) (w : World) (h : m < 1 ∨ 64 < m) : Calls Try.prog 12 #[.int .i64 m] w fun e w' => e = .returned (.tuple #[.pointer none, .int .i64 2]) ∧ w = w' := by
  by_cases h1 : m < 1
  · clear h
    go_enter Try.func12, Try.ntmps12
    go_wp2
    refine bodyPost_ret (by simp [results, Try.results12, go_sem]; try rfl) rfl ?_
    exact ⟨rfl, rfl⟩
  · have h2 : m > 64 := by omega
    have h3 : ¬ m ≤ 64 := by omega
    clear h
    go_enter Try.func12, Try.ntmps12
    go_wp2
    refine bodyPost_ret (by simp [results, Try.results12, go_sem]; try rfl) rfl ?_
    exact ⟨rfl, rfl⟩
end

attribute [local go_sem ↓] bCls_eq
attribute [local go_sem] run_bCls
section
variable {w : World} {G : Nat → Prop} {g n c : Nat} {t : Tb} {A : Option Addr} {es : List Cle}
/-- A row of the call's own, in the making. -/
def RowI (W w : World) (v : Value) (l : List Cle) : Prop := w.ownsRow W.heap.size 64 4 v l.length (clC l) ∧ Below W.heap.size W w
theorem RowI.alloc {W : World} {v : Value} {l : List Cle} (h : RowI W w v l) (o : Obj) : RowI W ((w.drewN 1).alloc o) v l := by
  have hb : Below w.heap.size w ((w.drewN 1).alloc o) := ((Below.refl _ _).drew).alloc (Nat.le_refl _) _
  exact ⟨own_below h.1 hb fun g e => (h.1.lt g e).2, below_then h.2 hb⟩
theorem RowI.alloc1 {W : World} {v : Value} {l : List Cle} (h : RowI W w v l) (o : Obj) : RowI W (w.alloc o) v l := by
  have hb : Below w.heap.size w (w.alloc o) := (Below.refl _ _).alloc (Nat.le_refl _) _
  exact ⟨own_below h.1 hb fun g e => (h.1.lt g e).2, below_then h.2 hb⟩
theorem RowI.push {W w1 w3 : World} {v v' : Value} {l : List Cle} {x : Cle} (h : RowI W w1 v l) (ha : App w1 w3 W.heap.size 64 4 v v' l.length 1 (clC l) (clE x)) : RowI W w3 v' (l ++ [x]) := by
  refine ⟨?_, ha.below h.2 h.2.size (own_block_ge h.1)⟩
  have := ha.own
  rw [List.length_append, List.length_singleton, clC_app]
  simpa [clC] using this
def LastE (w : World) (G : Nat → Prop) (g : Nat) (t : Tb) (es2 : List Cle) (e : Ending) (w' : World) : Prop :=
  e = .returned (.tuple #[]) ∧ Hid (∃ A' c' G', DT w' G' g { t with row := es2.map (·.1) } A' es2.length c' es2 ∧ Mv G G' w w' ∧ ∀ k, G k → G' k)
set_option maxRecDepth 100000 in
set_option maxHeartbeats 4000000 in
theorem rlast_any (h : DT w G g t A n c es) (hn : n ≤ 200) (o : Option Nat) (cl : Cl) (s : Sl3) (hs : w.ownsRow 0 5 1 (s3W s) cl.rep.length (u8s cl.rep)) (hG : ∀ k, (s3W s).ownBlock = some k → G k) :
    Calls Try.prog 37 #[.pointer (some ⟨g, 0, none⟩), .int .i64 (idxI o), clV cl s] w (LastE w G g t (kept o es ++ [(cl, s)])) := by
  obtain ⟨id, num, busy, rep⟩ := cl
  obtain ⟨sA, sN, sC⟩ := s
  unfold clV s3W
  dsimp only
  obtain ⟨es2, hes2⟩ : ∃ es2 : List Cle, es2 = kept o es ++ [(⟨id, num, busy, rep⟩, (sA, sN, sC))] := ⟨_, rfl⟩
  rw [← hes2]
  have HE2 := Lib.hid hes2
  obtain ⟨W1, hW1⟩ : ∃ W1, W1 = w.alloc (.cells #[.int .u64 (id : Int), .int .u64 (num : Int), .bool busy, .slice sA sN sC] 64) := ⟨_, rfl⟩
  obtain ⟨bb, hbb⟩ : ∃ bb, bb = w.heap.size := ⟨_, rfl⟩
  have hb0 : Below w.heap.size w W1 := by rw [hW1]; exact bel1N _ _
  have hkb : Bk W1 bb 64 #[.int .u64 (id : Int), .int .u64 (num : Int), .bool busy, .slice sA sN sC] := by rw [hW1, hbb]; exact Bk.new w _ _
  have HT : Hid (∀ wr, Below W1.heap.size W1 wr → DT wr G g t A n c es ∧ Bk wr bb 64 #[.int .u64 (id : Int), .int .u64 (num : Int), .bool busy, .slice sA sN sC]) := Lib.hid fun wr hb => ⟨(h.below hb0).below hb, hkb.below hb hkb.lt⟩
  have HF : Hid (∀ v' w3, RowI W1 w3 v' es2 → w3.cell? ⟨g, 1, none⟩ = some (.slice A n c) ∧ w3.frozen? ⟨g, 1, none⟩ = false ∧
      Hid (∃ A' c' G', v' = .slice A' es2.length c' ∧ DT (w3.setCell ⟨g, 1, none⟩ v') G' g { t with row := es2.map (·.1) } A' es2.length c' es2 ∧ Mv G G' w (w3.setCell ⟨g, 1, none⟩ v') ∧ ∀ k, G k → G' k)) := Lib.hid fun v' w3 hr =>
    h.turn (below_then hb0 hr.2) (own_base hr.1 hb0.size) fun e he => by
      rw [hes2] at he
      rcases List.mem_append.1 he with he | he
      · exact .inl (kept_sub o es he)
      · rw [List.mem_singleton.1 he]
        exact .inr ⟨hs, hG⟩
  have HW := Lib.hid hW1
  have HBB := Lib.hid hbb
  obtain ⟨iw, hiw, hzw, hsw, hbw⟩ := info_parts Try.infoClient
  have HC1 : Hid (∀ (a b : Int) (d : Bool) (x : Option Addr) (y z : Nat), ∀ u ∈ [Value.int .u64 a, .int .u64 b, .bool d, .slice x y z], u.oneCell' = true) := Lib.hid fun a b d x y z => by
    intro u hu
    simp only [List.mem_cons, List.not_mem_nil, or_false] at hu
    rcases hu with rfl | rfl | rfl | rfl <;> rfl
  have Hl : Hid (n = es.length) := Lib.hid h.len
  have Hiw := Lib.hid hiw
  have Hzw := Lib.hid hzw
  have Hsw := Lib.hid hsw
  have Hbw := Lib.hid hbw
  obtain ⟨I, hI⟩ : ∃ I, I = idxI o := ⟨_, rfl⟩
  rw [← hI]
  have HI := Lib.hid hI
  clear h hs hG hkb hW1 hb0 hiw hzw hsw hbw hbb hI hes2
  go_enter Try.func37, Try.ntmps37
  go_upto_region 1 with (fail)
  rw [← HW.out]
  try rw [← HBB.out]
  go_wp2_with fail
  go_loopg [6, 7] n (fun gk v a wr => ∃ (i : Nat) (v' : Value), v' = v ∧ a = .int .i64 (i : Int) ∧ i + gk = n ∧ Hid (RowI W1 wr v' (kept o (es.take i))))
  case atStart => exact ⟨0, .slice none 0 0, rfl, rfl, by omega, Lib.hid ⟨by
    have : kept o (es.take 0) = [] := by cases o <;> simp [kept]
    rw [this]; exact World.ownsRow_nil _ _ _ _, Below.refl _ _⟩⟩
  case round =>
    obtain ⟨i, v, rfl, rfl, hig, HR⟩ := hrel
    have d1 := (HT.out wr HR.out.2).1.cells.2.1
    by_cases hin : i < n
    · have m1 : (i : Int) < (n : Int) := by omega
      have m0 : ¬ (i : Int) < 0 := by omega
      have e5 : IntKind.i64.wrap ((i : Int) + 1) = ((i + 1 : Nat) : Int) := by rw [IntKind.wrap_i64]; omega
      have hil : i < es.length := by rw [← Hl.out]; exact hin
      have htk : es.take (i + 1) = es.take i ++ [es[i]] := by rw [List.take_succ_eq_append_getElem hil]
      have htl : (es.take i).length = i := by rw [List.length_take]; omega
      by_cases ho : o = some i
      · have hI : I = (i : Int) := by rw [HI.out, ho]; rfl
        have HR2 : Hid (RowI W1 wr v (kept o (es.take (i + 1)))) := Lib.hid (by
          have := kept_skip (es.take i) es[i]
          rw [htl] at this
          rw [htk, ho, this, ← ho]
          exact HR.out)
        clear HI htk htl hil
        subst hI
        go_wp2
        go_roundg (gk - 1)
        case measure => omega
        case rel => exact ⟨i + 1, v, rfl, by go_num, by omega, HR2⟩
      · have n0 : ¬ (i : Int) = I := by
          rw [HI.out]
          cases o with
          | none => simp only [idxI]; omega
          | some k => simp only [idxI]; intro e; exact ho (by congr 1; omega)
        have n1 : ((i : Int) == I) = false := by simpa using n0
        have n2 : ((i : Int) != I) = true := by simpa using n0
        have HK2 : Hid (∀ v' w3, RowI W1 w3 v' (kept o (es.take i) ++ [es[i]]) → RowI W1 w3 v' (kept o (es.take (i + 1)))) := Lib.hid fun v' w3 h => by
          rw [htk, kept_snoc _ _ (by rw [htl]; exact ho)]
          exact h
        obtain ⟨R, rfl, q0, q1, q2, q3⟩ := (HT.out wr HR.out.2).1.at_ i hin
        have Hx : Hid (∃ x, x = es[i]) := Lib.hid ⟨_, rfl⟩
        generalize es[i] = x at *
        obtain ⟨⟨xid, xnum, xbusy, xrep⟩, ⟨xA, xN, xC⟩⟩ := x
        unfold s3W at q3
        dsimp only at q0 q1 q2 q3
        have hml : (kept o (es.take i)).length ≤ 200 := Nat.le_trans (kept_le _ _) (by omega)
        clear htk htl hil ho Hx
        go_wp2_with (at_builtin; refine (?_ : _ ∧ True).1)
        refine ⟨?_, trivial⟩
        refine wpList_append_app _ rfl _ _ 47 rfl W1.heap.size 64 iw _ 4 48 Try.underlying47 Hiw.out Hzw.out Hsw.out Hbw.out rfl v (kept o (es.take i)).length _ rfl (by first | exact (HR.out.alloc1 _).1 | exact (HR.out.alloc _).1) (some ⟨wr.heap.size, 0, none⟩) 1 1 [.int .u64 (xid : Int), .int .u64 (xnum : Int), .bool xbusy, .slice xA xN xC] rfl rfl (by intro e; cases e) (new_cells _ _ _ rfl) (HC1.out _ _ _ _ _ _) (by unfold maxLen; omega) (by omega) (HR.out.alloc1 _).2.size ?_
        intro v' w3 happ
        have HR3 := Lib.hid (HK2.out _ _ (RowI.push (x := (⟨xid, xnum, xbusy, xrep⟩, (xA, xN, xC))) (by first | exact HR.out.alloc1 _ | exact HR.out.alloc _) happ))
        clear happ
        go_wp2
        go_roundg (gk - 1)
        case measure => omega
        case rel => exact ⟨i + 1, v', rfl, by go_num, by omega, HR3⟩
    · obtain rfl : i = n := by omega
      have m1 : ¬ (i : Int) < (i : Int) := by omega
      have HR2 : Hid (RowI W1 wr v (kept o es)) := Lib.hid (by
        have := HR.out
        rwa [List.take_of_length_le (by have := Hl.out; omega)] at this)
      have hk2 := (HT.out wr HR.out.2).2
      have j0 : wr.cell? ⟨bb, 0, none⟩ = some (.int .u64 (id : Int)) := hk2.cell 0
      have j1 : wr.cell? ⟨bb, 1, none⟩ = some (.int .u64 (num : Int)) := hk2.cell 1
      have j2 : wr.cell? ⟨bb, 2, none⟩ = some (.bool busy) := hk2.cell 2
      have j3 : wr.cell? ⟨bb, 3, none⟩ = some (.slice sA sN sC) := hk2.cell 3
      have hml : (kept o es).length ≤ 200 := Nat.le_trans (kept_le _ _) (by have := Hl.out; omega)
      clear hk2 HR
      go_wp2_with (at_builtin; refine (?_ : _ ∧ True).1)
      refine ⟨?_, trivial⟩
      refine wpList_append_app _ rfl _ _ 47 rfl W1.heap.size 64 iw _ 4 48 Try.underlying47 Hiw.out Hzw.out Hsw.out Hbw.out rfl v (kept o es).length _ rfl (by first | exact (HR2.out.alloc1 _).1 | exact (HR2.out.alloc _).1) (some ⟨wr.heap.size, 0, none⟩) 1 1 [.int .u64 (id : Int), .int .u64 (num : Int), .bool busy, .slice sA sN sC] rfl rfl (by intro e; cases e) (new_cells _ _ _ rfl) (HC1.out _ _ _ _ _ _) (by unfold maxLen; omega) (by omega) (HR2.out.alloc1 _).2.size ?_
      intro v' w3 happ
      obtain ⟨k1, kf, HX⟩ := HF.out _ _ (by rw [HE2.out]; exact RowI.push (x := (⟨id, num, busy, rep⟩, (sA, sN, sC))) (by first | exact HR2.out.alloc1 _ | exact HR2.out.alloc _) happ)
      clear happ j0 j1 j2 j3 d1
      obtain ⟨A', c', G', rfl, hx⟩ := HX.out
      have HX2 : Hid (∃ B d G', DT (w3.setCell ⟨g, 1, none⟩ (.slice A' es2.length c')) G' g { t with row := es2.map (·.1) } B es2.length d es2 ∧ Mv G G' w (w3.setCell ⟨g, 1, none⟩ (.slice A' es2.length c')) ∧ ∀ k, G k → G' k) := Lib.hid ⟨A', c', G', hx⟩
      clear HX hx
      go_wp2
      go_end0
      exact ⟨rfl, HX2⟩
end
end Go.Proofs.Ytgippbbbfpkhhaa
