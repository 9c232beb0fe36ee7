/- Layer 13, the document's table: a row that turns; New, Find, last. -/
import Derived.Test.YtgippbbbfpkhhaaOnJ
import Derived.Test.YtgippbbbfpkhhaaLent
namespace Go.Proofs.Ytgippbbbfpkhhaa
open Go.RowKit Go.Maps

def dtC (t : Tb) (v : Value) : Array Value := #[.int .i64 (t.most : Int), v, .int .i64 t.nb, .int .i64 t.na]
/-- Block g is the document's table t. -/
structure DT (w : World) (G : Nat → Prop) (g : Nat) (t : Tb) (A : Option Addr) (n c : Nat) (es : List Cle) : Prop where
  bk : Bk w g 49 (dtC t (.slice A n c))
  row : ClRow w G (.slice A n c) es
  eq : es.map (·.1) = t.row
  len : n = es.length
  fg : G g
  lt : ∀ k, G k → k < w.heap.size
def kept {α : Type} (o : Option Nat) (l : List α) : List α :=
  match o with
  | none => l
  | some k => l.eraseIdx k
theorem kept_snoc {α : Type} {o : Option Nat} (l : List α) (x : α) (h : o ≠ some l.length) : kept o (l ++ [x]) = kept o l ++ [x] := by
  cases o with
  | none => rfl
  | some k =>
    unfold kept
    dsimp only
    have hk : k ≠ l.length := fun e => h (by rw [e])
    by_cases hlt : k < l.length
    · rw [List.eraseIdx_append_of_lt_length hlt]
    · rw [List.eraseIdx_of_length_le (by simp; omega), List.eraseIdx_of_length_le (by omega)]
theorem kept_skip {α : Type} (l : List α) (x : α) : kept (some l.length) (l ++ [x]) = kept (some l.length) l := by
  unfold kept
  dsimp only
  rw [List.eraseIdx_append_of_length_le (Nat.le_refl _), Nat.sub_self, List.eraseIdx_of_length_le (Nat.le_refl l.length)]
  simp
theorem kept_sub {α : Type} (o : Option Nat) (l : List α) : kept o l ⊆ l := by
  cases o with
  | none => exact fun _ h => h
  | some k => exact (List.eraseIdx_sublist _ _).subset
theorem kept_map {α β : Type} (f : α → β) (o : Option Nat) (l : List α) : (kept o l).map f = kept o (l.map f) := by
  cases o with
  | none => rfl
  | some k => exact map_eraseC f l k
theorem kept_le {α : Type} (o : Option Nat) (l : List α) : (kept o l).length ≤ l.length := by
  cases o with
  | none => exact Nat.le_refl _
  | some k => exact (List.eraseIdx_sublist _ _).length_le
theorem own_base {w : World} {b b' e size n : Nat} {v : Value} {xs : List Value} (h : w.ownsRow b e size v n xs) (hb : b' ≤ b) : w.ownsRow b' e size v n xs := by
  refine ⟨h.1, ?_⟩
  rcases h.2 with h' | ⟨g, cap, cur, h1, h2, h3⟩
  · exact .inl h'
  · exact .inr ⟨g, cap, cur, h1, Nat.le_trans hb h2, h3⟩
section
variable {w w' w3 : World} {F G G' : Nat → Prop} {g n c : Nat} {t : Tb} {A : Option Addr} {es es2 : List Cle} {v' : Value}
theorem DT.kp (h : DT w G g t A n c es) (hk : Kp F w w') (hd : ∀ k, G k → ¬ F k) : DT w' G g t A n c es :=
  ⟨h.bk.kp hk (hd _ h.fg), h.row.kp hk hd, h.eq, h.len, h.fg, fun k e => Nat.lt_of_lt_of_le (h.lt k e) hk.size⟩
theorem DT.below (h : DT w G g t A n c es) (hb : Below w.heap.size w w') : DT w' G g t A n c es := h.kp (F := fun _ => False) (Kp.of_below hb) fun _ _ h => h
theorem DT.mono (h : DT w G g t A n c es) (hf : ∀ k, G k → G' k) (hl : ∀ k, G' k → k < w.heap.size) : DT w G' g t A n c es := ⟨h.bk, h.row.mono hf, h.eq, h.len, hf _ h.fg, hl⟩
theorem DT.cells (h : DT w G g t A n c es) : w.cell? ⟨g, 0, none⟩ = some (.int .i64 (t.most : Int)) ∧ w.cell? ⟨g, 1, none⟩ = some (.slice A n c) ∧ w.cell? ⟨g, 2, none⟩ = some (.int .i64 t.nb) ∧ w.cell? ⟨g, 3, none⟩ = some (.int .i64 t.na) :=
  ⟨h.bk.cell 0, h.bk.cell 1, h.bk.cell 2, h.bk.cell 3⟩
theorem DT.frz (h : DT w G g t A n c es) (i : Nat) : w.frozen? ⟨g, i, none⟩ = false := h.bk.frozen i
theorem DT.at_ (h : DT w G g t A n c es) (i : Nat) (hi : i < n) : ∃ R, A = some ⟨R, 0, none⟩ ∧ w.cell? ⟨R, i * 4, none⟩ = some (.int .u64 ((es[i]'(h.len ▸ hi)).1.id : Int)) ∧ w.cell? ⟨R, i * 4 + 1, none⟩ = some (.int .u64 ((es[i]'(h.len ▸ hi)).1.num : Int)) ∧ w.cell? ⟨R, i * 4 + 2, none⟩ = some (.bool (es[i]'(h.len ▸ hi)).1.busy) ∧ w.cell? ⟨R, i * 4 + 3, none⟩ = some (s3W (es[i]'(h.len ▸ hi)).2) := by
  obtain ⟨R, c', ev, _, _, _, q⟩ := h.row.cell i (h.len ▸ hi)
  injection ev with ev _ _
  exact ⟨R, ev, q⟩
/-- The row turns: a new row, of clients that were there, or that come. -/
theorem DT.turn (h : DT w G g t A n c es) (hb : Below w.heap.size w w3) (ho : w3.ownsRow w.heap.size 64 4 v' es2.length (clC es2)) (hin : ∀ e ∈ es2, e ∈ es ∨ (w.ownsRow 0 5 1 (s3W e.2) e.1.rep.length (u8s e.1.rep) ∧ ∀ k, (s3W e.2).ownBlock = some k → G k)) :
    w3.cell? ⟨g, 1, none⟩ = some (.slice A n c) ∧ w3.frozen? ⟨g, 1, none⟩ = false ∧
    Hid (∃ A' c' G', v' = .slice A' es2.length c' ∧ DT (w3.setCell ⟨g, 1, none⟩ v') G' g { t with row := es2.map (·.1) } A' es2.length c' es2 ∧ Mv G G' w (w3.setCell ⟨g, 1, none⟩ v') ∧ ∀ k, G k → G' k) := by
  have h3 := h.below hb
  have hk4 : Kp (fun k => k = g) w3 (w3.setCell ⟨g, 1, none⟩ v') := Kp.set_ (F := fun k => k = g) (p := ⟨g, 1, none⟩) rfl _
  obtain ⟨A', c', rfl, _, _⟩ := own_shape ho
  have hk : Kp (fun k => k = g) w (w3.setCell ⟨g, 1, none⟩ (.slice A' es2.length c')) := (Kp.of_below hb).trans hk4
  have hgs := h.bk.lt
  refine ⟨h3.bk.cell 1, h3.bk.frozen 1, Lib.hid ⟨A', c', fun k => G k ∨ (Value.slice A' es2.length c').ownBlock = some k, rfl, ⟨h3.bk.set_ 1 _, ⟨own_base (own_kp ho hk4 fun k e e2 => by have := (ho.lt k e).1; omega) (Nat.zero_le _), fun e he => ?_, fun k e => .inr e, fun e he k e2 => ?_⟩, rfl, rfl, .inl h.fg, ?_⟩, ⟨hk.mono fun k e => e ▸ h.fg, ?_⟩, fun k e => .inl e⟩⟩
  · rcases hin e he with h1 | ⟨h1, _⟩
    · exact own_kp (h.row.each e h1) hk (own_not_bkC h.bk (h.row.each e h1) (by decide))
    · exact own_kp h1 hk (own_not_bkC h.bk h1 (by decide))
  · rcases hin e he with h1 | ⟨_, h2⟩
    · exact .inl (h.row.bods e h1 k e2)
    · exact .inl (h2 k e2)
  · rintro k (e | e)
    · exact Nat.lt_of_lt_of_le (h.lt k e) hk.size
    · have := (ho.lt k e).2
      simpa [World.setCell] using this
  · rintro k (e | e)
    · exact .inl e
    · exact .inr (ho.lt k e).1
set_option maxRecDepth 100000 in
set_option maxHeartbeats 4000000 in
theorem rfind_any (h : DT w G g t A n c es) (hn : n ≤ 200) (id : Nat) : Calls Try.prog 36 #[.pointer (some ⟨g, 0, none⟩), .int .u64 (id : Int)] w fun e w' => e = .returned (.int .i64 (idxI (findC id t.row))) ∧ w' = w := by
  have H := Lib.hid h
  have Hn : Hid (n = t.row.length) := Lib.hid (by rw [h.len, ← h.eq, List.length_map])
  have c1 := h.cells.2.1
  obtain ⟨I, hI⟩ : ∃ I, I = idxI (findC id t.row) := ⟨_, rfl⟩
  rw [← hI]
  have HI := Lib.hid hI
  clear h hI
  go_enter Try.func36, Try.ntmps36
  go_wp2_with fail
  go_loopg [5] n (fun gk a wr => ∃ i : Nat, a = .int .i64 (i : Int) ∧ i + gk = n ∧ wr = w ∧ Hid (∀ j (hj : j < t.row.length), j < i → t.row[j].id ≠ id))
  case atStart => exact ⟨0, rfl, by omega, rfl, Lib.hid fun j _ h => by omega⟩
  case round =>
    obtain ⟨i, rfl, hig, rfl, HN⟩ := hrel
    by_cases hin : i < n
    · have hil : i < t.row.length := by rw [← Hn.out]; exact hin
      have m1 : (i : Int) < (n : Int) := by omega
      have m0 : ¬ (i : Int) < 0 := by omega
      have e5 : IntKind.i64.wrap ((i : Int) + 1) = ((i + 1 : Nat) : Int) := by rw [IntKind.wrap_i64]; omega
      obtain ⟨R, rfl, q0, -⟩ := H.out.at_ i hin
      have hat : (es[i]'(H.out.len ▸ hin)).1 = t.row[i] := by simp only [← H.out.eq, List.getElem_map]
      rw [hat] at q0
      clear hat
      by_cases he : t.row[i].id = id
      · have hI : I = (i : Int) := by
          rw [HI.out]
          have : findC id t.row = some i := by
            unfold findC
            rw [List.findIdx?_eq_some_iff_getElem]
            exact ⟨hil, by simpa using he, fun j hj => by simpa using HN.out j (by omega) hj⟩
          rw [this]; rfl
        clear HI
        subst hI
        rw [he] at q0
        go_wp2
        go_ret
        exact ⟨rfl, rfl⟩
      · have n1 : ((t.row[i].id : Int) == (id : Int)) = false := by simp; omega
        have n2 : ¬ (t.row[i].id : Int) = (id : Int) := by omega
        have HN2 : Hid (∀ j (hj : j < t.row.length), j < i + 1 → t.row[j].id ≠ id) := Lib.hid fun j hj hji => by
          by_cases e : j = i
          · subst e; exact he
          · exact HN.out j hj (by omega)
        generalize t.row[i].id = LI at *
        clear he
        go_wp2
        go_roundg (gk - 1)
        case measure => omega
        case rel => exact ⟨i + 1, by go_num, by omega, rfl, HN2⟩
    · obtain rfl : i = n := by omega
      have m1 : ¬ (i : Int) < (i : Int) := by omega
      have hI : I = -1 := by
        rw [HI.out]
        have : findC id t.row = none := by
          unfold findC
          rw [List.findIdx?_eq_none_iff]
          intro c hc
          obtain ⟨j, hj, rfl⟩ := List.getElem_of_mem hc
          simpa using HN.out j hj (by rw [Hn.out]; exact hj)
        rw [this]; rfl
      clear HI
      subst hI
      go_wp2
      go_ret
      exact ⟨rfl, rfl⟩
def RNewE (w : World) (m : Nat) (e : Ending) (w' : World) : Prop := ∃ g, e = .returned (.tuple #[.pointer (some ⟨g, 0, none⟩), .int .i64 0]) ∧ Hid (DT w' (fun k => k = g) g (Tb.new m) none 0 0 [] ∧ w.heap.size ≤ g ∧ Below w.heap.size w w')
set_option maxRecDepth 100000 in
theorem rnew_any (m : Nat) (w : World) (h : 1 ≤ m ∧ m ≤ 64) : Calls Try.prog 12 #[.int .i64 (m : Int)] w (RNewE w m) := by
  have h1 : ¬ (m : Int) < 1 := by omega
  have h2 : ¬ (m : Int) > 64 := by omega
  clear h
  go_enter Try.func12, Try.ntmps12
  go_wp2
  have hk := Bk.new w 49 #[.int .i64 (m : Int), .slice none 0 0, .int .i64 0, .int .i64 0]
  have hb := bel1N w (.cells #[.int .i64 (m : Int), .slice none 0 0, .int .i64 0, .int .i64 0] 49)
  have hz : (w.alloc (.cells #[.int .i64 (m : Int), .slice none 0 0, .int .i64 0, .int .i64 0] 49)).heap.size = w.heap.size + 1 := by simp
  generalize w.alloc (.cells #[.int .i64 (m : Int), .slice none 0 0, .int .i64 0, .int .i64 0] 49) = w2 at *
  refine bodyPost_ret (by simp [results, Try.results12, go_sem]; try rfl) rfl ?_
  exact ⟨w.heap.size, rfl, Lib.hid ⟨⟨hk, ClRow.nil _ _, rfl, rfl, rfl, fun k e => by omega⟩, Nat.le_refl _, hb⟩⟩
set_option maxRecDepth 100000 in
theorem rnew_bad (m : Int) (w : World) (h : m < 1 ∨ 64 < m) : Calls Try.prog 12 #[.int .i64 m] w fun e w' => e = .returned (.tuple #[.pointer none, .int .i64 2]) ∧ w = w' := by
  by_cases h1 : m < 1
  · clear h
    go_enter Try.func12, Try.ntmps12
    go_wp2
    refine bodyPost_ret (by simp [results, Try.results12, go_sem]; try rfl) rfl ?_
    exact ⟨rfl, rfl⟩
  · have h2 : m > 64 := by omega
    have h3 : ¬ m ≤ 64 := by omega
    clear h
    go_enter Try.func12, Try.ntmps12
    go_wp2
    refine bodyPost_ret (by simp [results, Try.results12, go_sem]; try rfl) rfl ?_
    exact ⟨rfl, rfl⟩
end

attribute [local go_sem ↓] bCls_eq
attribute [local go_sem] run_bCls
section
variable {w : World} {G : Nat → Prop} {g n c : Nat} {t : Tb} {A : Option Addr} {es : List Cle}
/-- A row of the call's own, in the making. -/
def RowI (W w : World) (v : Value) (l : List Cle) : Prop := w.ownsRow W.heap.size 64 4 v l.length (clC l) ∧ Below W.heap.size W w
theorem RowI.alloc {W : World} {v : Value} {l : List Cle} (h : RowI W w v l) (o : Obj) : RowI W ((w.drewN 1).alloc o) v l := by
  have hb : Below w.heap.size w ((w.drewN 1).alloc o) := ((Below.refl _ _).drew).alloc (Nat.le_refl _) _
  exact ⟨own_below h.1 hb fun g e => (h.1.lt g e).2, below_then h.2 hb⟩
theorem RowI.alloc1 {W : World} {v : Value} {l : List Cle} (h : RowI W w v l) (o : Obj) : RowI W (w.alloc o) v l := by
  have hb : Below w.heap.size w (w.alloc o) := (Below.refl _ _).alloc (Nat.le_refl _) _
  exact ⟨own_below h.1 hb fun g e => (h.1.lt g e).2, below_then h.2 hb⟩
theorem RowI.push {W w1 w3 : World} {v v' : Value} {l : List Cle} {x : Cle} (h : RowI W w1 v l) (ha : App w1 w3 W.heap.size 64 4 v v' l.length 1 (clC l) (clE x)) : RowI W w3 v' (l ++ [x]) := by
  refine ⟨?_, ha.below h.2 h.2.size (own_block_ge h.1)⟩
  have := ha.own
  rw [List.length_append, List.length_singleton, clC_app]
  simpa [clC] using this
def LastE (w : World) (G : Nat → Prop) (g : Nat) (t : Tb) (es2 : List Cle) (e : Ending) (w' : World) : Prop :=
  e = .returned (.tuple #[]) ∧ Hid (∃ A' c' G', DT w' G' g { t with row := es2.map (·.1) } A' es2.length c' es2 ∧ Mv G G' w w' ∧ ∀ k, G k → G' k)
set_option maxRecDepth 100000 in
set_option maxHeartbeats 4000000 in
theorem rlast_any (h : DT w G g t A n c es) (hn : n ≤ 200) (o : Option Nat) (cl : Cl) (s : Sl3) (hs : w.ownsRow 0 5 1 (s3W s) cl.rep.length (u8s cl.rep)) (hG : ∀ k, (s3W s).ownBlock = some k → G k) :
    Calls Try.prog 37 #[.pointer (some ⟨g, 0, none⟩), .int .i64 (idxI o), clV cl s] w (LastE w G g t (kept o es ++ [(cl, s)])) := by
  obtain ⟨id, num, busy, rep⟩ := cl
  obtain ⟨sA, sN, sC⟩ := s
  unfold clV s3W
  dsimp only
  obtain ⟨es2, hes2⟩ : ∃ es2 : List Cle, es2 = kept o es ++ [(⟨id, num, busy, rep⟩, (sA, sN, sC))] := ⟨_, rfl⟩
  rw [← hes2]
  have HE2 := Lib.hid hes2
  obtain ⟨W1, hW1⟩ : ∃ W1, W1 = w.alloc (.cells #[.int .u64 (id : Int), .int .u64 (num : Int), .bool busy, .slice sA sN sC] 64) := ⟨_, rfl⟩
  obtain ⟨bb, hbb⟩ : ∃ bb, bb = w.heap.size := ⟨_, rfl⟩
  have hb0 : Below w.heap.size w W1 := by rw [hW1]; exact bel1N _ _
  have hkb : Bk W1 bb 64 #[.int .u64 (id : Int), .int .u64 (num : Int), .bool busy, .slice sA sN sC] := by rw [hW1, hbb]; exact Bk.new w _ _
  have HT : Hid (∀ wr, Below W1.heap.size W1 wr → DT wr G g t A n c es ∧ Bk wr bb 64 #[.int .u64 (id : Int), .int .u64 (num : Int), .bool busy, .slice sA sN sC]) := Lib.hid fun wr hb => ⟨(h.below hb0).below hb, hkb.below hb hkb.lt⟩
  have HF : Hid (∀ v' w3, RowI W1 w3 v' es2 → w3.cell? ⟨g, 1, none⟩ = some (.slice A n c) ∧ w3.frozen? ⟨g, 1, none⟩ = false ∧
      Hid (∃ A' c' G', v' = .slice A' es2.length c' ∧ DT (w3.setCell ⟨g, 1, none⟩ v') G' g { t with row := es2.map (·.1) } A' es2.length c' es2 ∧ Mv G G' w (w3.setCell ⟨g, 1, none⟩ v') ∧ ∀ k, G k → G' k)) := Lib.hid fun v' w3 hr =>
    h.turn (below_then hb0 hr.2) (own_base hr.1 hb0.size) fun e he => by
      rw [hes2] at he
      rcases List.mem_append.1 he with he | he
      · exact .inl (kept_sub o es he)
      · rw [List.mem_singleton.1 he]
        exact .inr ⟨hs, hG⟩
  have HW := Lib.hid hW1
  have HBB := Lib.hid hbb
  obtain ⟨iw, hiw, hzw, hsw, hbw⟩ := info_parts Try.infoClient
  have HC1 : Hid (∀ (a b : Int) (d : Bool) (x : Option Addr) (y z : Nat), ∀ u ∈ [Value.int .u64 a, .int .u64 b, .bool d, .slice x y z], u.oneCell' = true) := Lib.hid fun a b d x y z => by
    intro u hu
    simp only [List.mem_cons, List.not_mem_nil, or_false] at hu
    rcases hu with rfl | rfl | rfl | rfl <;> rfl
  have Hl : Hid (n = es.length) := Lib.hid h.len
  have Hiw := Lib.hid hiw
  have Hzw := Lib.hid hzw
  have Hsw := Lib.hid hsw
  have Hbw := Lib.hid hbw
  obtain ⟨I, hI⟩ : ∃ I, I = idxI o := ⟨_, rfl⟩
  rw [← hI]
  have HI := Lib.hid hI
  clear h hs hG hkb hW1 hb0 hiw hzw hsw hbw hbb hI hes2
  go_enter Try.func37, Try.ntmps37
  go_upto_region 1 with (fail)
  rw [← HW.out]
  try rw [← HBB.out]
  go_wp2_with fail
  go_loopg [6, 7] n (fun gk v a wr => ∃ (i : Nat) (v' : Value), v' = v ∧ a = .int .i64 (i : Int) ∧ i + gk = n ∧ Hid (RowI W1 wr v' (kept o (es.take i))))
  case atStart => exact ⟨0, .slice none 0 0, rfl, rfl, by omega, Lib.hid ⟨by
    have : kept o (es.take 0) = [] := by cases o <;> simp [kept]
    rw [this]; exact World.ownsRow_nil _ _ _ _, Below.refl _ _⟩⟩
  case round =>
    obtain ⟨i, v, rfl, rfl, hig, HR⟩ := hrel
    have d1 := (HT.out wr HR.out.2).1.cells.2.1
    by_cases hin : i < n
    · have m1 : (i : Int) < (n : Int) := by omega
      have m0 : ¬ (i : Int) < 0 := by omega
      have e5 : IntKind.i64.wrap ((i : Int) + 1) = ((i + 1 : Nat) : Int) := by rw [IntKind.wrap_i64]; omega
      have hil : i < es.length := by rw [← Hl.out]; exact hin
      have htk : es.take (i + 1) = es.take i ++ [es[i]] := by rw [List.take_succ_eq_append_getElem hil]
      have htl : (es.take i).length = i := by rw [List.length_take]; omega
      by_cases ho : o = some i
      · have hI : I = (i : Int) := by rw [HI.out, ho]; rfl
        have HR2 : Hid (RowI W1 wr v (kept o (es.take (i + 1)))) := Lib.hid (by
          have := kept_skip (es.take i) es[i]
          rw [htl] at this
          rw [htk, ho, this, ← ho]
          exact HR.out)
        clear HI htk htl hil
        subst hI
        go_wp2
        go_roundg (gk - 1)
        case measure => omega
        case rel => exact ⟨i + 1, v, rfl, by go_num, by omega, HR2⟩
      · have n0 : ¬ (i : Int) = I := by
          rw [HI.out]
          cases o with
          | none => simp only [idxI]; omega
          | some k => simp only [idxI]; intro e; exact ho (by congr 1; omega)
        have n1 : ((i : Int) == I) = false := by simpa using n0
        have n2 : ((i : Int) != I) = true := by simpa using n0
        have HK2 : Hid (∀ v' w3, RowI W1 w3 v' (kept o (es.take i) ++ [es[i]]) → RowI W1 w3 v' (kept o (es.take (i + 1)))) := Lib.hid fun v' w3 h => by
          rw [htk, kept_snoc _ _ (by rw [htl]; exact ho)]
          exact h
        obtain ⟨R, rfl, q0, q1, q2, q3⟩ := (HT.out wr HR.out.2).1.at_ i hin
        have Hx : Hid (∃ x, x = es[i]) := Lib.hid ⟨_, rfl⟩
        generalize es[i] = x at *
        obtain ⟨⟨xid, xnum, xbusy, xrep⟩, ⟨xA, xN, xC⟩⟩ := x
        unfold s3W at q3
        dsimp only at q0 q1 q2 q3
        have hml : (kept o (es.take i)).length ≤ 200 := Nat.le_trans (kept_le _ _) (by omega)
        clear htk htl hil ho Hx
        go_wp2_with (at_builtin; refine (?_ : _ ∧ True).1)
        refine ⟨?_, trivial⟩
        refine wpList_append_app _ rfl _ _ 47 rfl W1.heap.size 64 iw _ 4 48 Try.underlying47 Hiw.out Hzw.out Hsw.out Hbw.out rfl v (kept o (es.take i)).length _ rfl (by first | exact (HR.out.alloc1 _).1 | exact (HR.out.alloc _).1) (some ⟨wr.heap.size, 0, none⟩) 1 1 [.int .u64 (xid : Int), .int .u64 (xnum : Int), .bool xbusy, .slice xA xN xC] rfl rfl (by intro e; cases e) (new_cells _ _ _ rfl) (HC1.out _ _ _ _ _ _) (by unfold maxLen; omega) (by omega) (HR.out.alloc1 _).2.size ?_
        intro v' w3 happ
        have HR3 := Lib.hid (HK2.out _ _ (RowI.push (x := (⟨xid, xnum, xbusy, xrep⟩, (xA, xN, xC))) (by first | exact HR.out.alloc1 _ | exact HR.out.alloc _) happ))
        clear happ
        go_wp2
        go_roundg (gk - 1)
        case measure => omega
        case rel => exact ⟨i + 1, v', rfl, by go_num, by omega, HR3⟩
    · obtain rfl : i = n := by omega
      have m1 : ¬ (i : Int) < (i : Int) := by omega
      have HR2 : Hid (RowI W1 wr v (kept o es)) := Lib.hid (by
        have := HR.out
        rwa [List.take_of_length_le (by have := Hl.out; omega)] at this)
      have hk2 := (HT.out wr HR.out.2).2
      have j0 : wr.cell? ⟨bb, 0, none⟩ = some (.int .u64 (id : Int)) := hk2.cell 0
      have j1 : wr.cell? ⟨bb, 1, none⟩ = some (.int .u64 (num : Int)) := hk2.cell 1
      have j2 : wr.cell? ⟨bb, 2, none⟩ = some (.bool busy) := hk2.cell 2
      have j3 : wr.cell? ⟨bb, 3, none⟩ = some (.slice sA sN sC) := hk2.cell 3
      have hml : (kept o es).length ≤ 200 := Nat.le_trans (kept_le _ _) (by have := Hl.out; omega)
      clear hk2 HR
      go_wp2_with (at_builtin; refine (?_ : _ ∧ True).1)
      refine ⟨?_, trivial⟩
      refine wpList_append_app _ rfl _ _ 47 rfl W1.heap.size 64 iw _ 4 48 Try.underlying47 Hiw.out Hzw.out Hsw.out Hbw.out rfl v (kept o es).length _ rfl (by first | exact (HR2.out.alloc1 _).1 | exact (HR2.out.alloc _).1) (some ⟨wr.heap.size, 0, none⟩) 1 1 [.int .u64 (id : Int), .int .u64 (num : Int), .bool busy, .slice sA sN sC] rfl rfl (by intro e; cases e) (new_cells _ _ _ rfl) (HC1.out _ _ _ _ _ _) (by unfold maxLen; omega) (by omega) (HR2.out.alloc1 _).2.size ?_
      intro v' w3 happ
      obtain ⟨k1, kf, HX⟩ := HF.out _ _ (by rw [HE2.out]; exact RowI.push (x := (⟨id, num, busy, rep⟩, (sA, sN, sC))) (by first | exact HR2.out.alloc1 _ | exact HR2.out.alloc _) happ)
      clear happ j0 j1 j2 j3 d1
      obtain ⟨A', c', G', rfl, hx⟩ := HX.out
      have HX2 : Hid (∃ B d G', DT (w3.setCell ⟨g, 1, none⟩ (.slice A' es2.length c')) G' g { t with row := es2.map (·.1) } B es2.length d es2 ∧ Mv G G' w (w3.setCell ⟨g, 1, none⟩ (.slice A' es2.length c')) ∧ ∀ k, G k → G' k) := Lib.hid ⟨A', c', G', hx⟩
      clear HX hx
      go_wp2
      go_end0
      exact ⟨rfl, HX2⟩
end
end Go.Proofs.Ytgippbbbfpkhhaa

/- Layer 13, the document's table: End. -/
namespace Go.Proofs.Ytgippbbbfpkhhaa
open Go.RowKit Go.Maps

def DTx (w : World) (G : Nat → Prop) (g : Nat) (t : Tb) : Prop := ∃ A n c es, DT w G g t A n c es
/-- What the document's End answers. -/
def REndE (w : World) (G : Nat → Prop) (g : Nat) (r : Int × Tb) (e : Ending) (w' : World) : Prop := e = .returned (.int .i64 r.1) ∧ Hid (∃ G', DTx w' G' g r.2 ∧ Mv G G' w w')
section
variable {w w' : World} {G : Nat → Prop} {g n c : Nat} {t : Tb} {A : Option Addr} {es : List Cle}
theorem DT.len2 (h : DT w G g t A n c es) : n = t.row.length := by rw [h.len, ← h.eq, List.length_map]
theorem DT.le (h : DT w G g t A n c es) (hok : t.Ok) : n ≤ 64 := by
  have h1 := hok.len
  have h2 := hok.most
  have h3 := h.len2
  omega
theorem DT.has (h : DT w G g t A n c es) (k : Nat) (hk : k < t.row.length) : ∃ R s, A = some ⟨R, 0, none⟩ ∧ w.cell? ⟨R, k * 4, none⟩ = some (.int .u64 (t.row[k].id : Int)) ∧ w.cell? ⟨R, k * 4 + 1, none⟩ = some (.int .u64 (t.row[k].num : Int)) ∧ w.cell? ⟨R, k * 4 + 2, none⟩ = some (.bool t.row[k].busy) ∧ w.cell? ⟨R, k * 4 + 3, none⟩ = some (s3W s) ∧ (t.row[k], s) ∈ es ∧ k < n := by
  have hkn : k < n := by rw [h.len2]; exact hk
  have hke : k < es.length := by rw [← h.len]; exact hkn
  obtain ⟨R, e, q0, q1, q2, q3⟩ := h.at_ k hkn
  have hat : es[k].1 = t.row[k] := by simp only [← h.eq, List.getElem_map]
  rw [hat] at q0 q1 q2
  refine ⟨R, es[k].2, e, q0, q1, q2, q3, ?_, hkn⟩
  rw [← hat]
  exact List.getElem_mem hke
set_option maxRecDepth 100000 in
set_option maxHeartbeats 4000000 in
theorem rend_any (h : DT w G g t A n c es) (hok : t.Ok) (id num : Nat) (A0 : Option Addr) (n0 c0 : Nat) (l : List UInt8) (hr : Rd w w.heap.size A0 n0 l) (hn : n0 ≤ 1000000) :
    Calls Try.prog 19 #[.pointer (some ⟨g, 0, none⟩), .int .u64 (id : Int), .int .u64 (num : Int), .slice A0 n0 c0] w (REndE w G g (t.ended id num l)) := by
  have hl : l.length = n0 := hr.1
  have hle := h.le hok
  have HFd0 := rfind_any h (by omega) id
  have c1 := h.cells.2.1
  have hsame : Hid (∃ G', DTx w G' g t ∧ Mv G G' w w) := Lib.hid ⟨G, ⟨_, _, _, _, h⟩, Mv.refl _ _⟩
  by_cases hlong : 200 < l.length
  · have he : t.ended id num l = (3, t) := by unfold Tb.ended; rw [if_pos hlong]
    rw [he]
    obtain ⟨I, hI⟩ : ∃ I, I = idxI (findC id t.row) := ⟨_, rfl⟩
    rw [← hI] at HFd0
    have HFd := Lib.hid HFd0
    have m1 : (n0 : Int) > 200 := by omega
    clear HFd0 h hok hr hl hlong he hI
    go_enter Try.func19, Try.ntmps19
    go_wp2_with fail
    refine HFd.out.mono ?_
    rintro e w1 ⟨rfl, rfl⟩
    go_wp2
    go_ret
    exact ⟨rfl, hsame⟩
  have m1 : ¬ (n0 : Int) > 200 := by omega
  cases hf : findC id t.row with
  | none =>
    have he : t.ended id num l = (4, t) := by unfold Tb.ended; rw [if_neg hlong, hf]
    rw [he]
    rw [hf] at HFd0
    have HFd : Hid (Calls Try.prog 36 #[.pointer (some ⟨g, 0, none⟩), .int .u64 (id : Int)] w fun e w' => e = .returned (.int .i64 (-1)) ∧ w' = w) := Lib.hid HFd0
    clear HFd0 h hok hr hl hlong he hf
    go_enter Try.func19, Try.ntmps19
    go_wp2_with fail
    refine HFd.out.mono ?_
    rintro e w1 ⟨rfl, rfl⟩
    go_wp2
    go_ret
    exact ⟨rfl, hsame⟩
  | some k =>
    obtain ⟨hkl, hkid⟩ := findC_some hf
    have hat := Tb.at_eq t hkl
    rw [hf] at HFd0
    have HFd : Hid (Calls Try.prog 36 #[.pointer (some ⟨g, 0, none⟩), .int .u64 (id : Int)] w fun e w' => e = .returned (.int .i64 (k : Int)) ∧ w' = w) := Lib.hid HFd0
    obtain ⟨R, s, rfl, q0, q1, q2, q3, hmem, hkn⟩ := h.has k hkl
    have m2 : ¬ (k : Int) < 0 := by omega
    have m3 : (k : Int) < (n : Int) := by omega
    by_cases hb : t.row[k].num = num
    · rw [hb] at q1
      have n1 : ((num : Int) != (num : Int)) = false := by simp
      cases hbz : t.row[k].busy with
      | false =>
        have he : t.ended id num l = (4, t) := by unfold Tb.ended; simp only [if_neg hlong, hf, hat]; rw [if_neg (by simp [hbz])]
        rw [he]
        rw [hbz] at q2
        clear HFd0 h hok hr hl hlong he hf q0 q3 hkid hat hb hbz hmem
        go_enter Try.func19, Try.ntmps19
        go_wp2_with fail
        refine HFd.out.mono ?_
        rintro e w1 ⟨rfl, rfl⟩
        go_wp2
        go_ret
        exact ⟨rfl, hsame⟩
      | true =>
        have he : t.ended id num l = (0, { t with row := useC k ⟨id, num, false, l⟩ t.row }) := by unfold Tb.ended; simp only [if_neg hlong, hf, hat]; rw [if_pos ⟨hb, hbz⟩]
        rw [he]
        rw [hbz] at q2
        have HCp := Lib.hid (copy_any A0 n0 c0 _ l w (by omega) hr)
        have HLa : Hid (∀ w1 sA sN sC, w1.ownsRow w.heap.size 5 1 (.slice sA sN sC) n0 (u8s l) → Below w.heap.size w w1 → Calls Try.prog 37 #[.pointer (some ⟨g, 0, none⟩), .int .i64 (k : Int), .agg #[.int .u64 (id : Int), .int .u64 (num : Int), .bool false, .slice sA sN sC]] w1 fun e w' => e = .returned (.tuple #[]) ∧ Hid (∃ G', DTx w' G' g { t with row := useC k ⟨id, num, false, l⟩ t.row } ∧ Mv G G' w w')) := Lib.hid fun w1 sA sN sC ho hb1 => by
          have h1 := (h.below hb1).mono (G' := fun j => G j ∨ (Value.slice sA sN sC).ownBlock = some j) (fun j e => .inl e) (by
            rintro j (e | e)
            · exact (h.below hb1).lt j e
            · exact (ho.lt j e).2)
          refine (rlast_any h1 (by omega) (some k) ⟨id, num, false, l⟩ (sA, sN, sC) (own_base (by rw [hl]; exact ho) (Nat.zero_le _)) (fun j e => .inr e)).mono ?_
          rintro e w' ⟨rfl, HX⟩
          obtain ⟨A', c', G', hd, hm, _⟩ := HX.out
          have hrow : (kept (some k) es ++ [((⟨id, num, false, l⟩ : Cl), ((sA, sN, sC) : Sl3))]).map (·.1) = useC k ⟨id, num, false, l⟩ t.row := by
            rw [List.map_append, kept_map, h.eq]
            rfl
          rw [hrow] at hd
          refine ⟨rfl, Lib.hid ⟨G', ⟨_, _, _, _, hd⟩, ⟨(Kp.of_below hb1).trans' hm.kp ?_, ?_⟩⟩⟩
          · rintro j (e | e)
            · exact .inl e
            · exact .inr (ho.lt j e).1
          · intro j e
            rcases hm.new j e with (e2 | e2) | e2
            · exact .inl e2
            · exact .inr (ho.lt j e2).1
            · exact .inr (Nat.le_trans hb1.size e2)
        clear HFd0 h hok hr hl hlong he hf q0 q3 hkid hat hb hbz hmem hsame
        go_enter Try.func19, Try.ntmps19
        go_wp2_with fail
        refine HFd.out.mono ?_
        rintro e w1 ⟨rfl, rfl⟩
        go_wp2_with fail
        refine HCp.out.mono ?_
        rintro e w2 ⟨v, rfl, ho, hb2⟩
        obtain ⟨sA, sC, rfl, _⟩ := own_shape ho
        have HL := Lib.hid (HLa.out _ _ _ _ ho hb2)
        clear ho hb2 HLa HCp c1 q1 q2
        go_wp2_with fail
        refine HL.out.mono ?_
        rintro e w3 ⟨rfl, HX⟩
        go_wp2
        go_ret
        exact ⟨rfl, HX⟩
    · have he : t.ended id num l = (4, t) := by unfold Tb.ended; simp only [if_neg hlong, hf, hat]; rw [if_neg fun h => hb h.1]
      rw [he]
      have n1 : ((t.row[k].num : Int) != (num : Int)) = true := by simp; omega
      have n2 : ((t.row[k].num : Int) == (num : Int)) = false := by simp; omega
      have n3 : ¬ (t.row[k].num : Int) = (num : Int) := by omega
      clear HFd0 h hok hr hl hlong he hf q0 q3 hkid hat hmem
      generalize t.row[k].num = KN at *
      generalize t.row[k].busy = KB at *
      clear hb
      go_enter Try.func19, Try.ntmps19
      go_wp2_with fail
      refine HFd.out.mono ?_
      rintro e w1 ⟨rfl, rfl⟩
      go_wp2
      go_ret
      exact ⟨rfl, hsame⟩
end

section
variable {w w' : World} {G : Nat → Prop} {g n c : Nat} {t : Tb} {A : Option Addr} {es : List Cle}
theorem DT.setNb (h : DT w G g t A n c es) (x : Int) : DT (w.setCell ⟨g, 2, none⟩ (.int .i64 x)) G g { t with nb := x } A n c es := by
  have hk : Kp (fun k => k = g) w (w.setCell ⟨g, 2, none⟩ (.int .i64 x)) := Kp.set_ (F := fun k => k = g) (p := ⟨g, 2, none⟩) rfl _
  exact ⟨h.bk.set_ 2 _, h.row.keep hk fun k e => h.row.off h.bk (by decide) (by decide) k e, h.eq, h.len, h.fg, fun k e => Nat.lt_of_lt_of_le (h.lt k e) hk.size⟩
theorem DT.setNa (h : DT w G g t A n c es) (x : Int) : DT (w.setCell ⟨g, 3, none⟩ (.int .i64 x)) G g { t with na := x } A n c es := by
  have hk : Kp (fun k => k = g) w (w.setCell ⟨g, 3, none⟩ (.int .i64 x)) := Kp.set_ (F := fun k => k = g) (p := ⟨g, 3, none⟩) rfl _
  exact ⟨h.bk.set_ 3 _, h.row.keep hk fun k e => h.row.off h.bk (by decide) (by decide) k e, h.eq, h.len, h.fg, fun k e => Nat.lt_of_lt_of_le (h.lt k e) hk.size⟩
def FreshE (w : World) (G : Nat → Prop) (g : Nat) (t : Tb) (L : List Cl) (id num : Nat) (e : Ending) (w' : World) : Prop :=
  e = .returned (.tuple #[]) ∧ w'.cell? ⟨g, 2, none⟩ = some (.int .i64 t.nb) ∧ w'.frozen? ⟨g, 2, none⟩ = false ∧
    Hid (∃ G', DTx (w'.setCell ⟨g, 2, none⟩ (.int .i64 (more1 t.nb))) G' g (t.fresh id num L).tb ∧ Mv G G' w (w'.setCell ⟨g, 2, none⟩ (.int .i64 (more1 t.nb))))
theorem fresh_last (h : DT w G g t A n c es) (hn : n ≤ 200) (o : Option Nat) (I : Int) (hI : I = idxI o) (id num : Nat) :
    Calls Try.prog 37 #[.pointer (some ⟨g, 0, none⟩), .int .i64 I, .agg #[.int .u64 (id : Int), .int .u64 (num : Int), .bool true, .slice none 0 0]] w (FreshE w G g t (kept o t.row) id num) := by
  subst hI
  refine (rlast_any h hn o ⟨id, num, true, []⟩ (none, 0, 0) (World.ownsRow_nil _ _ _ _) (fun j e => by cases e)).mono ?_
  rintro e w' ⟨rfl, HX⟩
  obtain ⟨A', c', G', hd, hm, _⟩ := HX.out
  have hrow : (kept o es ++ [((⟨id, num, true, []⟩ : Cl), ((none, 0, 0) : Sl3))]).map (·.1) = kept o t.row ++ [⟨id, num, true, []⟩] := by
    rw [List.map_append, kept_map, h.eq]
    rfl
  rw [hrow] at hd
  refine ⟨rfl, hd.cells.2.2.1, hd.frz 2, Lib.hid ⟨G', ⟨_, _, _, _, hd.setNb _⟩, hm.trans (Mv.of (Kp.set_ (F := G') (p := ⟨g, 2, none⟩) hd.fg _))⟩⟩
theorem FreshE.from {wx : World} {L : List Cl} {id num : Nat} {e : Ending} (hb : Below w.heap.size w wx) (h : FreshE wx G g t L id num e w') : FreshE w G g t L id num e w' := by
  obtain ⟨e1, e2, e3, HX⟩ := h
  obtain ⟨G', h1, h2⟩ := HX.out
  exact ⟨e1, e2, e3, Lib.hid ⟨G', h1, (Mv.of (Kp.of_below hb)).trans h2⟩⟩
def UsedL (w : World) (G : Nat → Prop) (g : Nat) (t : Tb) (k : Nat) (cl : Cl) (s : Sl3) (e : Ending) (w' : World) : Prop :=
  e = .returned (.tuple #[]) ∧ w'.cell? ⟨g, 3, none⟩ = some (.int .i64 t.na) ∧ w'.frozen? ⟨g, 3, none⟩ = false ∧ Hid (Kp G w w') ∧
    Hid (∃ G', DTx w' G' g { t with row := useC k cl t.row } ∧ Mv G G' w w') ∧
    Hid (∃ G', DTx (w'.setCell ⟨g, 3, none⟩ (.int .i64 (more1 t.na))) G' g { t with row := useC k cl t.row, na := more1 t.na } ∧ Mv G G' w (w'.setCell ⟨g, 3, none⟩ (.int .i64 (more1 t.na))) ∧ RdF (w'.setCell ⟨g, 3, none⟩ (.int .i64 (more1 t.na))) G' s cl.rep)
theorem used_last (h : DT w G g t A n c es) (hn : n ≤ 200) (k : Nat) (cl : Cl) (s : Sl3) (hm : (cl, s) ∈ es) :
    Calls Try.prog 37 #[.pointer (some ⟨g, 0, none⟩), .int .i64 (k : Int), .agg #[.int .u64 (cl.id : Int), .int .u64 (cl.num : Int), .bool cl.busy, s3W s]] w (UsedL w G g t k cl s) := by
  refine (rlast_any h hn (some k) cl s (h.row.each _ hm) (h.row.bods _ hm)).mono ?_
  rintro e w' ⟨rfl, HX⟩
  obtain ⟨A', c', G', hd, hmv, _⟩ := HX.out
  have hrow : (kept (some k) es ++ [(cl, s)]).map (·.1) = useC k cl t.row := by
    rw [List.map_append, kept_map, h.eq]
    rfl
  rw [hrow] at hd
  have hd3 := hd.setNa (more1 t.na)
  exact ⟨rfl, hd.cells.2.2.2, hd.frz 3, Lib.hid hmv.kp, Lib.hid ⟨G', ⟨_, _, _, _, hd⟩, hmv⟩, Lib.hid ⟨G', ⟨_, _, _, _, hd3⟩, hmv.trans (Mv.of (Kp.set_ (F := G') (p := ⟨g, 3, none⟩) hd.fg _)), hd3.row.body (List.mem_append_right _ (List.mem_singleton_self _))⟩⟩
/-- What the document's Begin answers. -/
def RBegE (w : World) (G : Nat → Prop) (g : Nat) (b : Bg) (e : Ending) (w' : World) : Prop :=
  ∃ Ar nr cr, e = .returned (.tuple #[.int .i64 (b.kind : Int), .slice Ar nr cr, .int .i64 b.err]) ∧ Hid (∃ G', DTx w' G' g b.tb ∧ Mv G G' w w' ∧ RdF w' G' (Ar, nr, cr) b.rep)
theorem DTx.below {wx : World} (h : DTx w G g t) (hb : Below w.heap.size w wx) : DTx wx G g t := by
  obtain ⟨A, n, c, es, h⟩ := h
  exact ⟨A, n, c, es, h.below hb⟩
theorem RBegE.quiet {b : Bg} (hk : b.rep = []) (K : Int) (hK : K = (b.kind : Int)) (E : Int) (hE : E = b.err) (hd : ∃ G', DTx w' G' g b.tb ∧ Mv G G' w w') : RBegE w G g b (.returned (.tuple #[.int .i64 K, .slice none 0 0, .int .i64 E])) w' := by
  subst hK hE
  obtain ⟨G', h1, h2⟩ := hd
  exact ⟨none, 0, 0, rfl, Lib.hid ⟨G', h1, h2, by rw [hk]; exact RdF.nil _ _ _ _ (by decide)⟩⟩
set_option maxRecDepth 100000 in
set_option maxHeartbeats 4000000 in
theorem rbegin_have (h : DT w G g t A n c es) (hok : t.Ok) (id num : Nat) (h0 : ¬ num = 0) (k : Nat) (hf : findC id t.row = some k) :
    Calls Try.prog 14 #[.pointer (some ⟨g, 0, none⟩), .int .u64 (id : Int), .int .u64 (num : Int)] w (RBegE w G g (t.begin id num)) := by
  have hle := h.le hok
  have HFd0 := rfind_any h (by omega) id
  have c1 := h.cells.2.1
  have z0 : ¬ (num : Int) = 0 := by omega
  have z1 : ((num : Int) == 0) = false := by simp; omega
  obtain ⟨hkl, hkid⟩ := findC_some hf
  have hat := Tb.at_eq t hkl
  rw [hf] at HFd0
  have HFd : Hid (Calls Try.prog 36 #[.pointer (some ⟨g, 0, none⟩), .int .u64 (id : Int)] w fun e w' => e = .returned (.int .i64 (k : Int)) ∧ w' = w) := Lib.hid HFd0
  obtain ⟨R, s, rfl, q0, q1, q2, q3, hmem, hkn⟩ := h.has k hkl
  have m2 : ¬ (k : Int) < 0 := by omega
  have m2b : (0 : Int) ≤ (k : Int) := by omega
  have m2c : decide ((k : Int) < 0) = false := by simp
  have m3 : (k : Int) < (n : Int) := by omega
  have e9 : IntKind.i64.wrap (t.nb + 1) = more1 t.nb := rfl
  have e10 : IntKind.i64.wrap (t.na + 1) = more1 t.na := rfl
  by_cases h1 : num < t.row[k].num
  · have he : t.begin id num = ⟨0, [], 70, t⟩ := by unfold Tb.begin; simp only [if_neg h0, hf, hat, if_pos h1]
    have n1 : (num : Int) < (t.row[k].num : Int) := by omega
    have n1b : (t.row[k].num : Int) > (num : Int) := by omega
    have HZ : Hid (RBegE w G g (t.begin id num) (.returned (.tuple #[.int .i64 0, .slice none 0 0, .int .i64 70])) w) := Lib.hid (by
      rw [he]
      exact RBegE.quiet rfl _ rfl _ rfl ⟨G, ⟨_, _, _, _, h⟩, Mv.refl _ _⟩)
    clear HFd0 h hok he hf q0 q3 hkid hat hmem h1
    generalize t.row[k].num = KN at *
    generalize t.row[k].busy = KB at *
    go_enter Try.func14, Try.ntmps14
    go_wp2_with fail
    refine HFd.out.mono ?_
    rintro e w1 ⟨rfl, rfl⟩
    go_wp2
    refine bodyPost_ret (by simp [results, Try.results14, go_sem]; try rfl) rfl ?_
    exact HZ.out
  have n1 : ¬ (num : Int) < (t.row[k].num : Int) := by omega
  by_cases h2 : t.row[k].num < num
  · have he : t.begin id num = t.fresh id num (t.row.eraseIdx k) := by unfold Tb.begin; simp only [if_neg h0, hf, hat, if_neg h1, if_pos h2]
    have n2 : ((t.row[k].num : Int) == (num : Int)) = false := by simp; omega
    have n3 : ¬ (t.row[k].num : Int) = (num : Int) := by omega
    have HL : Hid (∀ q, Calls Try.prog 37 #[.pointer (some ⟨g, 0, none⟩), .int .i64 (k : Int), .agg #[.int .u64 (id : Int), .int .u64 (num : Int), .bool true, .slice none 0 0]] (w.drewN q) (FreshE w G g t (kept (some k) t.row) id num)) := Lib.hid fun q => by
      have hb := bel_drewN (Below.refl w.heap.size w) q
      exact (fresh_last (h.below hb) (by omega) (some k) (k : Int) rfl id num).mono fun _ _ h => FreshE.from hb h
    have HD : Hid (∀ wx, (∃ G', DTx wx G' g (t.fresh id num (kept (some k) t.row)).tb ∧ Mv G G' w wx) → RBegE w G g (t.begin id num) (.returned (.tuple #[.int .i64 1, .slice none 0 0, .int .i64 0])) wx) := Lib.hid fun wx hx => by
      rw [he]
      exact RBegE.quiet rfl _ rfl _ rfl hx
    clear HFd0 h hok he hf q0 q3 hkid hat hmem h1 h2
    generalize t.row[k].num = KN at *
    generalize t.row[k].busy = KB at *
    go_enter Try.func14, Try.ntmps14
    go_wp2_with fail
    refine HFd.out.mono ?_
    rintro e w1 ⟨rfl, rfl⟩
    go_wp2_with fail
    go_quiet (fail)
    go_wp2_with fail
    refine (HL.out _).mono ?_
    clear HL
    rintro e w2 ⟨rfl, d2, f2, HX⟩
    have HZ := Lib.hid (HD.out _ HX.out)
    clear HX HD
    go_wp2
    refine bodyPost_ret (by simp [results, Try.results14, go_sem]; try rfl) rfl ?_
    exact HZ.out
  · have hnum : t.row[k].num = num := by omega
    have n2 : ((num : Int) == (num : Int)) = true := by simp
    have n3 : ¬ (num : Int) < (num : Int) := by omega
    obtain ⟨sA, sN, sC⟩ := s
    obtain ⟨W1, hW1⟩ : ∃ W1, W1 = w.alloc (.cells #[.int .u64 (t.row[k].id : Int), .int .u64 (t.row[k].num : Int), .bool t.row[k].busy, .slice sA sN sC] 64) := ⟨_, rfl⟩
    obtain ⟨bb, hbb⟩ : ∃ bb, bb = w.heap.size := ⟨_, rfl⟩
    have hb0 : Below w.heap.size w W1 := by rw [hW1]; exact bel1N _ _
    have hkb : Bk W1 bb 64 #[.int .u64 (t.row[k].id : Int), .int .u64 (t.row[k].num : Int), .bool t.row[k].busy, .slice sA sN sC] := by rw [hW1, hbb]; exact Bk.new w _ _
    have HU := Lib.hid (used_last (h.below hb0) (by omega) k t.row[k] (sA, sN, sC) hmem)
    have HOff : Hid (¬ G bb) := Lib.hid fun e => by have := h.lt _ e; omega
    have HGg : Hid (g ≠ bb) := Lib.hid fun e => HOff.out (e ▸ h.fg)
    have HB1 := Lib.hid hb0
    have HKb := Lib.hid hkb
    unfold s3W at HU q3
    dsimp only at q3
    have hnu : t.begin id num = if t.row[k].busy = true then ⟨3, [], 0, { t with row := useC k t.row[k] t.row }⟩ else ⟨2, t.row[k].rep, 0, { t with row := useC k t.row[k] t.row, na := more1 t.na }⟩ := by
      unfold Tb.begin
      simp only [if_neg h0, hf, hat, if_neg h1, if_neg h2]
    rw [hnu]
    rw [hnum] at q1 hW1 hkb
    rw [hnum] at HKb HU
    clear HFd0 h hok hf hkid hat hmem h1 h2 hkb hb0 hnu n1
    generalize t.row[k] = cl at *
    obtain ⟨KI, KN, KB, Kr⟩ := cl
    dsimp only at *
    subst hnum
    have HW := Lib.hid hW1
    have HBB := Lib.hid hbb
    clear hW1 hbb
    cases KB with
    | true =>
      rw [if_pos rfl]
      have j0 : W1.cell? ⟨bb, 0, none⟩ = some (.int .u64 (KI : Int)) := HKb.out.cell 0
      have j1 : W1.cell? ⟨bb, 1, none⟩ = some (.int .u64 (KN : Int)) := HKb.out.cell 1
      have j2 : W1.cell? ⟨bb, 2, none⟩ = some (.bool true) := HKb.out.cell 2
      have j3 : W1.cell? ⟨bb, 3, none⟩ = some (.slice sA sN sC) := HKb.out.cell 3
      go_enter Try.func14, Try.ntmps14
      go_wp2_with fail
      refine HFd.out.mono ?_
      rintro e w1 ⟨rfl, rfl⟩
      go_upto_region 8 with (fail)
      rw [← HW.out]
      try rw [← HBB.out]
      go_wp2_with fail
      refine HU.out.mono ?_
      clear HU
      rintro e w2 ⟨rfl, d3, f3, HK2, HX1, HX2⟩
      have hk2 := HKb.out.kp HK2.out HOff.out
      have y2 : w2.cell? ⟨bb, 2, none⟩ = some (.bool true) := hk2.cell 2
      have y3 : (w2.setCell ⟨g, 3, none⟩ (.int .i64 (more1 t.na))).cell? ⟨bb, 3, none⟩ = some (.slice sA sN sC) := (hk2.kp (Kp.set_ (F := fun k => k = g) (p := ⟨g, 3, none⟩) rfl _) (fun e => HGg.out e.symm)).cell 3
      clear hk2 j0 j1 j2 j3 q0 q1 q2 q3 c1
      have HZ : Hid (RBegE w1 G g ⟨3, [], 0, { t with row := useC k ⟨KI, KN, true, Kr⟩ t.row }⟩ (.returned (.tuple #[.int .i64 3, .slice none 0 0, .int .i64 0])) w2) := Lib.hid (by
        obtain ⟨G', h1, h2⟩ := HX1.out
        exact RBegE.quiet rfl _ rfl _ rfl ⟨G', h1, (Mv.of (Kp.of_below HB1.out)).trans h2⟩)
      clear HX1 HX2 y3
      go_wp2
      refine bodyPost_ret (by simp [results, Try.results14, go_sem]; try rfl) rfl ?_
      exact HZ.out
    | false =>
      rw [if_neg (by simp)]
      have j0 : W1.cell? ⟨bb, 0, none⟩ = some (.int .u64 (KI : Int)) := HKb.out.cell 0
      have j1 : W1.cell? ⟨bb, 1, none⟩ = some (.int .u64 (KN : Int)) := HKb.out.cell 1
      have j2 : W1.cell? ⟨bb, 2, none⟩ = some (.bool false) := HKb.out.cell 2
      have j3 : W1.cell? ⟨bb, 3, none⟩ = some (.slice sA sN sC) := HKb.out.cell 3
      go_enter Try.func14, Try.ntmps14
      go_wp2_with fail
      refine HFd.out.mono ?_
      rintro e w1 ⟨rfl, rfl⟩
      go_upto_region 8 with (fail)
      rw [← HW.out]
      try rw [← HBB.out]
      go_wp2_with fail
      refine HU.out.mono ?_
      clear HU
      rintro e w2 ⟨rfl, d3, f3, HK2, HX1, HX2⟩
      have hk2 := HKb.out.kp HK2.out HOff.out
      have y2 : w2.cell? ⟨bb, 2, none⟩ = some (.bool false) := hk2.cell 2
      have y3 : (w2.setCell ⟨g, 3, none⟩ (.int .i64 (more1 t.na))).cell? ⟨bb, 3, none⟩ = some (.slice sA sN sC) := (hk2.kp (Kp.set_ (F := fun k => k = g) (p := ⟨g, 3, none⟩) rfl _) (fun e => HGg.out e.symm)).cell 3
      clear hk2 j0 j1 j2 j3 q0 q1 q2 q3 c1
      have HZ : Hid (∀ q, RBegE w1 G g ⟨2, Kr, 0, { t with row := useC k ⟨KI, KN, false, Kr⟩ t.row, na := more1 t.na }⟩ (.returned (.tuple #[.int .i64 2, .slice sA sN sC, .int .i64 0])) ((w2.setCell ⟨g, 3, none⟩ (.int .i64 (more1 t.na))).drewN q)) := Lib.hid fun q => by
        obtain ⟨G', h1, h2, h3⟩ := HX2.out
        have hb := bel_drewN (Below.refl (w2.setCell ⟨g, 3, none⟩ (.int .i64 (more1 t.na))).heap.size (w2.setCell ⟨g, 3, none⟩ (.int .i64 (more1 t.na)))) q
        exact ⟨sA, sN, sC, rfl, Lib.hid ⟨G', h1.below hb, ((Mv.of (Kp.of_below HB1.out)).trans h2).trans (Mv.of (Kp.drewN _ _ _)), h3.below hb⟩⟩
      clear HX1 HX2 HK2
      go_wp2_with fail
      go_quiet (fail)
      go_wp2
      refine bodyPost_ret (by simp [results, Try.results14, go_sem]; try rfl) rfl ?_
      exact HZ.out _
end

section
variable {w w' : World} {G : Nat → Prop} {g n c : Nat} {t : Tb} {A : Option Addr} {es : List Cle}
set_option maxRecDepth 100000 in
set_option maxHeartbeats 4000000 in
theorem rbegin_zero (h : DT w G g t A n c es) (hok : t.Ok) (id : Nat) :
    Calls Try.prog 14 #[.pointer (some ⟨g, 0, none⟩), .int .u64 (id : Int), .int .u64 0] w (RBegE w G g (t.begin id 0)) := by
  have hle := h.le hok
  have HFd0 := rfind_any h (by omega) id
  obtain ⟨I, hI⟩ : ∃ I, I = idxI (findC id t.row) := ⟨_, rfl⟩
  rw [← hI] at HFd0
  have HFd := Lib.hid HFd0
  have he : t.begin id 0 = ⟨0, [], 2, t⟩ := by unfold Tb.begin; rw [if_pos rfl]
  have HZ : Hid (RBegE w G g (t.begin id 0) (.returned (.tuple #[.int .i64 0, .slice none 0 0, .int .i64 2])) w) := Lib.hid (by
    rw [he]
    exact RBegE.quiet rfl _ rfl _ rfl ⟨G, ⟨_, _, _, _, h⟩, Mv.refl _ _⟩)
  clear HFd0 h hok he hI
  go_enter Try.func14, Try.ntmps14
  go_wp2_with fail
  refine HFd.out.mono ?_
  rintro e w1 ⟨rfl, rfl⟩
  go_wp2
  refine bodyPost_ret (by simp [results, Try.results14, go_sem]; try rfl) rfl ?_
  exact HZ.out
set_option maxRecDepth 100000 in
set_option maxHeartbeats 4000000 in
theorem rbegin_new (h : DT w G g t A n c es) (hok : t.Ok) (id num : Nat) (h0 : ¬ num = 0) (hf : findC id t.row = none) :
    Calls Try.prog 14 #[.pointer (some ⟨g, 0, none⟩), .int .u64 (id : Int), .int .u64 (num : Int)] w (RBegE w G g (t.begin id num)) := by
  have hle := h.le hok
  have hmo := hok.most
  have HFd0 := rfind_any h (by omega) id
  obtain ⟨c0, c1, -, -⟩ := h.cells
  have z0 : ¬ (num : Int) = 0 := by omega
  have z1 : ((num : Int) == 0) = false := by simp; omega
  rw [hf] at HFd0
  have HFd : Hid (Calls Try.prog 36 #[.pointer (some ⟨g, 0, none⟩), .int .u64 (id : Int)] w fun e w' => e = .returned (.int .i64 (-1)) ∧ w' = w) := Lib.hid HFd0
  have e9 : IntKind.i64.wrap (t.nb + 1) = more1 t.nb := rfl
  have hlen := h.len2
  have HLo : Hid (∀ (o : Option Nat) (I : Int), I = idxI o → ∀ q, Calls Try.prog 37 #[.pointer (some ⟨g, 0, none⟩), .int .i64 I, .agg #[.int .u64 (id : Int), .int .u64 (num : Int), .bool true, .slice none 0 0]] (w.drewN q) (FreshE w G g t (kept o t.row) id num)) := Lib.hid fun o I hI q => by
    have hb := bel_drewN (Below.refl w.heap.size w) q
    exact (fresh_last (h.below hb) (by omega) o I hI id num).mono fun _ _ h => FreshE.from hb h
  by_cases hr : t.row.length < t.most
  · have he : t.begin id num = t.fresh id num t.row := by unfold Tb.begin; simp only [if_neg h0, hf, if_pos hr]
    have HL := Lib.hid (HLo.out none (-1) rfl)
    have HD : Hid (∀ wx, (∃ G', DTx wx G' g (t.fresh id num (kept none t.row)).tb ∧ Mv G G' w wx) → RBegE w G g (t.begin id num) (.returned (.tuple #[.int .i64 1, .slice none 0 0, .int .i64 0])) wx) := Lib.hid fun wx hx => by
      rw [he]
      exact RBegE.quiet rfl _ rfl _ rfl hx
    have n2 : ((n : Int) == (t.most : Int)) = false := by simp; omega
    have n3 : ¬ (n : Int) = (t.most : Int) := by omega
    have n4 : decide (n = t.most) = false := by simp; omega
    have n5 : (n == t.most) = false := by simp; omega
    clear HFd0 h hok he hf hlen HLo
    go_enter Try.func14, Try.ntmps14
    go_wp2_with fail
    refine HFd.out.mono ?_
    rintro e w1 ⟨rfl, rfl⟩
    go_wp2_with fail
    go_quiet (fail)
    go_wp2_with fail
    refine (HL.out _).mono ?_
    clear HL
    rintro e w2 ⟨rfl, d2, f2, HX⟩
    have HZ := Lib.hid (HD.out _ HX.out)
    clear HX HD
    go_wp2
    refine bodyPost_ret (by simp [results, Try.results14, go_sem]; try rfl) rfl ?_
    exact HZ.out
  · have hfull : t.row.length = t.most := by have := hok.len; omega
    have hb : t.begin id num = match freeC t.row with
        | some k => t.fresh id num (t.row.eraseIdx k)
        | none => ⟨0, [], 130, t⟩ := by unfold Tb.begin; simp only [if_neg h0, hf, if_neg hr]; cases freeC t.row <;> rfl
    have hmn : t.most = n := by omega
    rw [hmn] at c0
    have n2 : ((n : Int) == (n : Int)) = true := by simp
    have HD : Hid (∀ k wx, freeC t.row = some k → (∃ G', DTx wx G' g (t.fresh id num (kept (some k) t.row)).tb ∧ Mv G G' w wx) → RBegE w G g (t.begin id num) (.returned (.tuple #[.int .i64 1, .slice none 0 0, .int .i64 0])) wx) := Lib.hid fun k wx hk hx => by
      rw [hb, hk]
      exact RBegE.quiet rfl _ rfl _ rfl hx
    have HN : Hid (freeC t.row = none → ∀ q, RBegE w G g (t.begin id num) (.returned (.tuple #[.int .i64 0, .slice none 0 0, .int .i64 130])) (w.drewN q)) := Lib.hid fun hk q => by
      rw [hb, hk]
      exact RBegE.quiet rfl _ rfl _ rfl ⟨G, ⟨_, _, _, _, h.below (bel_drewN (Below.refl _ _) q)⟩, Mv.of (Kp.drewN _ _ _)⟩
    have HH := Lib.hid h
    have Hln := Lib.hid hlen
    clear HFd0 h hok hf hlen hb hmn hr hfull
    go_enter Try.func14, Try.ntmps14
    go_wp2_with fail
    refine HFd.out.mono ?_
    rintro e w1 ⟨rfl, rfl⟩
    go_wp2_with fail
    go_quiet (fail)
    go_wp2_with fail
    go_loopg [9] n (fun gk a wr => ∃ i : Nat, a = .int .i64 (i : Int) ∧ i + gk = n ∧ Hid (∃ q, wr = w1.drewN q) ∧ Hid (∀ j (hj : j < t.row.length), j < i → t.row[j].busy = true))
    case atStart => exact ⟨0, rfl, by omega, Lib.hid ⟨_, rfl⟩, Lib.hid fun j _ h => by omega⟩
    case round =>
      obtain ⟨i, rfl, hig, HQ, HB⟩ := hrel
      obtain ⟨q, hq⟩ := HQ.out
      have hdt : DT wr G g t A n c es := by rw [hq]; exact HH.out.below (bel_drewN (Below.refl _ _) q)
      have d1 := hdt.cells.2.1
      by_cases hin : i < n
      · have m1 : (i : Int) < (n : Int) := by omega
        have m0 : ¬ (i : Int) < 0 := by omega
        have m4 : ((i : Int) == (n : Int)) = false := by simp; omega
        have m5 : ¬ (i : Int) = (n : Int) := by omega
        have e5 : IntKind.i64.wrap ((i : Int) + 1) = ((i + 1 : Nat) : Int) := by rw [IntKind.wrap_i64]; omega
        have hil : i < t.row.length := by rw [← Hln.out]; exact hin
        obtain ⟨R, s, rfl, -, -, p2, -, -, -⟩ := hdt.has i hil
        cases hbz : t.row[i].busy with
        | true =>
          rw [hbz] at p2
          have HB2 : Hid (∀ j (hj : j < t.row.length), j < i + 1 → t.row[j].busy = true) := Lib.hid fun j hj hji => by
            by_cases e : j = i
            · subst e; exact hbz
            · exact HB.out j hj (by omega)
          clear hdt hbz hil hq
          go_wp2
          go_roundg (gk - 1)
          case measure => omega
          case rel => exact ⟨i + 1, by go_num, by omega, HQ, HB2⟩
        | false =>
          rw [hbz] at p2
          have hfr := freeC_at hil hbz HB.out
          have HL : Hid (Calls Try.prog 37 #[.pointer (some ⟨g, 0, none⟩), .int .i64 (i : Int), .agg #[.int .u64 (id : Int), .int .u64 (num : Int), .bool true, .slice none 0 0]] wr (FreshE w1 G g t (kept (some i) t.row) id num)) := Lib.hid (by rw [hq]; exact HLo.out (some i) (i : Int) rfl q)
          have HD2 := Lib.hid (HD.out i · hfr)
          clear hdt hbz hil hq HD HN HLo hfr HB
          go_wp2_with fail
          refine HL.out.mono ?_
          clear HL
          rintro e w2 ⟨rfl, d2, f2, HX⟩
          have HZ := Lib.hid (HD2.out _ HX.out)
          clear HX HD2 d1 p2
          go_wp2
          refine bodyPost_ret (by simp [results, Try.results14, go_sem]; try rfl) rfl ?_
          exact HZ.out
      · obtain rfl : i = n := by omega
        have m1 : ¬ (i : Int) < (i : Int) := by omega
        have hfr : freeC t.row = none := by
          unfold freeC
          rw [List.findIdx?_eq_none_iff]
          intro c hc
          obtain ⟨j, hj, rfl⟩ := List.getElem_of_mem hc
          simpa using HB.out j hj (by rw [Hln.out]; exact hj)
        have HZ : Hid (RBegE w1 G g (t.begin id num) (.returned (.tuple #[.int .i64 0, .slice none 0 0, .int .i64 130])) wr) := Lib.hid (by rw [hq]; exact HN.out hfr q)
        clear hdt hq HD HN HLo hfr HB
        go_wp2
        refine bodyPost_ret (by simp [results, Try.results14, go_sem]; try rfl) rfl ?_
        exact HZ.out
theorem rbegin_any (h : DTx w G g t) (hok : t.Ok) (id num : Nat) :
    Calls Try.prog 14 #[.pointer (some ⟨g, 0, none⟩), .int .u64 (id : Int), .int .u64 (num : Int)] w (RBegE w G g (t.begin id num)) := by
  obtain ⟨A, n, c, es, h⟩ := h
  by_cases h0 : num = 0
  · subst h0
    exact rbegin_zero h hok id
  · cases hf : findC id t.row with
    | some k => exact rbegin_have h hok id num h0 k hf
    | none => exact rbegin_new h hok id num h0 hf
end
end Go.Proofs.Ytgippbbbfpkhhaa
