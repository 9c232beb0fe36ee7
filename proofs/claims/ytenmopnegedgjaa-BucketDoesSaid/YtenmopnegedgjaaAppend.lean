/- append onto a slice that the call owns, from whatever source: where the new slice lies, and that a shorter slice over the same row keeps what it holds. No program is named here. -/
import Derived.Test.YtenmopnegedgjaaWords
namespace Go.Proofs.Ytenmopnegedgjaa
open Go.RowKit

/-- What an append of m elements (cells 'news') onto v (n elements, cells 'xs') leaves. -/
structure App (w w' : World) (base : Nat) (e : TypeId) (size : Nat) (v v' : Value) (n m : Nat) (xs news : List Value) : Prop where
  own : w'.ownsRow base e size v' (n + m) (xs ++ news)
  grow : w.grownBy w' v.ownBlock
  place : (∃ g cap, v = .slice (some ⟨g, 0, none⟩) n cap ∧ v' = .slice (some ⟨g, 0, none⟩) (n + m) cap) ∨ (w.grownBy w' none ∧ v'.ownBlock = some w.heap.size) ∨ (v' = v ∧ w' = w)

/-- A new block whose first cells are ys is a row of the call's own. -/
theorem own_new (w : World) {base e size k cap : Nat} {cur : Array Value} {ys : List Value} (hb : base ≤ w.heap.size) (hk : k ≤ cap) (hm : cap ≤ maxLen) (hs : cur.size = cap * size) (hy : ys.length = k * size) (ht : cur.toList.take ys.length = ys) :
    (w.drew.alloc (.cells cur e)).ownsRow base e size (.slice (some ⟨w.heap.size, 0, none⟩) k cap) k ys ∧ ∀ row, w.grownBy (w.drew.alloc (.cells cur e)) row :=
  ⟨⟨hy, .inr ⟨w.heap.size, cap, cur, rfl, hb, heap_alloc_new w.drew _, hk, hm, hs, by rw [← hy]; exact ht⟩⟩,
    fun row => ⟨rfl, rfl, rfl, by simp, fun j hj _ => Below.heap_alloc w.drew _ j hj⟩⟩

section
variable {P : Program} (w : World)

theorem run_append_app (base : Nat) (t ty e : TypeId) (i : TypeInfo) (z : Value) (size bytes : Nat) (ht : P.underlying t = some (.slice e)) (hi : P.info? e = some i) (hz : i.zero = some z)
    (hsize : i.size = size) (hby : i.bytes = bytes) (hzs : z.cells.size = size)
    (v : Value) (n : Nat) (xs : List Value) (hown : w.ownsRow base e size v n xs)
    (A : Option Addr) (m c : Nat) (news : List Value) (hl : news.length = m * size) (hA : A = none → m = 0) (hnews : ∀ a, A = some a → ∀ j u, news[j]? = some u → w.cell? (a.add j) = some u) (h1 : ∀ u ∈ news, u.oneCell' = true)
    (h63 : n + m ≤ maxLen) (hbytes : (n + m) * bytes ≤ 140737488355328) (hbase : base ≤ w.heap.size) :
    ∃ v' w', (Builtin.append_ #[t, t] ty #[v, .slice A m c]).run P w = .ok v' w' ∧ App w w' base e size v v' n m xs news := by
  subst hsize hby
  have hlen : (xs ++ news).length = (n + m) * i.size := by rw [List.length_append, hown.1, hl, Nat.add_mul]
  have hbig : n + m ≤ 9223372036854775807 := by have h := h63; simp only [maxLen] at h; omega
  -- what a growing append leaves behind, from the capacity 'old'
  have new : ∀ old, App w (w.drew.alloc (.cells (xs.toArray ++ news.toArray ++ Builtin.zeroCells z.cells (grownCap w (n + m) old e - (n + m))) e)) base e i.size v
      (.slice (some ⟨w.heap.size, 0, none⟩) (n + m) (grownCap w (n + m) old e)) n m xs news := by
    intro old
    have hcap := grownCap_ge w (n + m) old e
    obtain ⟨h1, h2⟩ := own_new w (base := base) (e := e) (size := i.size) (k := n + m) (cap := grownCap w (n + m) old e) (cur := xs.toArray ++ news.toArray ++ Builtin.zeroCells z.cells (grownCap w (n + m) old e - (n + m))) (ys := xs ++ news)
      hbase hcap (grownCap_le_maxLen w (n + m) old e h63)
      (by rw [Array.size_append, size_zeroCells, Array.size_append, List.size_toArray, List.size_toArray, ← List.length_append, hlen, hzs, ← Nat.add_mul, Nat.add_sub_cancel' hcap]) hlen
      (by simp only [Array.toList_append, List.take_left])
    exact ⟨h1, h2 _, .inr (.inl ⟨h2 none, rfl⟩)⟩
  by_cases hm : m = 0
  · subst hm
    obtain rfl : news = [] := List.eq_nil_of_length_eq_zero (by simpa using hl)
    refine ⟨v, w, ?_, ⟨by simpa using hown, World.grownBy.refl w _, .inr (.inr ⟨rfl, rfl⟩)⟩⟩
    rcases hown.2 with ⟨rfl, rfl⟩ | ⟨g, cap, cur, rfl, _, hg, hnc, _⟩ <;> cases A <;>
      simp [Builtin.append_, run_underlying ht, sizeOf, typeInfo, Builtin.lenOf, Builtin.firstCells, loadCells, loadCellsFrom, storeCells, *]
  · obtain ⟨a, rfl⟩ : ∃ a, A = some a := by cases A with | none => exact absurd (hA rfl) hm | some a => exact ⟨a, rfl⟩
    have hnews := hnews a rfl
    rcases hown.2 with ⟨rfl, rfl⟩ | ⟨g, cap, cur, rfl, hbg, hg, hnc, hcm, hcs, htake⟩
    · obtain rfl : xs = [] := List.eq_nil_of_length_eq_zero (by simpa using hown.1)
      have hr := run_append_nil (P := P) w t ty e i z ht hi hz a m c news hl hnews (by omega) (by omega) (by simp only [Nat.zero_add] at hbytes; omega)
      have hn := new 0
      simp only [Nat.zero_add, Array.empty_append] at hn
      exact ⟨_, _, hr, hn⟩
    · by_cases hroom : n + m ≤ cap
      · have hfit : n * i.size + news.length ≤ cur.size := by rw [hl, hcs, ← Nat.add_mul]; exact Nat.mul_le_mul_right _ hroom
        have hsz : (cur.toList.take (n * i.size) ++ news ++ cur.toList.drop (n * i.size + news.length)).length = cap * i.size := by
          rw [List.length_append, List.length_append, List.length_take, List.length_drop, Array.length_toList]
          omega
        refine ⟨_, _, run_append_room (P := P) w t ty e i ht hi g n cap cur hg a m c news hl hnews h1 hroom hfit,
          ⟨⟨hlen, .inr ⟨g, cap, _, rfl, hbg, setRow_heap w g cur _ e _ hg, hroom, hcm, by simpa using hsz, ?_⟩⟩, ⟨rfl, rfl, rfl, by simp, fun k _ hk => setRow_other w g k _ (fun h => hk (by rw [h]; rfl))⟩, .inl ⟨g, cap, rfl, rfl⟩⟩⟩
        show (cur.toList.take (n * i.size) ++ news ++ cur.toList.drop (n * i.size + news.length)).take ((n + m) * i.size) = xs ++ news
        rw [htake, ← hlen, List.take_left]
      · exact ⟨_, _, run_append_grow (P := P) w t ty e i z ht hi hz ⟨g, 0, none⟩ n cap xs hown.1 (hown.cells (g := g) rfl) a m c news hl hnews (by omega) (by omega) (growslice_fits (by omega) hbytes), new cap⟩

theorem wpList_append_app {ops : Array Oper} {rest : List Oper} {o : Oper} {a : Act} {Q : Exit → Act → World → Prop} (hgd : o.guard = none) (s x : Operand) (t : TypeId)
    (ho : o.op = .call { callee := .builtin .append, args := #[s, x], argTypes := #[t, t] })
    (base : Nat) (e : TypeId) (i : TypeInfo) (z : Value) (size bytes : Nat) (ht : P.underlying t = some (.slice e)) (hi : P.info? e = some i) (hz : i.zero = some z)
    (hsize : i.size = size) (hby : i.bytes = bytes) (hzs : z.cells.size = size)
    (v : Value) (n : Nat) (xs : List Value) (hs : a.eval s = v) (hown : w.ownsRow base e size v n xs)
    (A : Option Addr) (m c : Nat) (news : List Value) (hx : a.eval x = .slice A m c) (hl : news.length = m * size) (hA : A = none → m = 0) (hnews : ∀ a, A = some a → ∀ j u, news[j]? = some u → w.cell? (a.add j) = some u) (h1 : ∀ u ∈ news, u.oneCell' = true)
    (h63 : n + m ≤ maxLen) (hbytes : (n + m) * bytes ≤ 140737488355328) (hbase : base ≤ w.heap.size)
    (h : ∀ v' w', App w w' base e size v v' n m xs news → wpList P ops Q rest (a.put o.dst v') w') : wpList P ops Q (o :: rest) a w := by
  refine wpList_plain hgd fun _ hK => ?_
  obtain ⟨v', w', hrun, h2⟩ := run_append_app (P := P) w base t o.type e i z size bytes ht hi hz hsize hby hzs v n xs hown A m c news hl hA hnews h1 h63 hbytes hbase
  unfold Oper.wp execOp
  simp only [ho, resolve, invoke, builtin, Sem.run_bind, Sem.run_pure, Result.andThen_ok, List.map_toArray, List.map_cons, List.map_nil, hs, hx, hrun]
  exact hK _ _ (h v' w' h2)
end

section
variable {w w' : World} {base : Nat} {e : TypeId} {size : Nat} {v v' : Value} {n m : Nat} {xs news : List Value}

theorem App.size_le (h : App w w' base e size v v' n m xs news) : w.heap.size ≤ w'.heap.size := h.grow.size

/-- Below B nothing has turned, where the slice that was appended to is the call's own from B on. -/
theorem App.below (h : App w w' base e size v v' n m xs news) {B : Nat} {w0 : World} (hb : Below B w0 w) (hB : B ≤ w.heap.size) (hv : ∀ k, v.ownBlock = some k → B ≤ k) : Below B w0 w' :=
  hb.grown h.grow hB hv

theorem own_block_ge (h : w.ownsRow base e size v n xs) : ∀ k, v.ownBlock = some k → base ≤ k := fun k hk => (h.lt k hk).1

/-- Whatever is owned in another row stays. -/
theorem App.other (h : App w w' base e size v v' n m xs news) {base2 e2 size2 n2 : Nat} {u : Value} {ys : List Value} (hu : w.ownsRow base2 e2 size2 u n2 ys) (hne : u.ownBlock = none ∨ u.ownBlock ≠ v.ownBlock) : w'.ownsRow base2 e2 size2 u n2 ys :=
  hu.kept h.grow hne

/-- A slice over the first cells of the same row keeps what it holds. -/
theorem App.shorter (h : App w w' base e size v v' n m xs news) {base2 n2 : Nat} {u : Value} {ys : List Value} (hu : w.ownsRow base2 e size u n2 ys) (hn : n2 ≤ n) (hys : xs.take (n2 * size) = ys) (hv : w.ownsRow base e size v n xs) : w'.ownsRow base2 e size u n2 ys := by
  rcases h.place with ⟨g, cap, rfl, rfl⟩ | ⟨hg, _⟩ | ⟨_, rfl⟩
  · by_cases hne : u.ownBlock = some g
    · rcases hu.2 with ⟨rfl, _⟩ | ⟨g', cap', cur, rfl, hb, hh, hnc, hcm, hcs, ht⟩
      · simp [Value.ownBlock] at hne
      · have hgg : g' = g := by simpa [Value.ownBlock] using hne
        subst hgg
        rcases hv.2 with ⟨h', _⟩ | ⟨g2, cap2, cur2, h2, _, hh2, _, _, hcs2, _⟩
        · simp at h'
        · simp only [Value.slice.injEq, Option.some.injEq, Addr.mk.injEq, and_true, true_and] at h2
          obtain ⟨rfl, rfl⟩ := h2
          rw [hh] at hh2
          simp only [Option.some.injEq, Obj.cells.injEq, and_true] at hh2
          subst hh2
          rcases h.own.2 with ⟨h', _⟩ | ⟨g3, cap3, cur3, h3, _, hh3, _, _, hcs3, ht3⟩
          · simp at h'
          · simp only [Value.slice.injEq, Option.some.injEq, Addr.mk.injEq, and_true, true_and] at h3
            obtain ⟨rfl, rfl⟩ := h3
            refine ⟨hu.1, .inr ⟨g', cap', cur3, rfl, hb, hh3, hnc, hcm, by rw [hcs3, ← hcs2, hcs], ?_⟩⟩
            have hle : n2 * size ≤ (n + m) * size := Nat.mul_le_mul_right _ (by omega)
            have hlx : n2 * size ≤ xs.length := by rw [hv.1]; exact Nat.mul_le_mul_right _ hn
            have : cur3.toList.take (n2 * size) = ((cur3.toList.take ((n + m) * size)).take (n2 * size)) := by
              rw [List.take_take, Nat.min_eq_left hle]
            rw [this, ht3, List.take_append_of_le_length hlx, hys]
    · exact hu.kept h.grow (.inr (by simpa [Value.ownBlock] using hne))
  · exact hu.kept hg (by cases u.ownBlock <;> simp)
  · exact hu

/-- Where the new slice lies: in the old one's row, or in a block that was not there. -/
theorem App.block (h : App w w' base e size v v' n m xs news) : v'.ownBlock = v.ownBlock ∨ v'.ownBlock = some w.heap.size := by
  rcases h.place with ⟨g, cap, rfl, rfl⟩ | ⟨_, h⟩ | ⟨rfl, _⟩
  · exact .inl rfl
  · exact .inr h
  · exact .inl rfl
end

#print axioms App.shorter
end Go.Proofs.Ytenmopnegedgjaa
