/- Of the proofs of layer 4, merged: Words, Append, Bk, DiskP, DiskP2, DiskP3, OwnP. -/
import Derived.WalkKit
import Derived.Deep.Draws
import Derived.Lib.Hide
import Derived.IntWalk

/- My words for slices of bytes in memory: what reads as a list of bytes, what the call owns, and how both stay while memory grows. No program is named here. -/
namespace Go.Proofs.Ytjapmolmgfaocaa
open Go.RowKit

/-- The cells of a list of bytes. -/
def u8s (l : List UInt8) : List Value := l.map fun x => .int .u8 (x.toNat : Int)

theorem u8s_len (l : List UInt8) : (u8s l).length = l.length := by simp [u8s]
theorem u8s_append (a b : List UInt8) : u8s (a ++ b) = u8s a ++ u8s b := by simp [u8s]
theorem u8s_nil : u8s [] = [] := rfl
theorem u8s_cons (x : UInt8) (l : List UInt8) : u8s (x :: l) = .int .u8 (x.toNat : Int) :: u8s l := rfl
theorem u8s_get (l : List UInt8) (j : Nat) : (u8s l)[j]? = l[j]?.map fun x => Value.int .u8 (x.toNat : Int) := by simp [u8s]
theorem u8s_at (l : List UInt8) (j : Nat) (h : j < l.length) : (u8s l)[j]? = some (.int .u8 (l[j].toNat : Int)) := by simp [u8s, h]
theorem u8s_one (l : List UInt8) : ∀ u ∈ u8s l, u.oneCell' = true := by
  intro u hu; obtain ⟨_, _, rfl⟩ := List.mem_map.1 hu; rfl
theorem u8s_take (l : List UInt8) (k : Nat) : (u8s l).take k = u8s (l.take k) := by simp [u8s, List.map_take]
theorem u8s_drop (l : List UInt8) (k : Nat) : (u8s l).drop k = u8s (l.drop k) := by simp [u8s, List.map_drop]
theorem u8s_set (l : List UInt8) (k : Nat) (x : UInt8) : (u8s l).set k (.int .u8 (x.toNat : Int)) = u8s (l.set k x) := by simp [u8s, List.map_set]
theorem u8_lt (x : UInt8) : x.toNat < 256 := x.toNat_lt

/-- A slice of length n at A reads as the bytes l, in blocks below B; of a slice of no byte nothing is said of A. -/
def Rd (w : World) (B : Nat) (A : Option Addr) (n : Nat) (l : List UInt8) : Prop :=
  l.length = n ∧ (0 < n → ∃ b o, A = some ⟨b, o, none⟩ ∧ b < B ∧ ∀ j (h : j < l.length), w.cell? ⟨b, o + j, none⟩ = some (.int .u8 (l[j].toNat : Int)))

section
variable {w w' : World} {B B' n : Nat} {A : Option Addr} {l : List UInt8}
theorem Rd.nil (w : World) (B : Nat) (A : Option Addr) : Rd w B A 0 [] := ⟨rfl, fun h => absurd h (by omega)⟩
theorem Rd.keep (h : Rd w B A n l) (hk : ∀ p : Addr, p.block < B → w'.cell? p = w.cell? p) : Rd w' B A n l :=
  ⟨h.1, fun hn => by obtain ⟨b, o, e, hb, hc⟩ := h.2 hn; exact ⟨b, o, e, hb, fun j hj => (hk _ hb).trans (hc j hj)⟩⟩
theorem Rd.more (h : Rd w B A n l) (hB : B ≤ B') : Rd w B' A n l :=
  ⟨h.1, fun hn => by obtain ⟨b, o, e, hb, hc⟩ := h.2 hn; exact ⟨b, o, e, by omega, hc⟩⟩
theorem Rd.below (h : Rd w B A n l) (hb : Below B w w') : Rd w' B A n l := h.keep fun _ hp => hb.cell hp
theorem Rd.drew (h : Rd w B A n l) : Rd w.drew B A n l := h
theorem Rd.drewN (h : Rd w B A n l) (k : Nat) : Rd (w.drewN k) B A n l := h
theorem Rd.alloc (h : Rd w B A n l) (hB : B ≤ w.heap.size) (o : Obj) : Rd (w.alloc o) B A n l := h.below ((Below.refl _ _).alloc hB o)
theorem Rd.setCell (h : Rd w B A n l) {p : Addr} (hp : B ≤ p.block) (u : Value) : Rd (w.setCell p u) B A n l := h.below ((Below.refl _ _).setCell hp u)
theorem Rd.grown (h : Rd w B A n l) {row : Option Nat} (hg : w.grownBy w' row) (hB : B ≤ w.heap.size) (hr : ∀ k, row = some k → B ≤ k) : Rd w' B A n l :=
  h.below ((Below.refl _ _).grown hg hB hr)

/-- As the model's laws on append and conversion want it: the cells at the address. -/
theorem Rd.cells (h : Rd w B A n l) : ∀ ad, A = some ad → ∀ j u, (u8s l)[j]? = some u → w.cell? (ad.add j) = some u := by
  intro ad e j u hu
  rw [u8s_get] at hu
  obtain ⟨x, hx, rfl⟩ := Option.map_eq_some_iff.1 hu
  have hj : j < l.length := (List.getElem?_eq_some_iff.1 hx).1
  obtain ⟨b, o, e', _, hc⟩ := h.2 (by have := h.1; omega)
  rw [e'] at e
  obtain rfl := Option.some.inj e
  rw [Addr.add_lit, hc j hj]
  rw [(List.getElem?_eq_some_iff.1 hx).2]

theorem strOf_toList (l : List UInt8) : (⟨l.toArray⟩ : ByteArray).data.toList = l := rfl

theorem strOfNums_u8 (l : List UInt8) : strOfNums (l.map fun x => (x.toNat : Int)) = ⟨l.toArray⟩ := by
  unfold strOfNums
  congr 1
  rw [List.map_map]
  congr 1
  have : ((fun n : Int => UInt8.ofNat n.toNat) ∘ fun x : UInt8 => (x.toNat : Int)) = id := by
    funext x; simp
  rw [this, List.map_id]

/-- string(b). -/
theorem Rd.str {P : Program} {src e dst : TypeId} (h : Rd w B A n l) (hs : P.underlying src = some (.slice e)) (he : P.underlying e = some (.int .u8)) (hd : P.underlying dst = some .string) (c : Nat) :
    (convert src dst (.slice A n c)).run P w = .ok (.string ⟨l.toArray⟩) w := by
  rcases Nat.eq_zero_or_pos n with hn | hn
  · subst hn
    have hl : l = [] := List.eq_nil_of_length_eq_zero h.1
    subst hl
    cases A with
    | none => rw [run_convert_bytes_nil w src e hs he 0 c dst hd]; rfl
    | some a =>
      rw [run_convert_bytes_string w src dst e _ 0 c hs he hd, run_bytesToString w a 0 c [] (by simp [loadCells, loadCellsFrom])]
      rfl
  · obtain ⟨b, o, rfl, _, hc⟩ := h.2 hn
    rw [run_convert_bytes_arg w src e hs he b o n c (l.map fun x => (x.toNat : Int)) (by simp [h.1]) (fun i hi => by
      have hi' : i < l.length := by have := h.1; omega
      rw [hc i hi']
      simp [List.getD, hi']) dst hd, strOfNums_u8]
end

/-- What the call owns reads. -/
theorem Rd.of_own {w : World} {base e n c : Nat} {A : Option Addr} {l : List UInt8} (h : w.ownsRow base e 1 (.slice A n c) n (u8s l)) : Rd w w.heap.size A n l := by
  refine ⟨by simpa [u8s_len] using h.1, fun hn => ?_⟩
  rcases h.2 with ⟨_, h0⟩ | ⟨g, cap, cur, hv, _, hh, _⟩
  · omega
  · have hA : A = some ⟨g, 0, none⟩ := by injection hv
    subst hA
    refine ⟨g, 0, rfl, (Array.getElem?_eq_some_iff.1 hh).1, fun j hj => ?_⟩
    have := h.cells (g := g) rfl j _ (u8s_at l j hj)
    rwa [Addr.add_lit] at this

/-- What reads below the heap's end reads on, whatever is made behind it. -/
theorem Rd.up {w w' : World} {n : Nat} {A : Option Addr} {l : List UInt8} (h : Rd w w.heap.size A n l) (hb : Below w.heap.size w w') : Rd w' w'.heap.size A n l := (h.below hb).more hb.size
/-- Two steps, each of which keeps all that was there. -/
theorem below_then {w w1 w2 : World} (h : Below w.heap.size w w1) (h2 : Below w1.heap.size w1 w2) : Below w.heap.size w w2 := h.trans (h2.mono h.size)

theorem own_mono {w : World} {base base' e size n : Nat} {v : Value} {xs : List Value} (h : w.ownsRow base e size v n xs) (hb : base' ≤ base) : w.ownsRow base' e size v n xs := by
  refine ⟨h.1, ?_⟩
  rcases h.2 with h' | ⟨g, cap, cur, hv, hg, r⟩
  · exact .inl h'
  · exact .inr ⟨g, cap, cur, hv, by omega, r⟩

theorem own_below {w w' : World} {base e size n B : Nat} {v : Value} {xs : List Value} (h : w.ownsRow base e size v n xs) (hb : Below B w w') (hB : ∀ k, v.ownBlock = some k → k < B) : w'.ownsRow base e size v n xs := by
  refine ⟨h.1, ?_⟩
  rcases h.2 with h' | ⟨g, cap, cur, rfl, hg, hh, r⟩
  · exact .inl h'
  · exact .inr ⟨g, cap, cur, rfl, hg, by rw [hb.block g (hB g rfl)]; exact hh, r⟩

/-- The shape of what is owned. -/
theorem own_shape {w : World} {base e size n : Nat} {v : Value} {xs : List Value} (h : w.ownsRow base e size v n xs) : ∃ A c, v = .slice A n c ∧ n ≤ c ∧ c ≤ maxLen := by
  rcases h.2 with ⟨rfl, rfl⟩ | ⟨g, cap, cur, rfl, _, _, h1, h2, _⟩
  · exact ⟨none, 0, rfl, Nat.le_refl _, by simp [maxLen]⟩
  · exact ⟨_, _, rfl, h1, h2⟩

end Go.Proofs.Ytjapmolmgfaocaa

/- append onto a slice that the call owns, from whatever source: where the new slice lies, and that a shorter slice over the same row keeps what it holds. No program is named here. -/
namespace Go.Proofs.Ytjapmolmgfaocaa
open Go.RowKit

/-- What an append of m elements (cells 'news') onto v (n elements, cells 'xs') leaves. -/
structure App (w w' : World) (base : Nat) (e : TypeId) (size : Nat) (v v' : Value) (n m : Nat) (xs news : List Value) : Prop where
  own : w'.ownsRow base e size v' (n + m) (xs ++ news)
  grow : w.grownBy w' v.ownBlock
  place : (∃ g cap, v = .slice (some ⟨g, 0, none⟩) n cap ∧ v' = .slice (some ⟨g, 0, none⟩) (n + m) cap) ∨ (w.grownBy w' none ∧ v'.ownBlock = some w.heap.size) ∨ (v' = v ∧ w' = w)

/-- A new block whose first cells are ys is a row of the call's own. -/
theorem own_new (w : World) {base e size k cap : Nat} {cur : Array Value} {ys : List Value} (hb : base ≤ w.heap.size) (hk : k ≤ cap) (hm : cap ≤ maxLen) (hs : cur.size = cap * size) (hy : ys.length = k * size) (ht : cur.toList.take ys.length = ys) :
    (w.drew.alloc (.cells cur e)).ownsRow base e size (.slice (some ⟨w.heap.size, 0, none⟩) k cap) k ys ∧ ∀ row, w.grownBy (w.drew.alloc (.cells cur e)) row :=
  ⟨⟨hy, .inr ⟨w.heap.size, cap, cur, rfl, hb, heap_alloc_new w.drew _, hk, hm, hs, by rw [← hy]; exact ht⟩⟩,
    fun row => ⟨rfl, rfl, rfl, by simp, fun j hj _ => Below.heap_alloc w.drew _ j hj⟩⟩

section
variable {P : Program} (w : World)

theorem run_append_app (base : Nat) (t ty e : TypeId) (i : TypeInfo) (z : Value) (size bytes : Nat) (ht : P.underlying t = some (.slice e)) (hi : P.info? e = some i) (hz : i.zero = some z)
    (hsize : i.size = size) (hby : i.bytes = bytes) (hzs : z.cells.size = size)
    (v : Value) (n : Nat) (xs : List Value) (hown : w.ownsRow base e size v n xs)
    (A : Option Addr) (m c : Nat) (news : List Value) (hl : news.length = m * size) (hA : A = none → m = 0) (hnews : ∀ a, A = some a → ∀ j u, news[j]? = some u → w.cell? (a.add j) = some u) (h1 : ∀ u ∈ news, u.oneCell' = true)
    (h63 : n + m ≤ maxLen) (hbytes : (n + m) * bytes ≤ 140737488355328) (hbase : base ≤ w.heap.size) :
    ∃ v' w', (Builtin.append_ #[t, t] ty #[v, .slice A m c]).run P w = .ok v' w' ∧ App w w' base e size v v' n m xs news := by
  subst hsize hby
  have hlen : (xs ++ news).length = (n + m) * i.size := by rw [List.length_append, hown.1, hl, Nat.add_mul]
  have hbig : n + m ≤ 9223372036854775807 := by have h := h63; simp only [maxLen] at h; omega
  -- what a growing append leaves behind, from the capacity 'old'
  have new : ∀ old, App w (w.drew.alloc (.cells (xs.toArray ++ news.toArray ++ Builtin.zeroCells z.cells (grownCap w (n + m) old e - (n + m))) e)) base e i.size v
      (.slice (some ⟨w.heap.size, 0, none⟩) (n + m) (grownCap w (n + m) old e)) n m xs news := by
    intro old
    have hcap := grownCap_ge w (n + m) old e
    obtain ⟨h1, h2⟩ := own_new w (base := base) (e := e) (size := i.size) (k := n + m) (cap := grownCap w (n + m) old e) (cur := xs.toArray ++ news.toArray ++ Builtin.zeroCells z.cells (grownCap w (n + m) old e - (n + m))) (ys := xs ++ news)
      hbase hcap (grownCap_le_maxLen w (n + m) old e h63)
      (by rw [Array.size_append, size_zeroCells, Array.size_append, List.size_toArray, List.size_toArray, ← List.length_append, hlen, hzs, ← Nat.add_mul, Nat.add_sub_cancel' hcap]) hlen
      (by simp only [Array.toList_append, List.take_left])
    exact ⟨h1, h2 _, .inr (.inl ⟨h2 none, rfl⟩)⟩
  by_cases hm : m = 0
  · subst hm
    obtain rfl : news = [] := List.eq_nil_of_length_eq_zero (by simpa using hl)
    refine ⟨v, w, ?_, ⟨by simpa using hown, World.grownBy.refl w _, .inr (.inr ⟨rfl, rfl⟩)⟩⟩
    rcases hown.2 with ⟨rfl, rfl⟩ | ⟨g, cap, cur, rfl, _, hg, hnc, _⟩ <;> cases A <;>
      simp [Builtin.append_, run_underlying ht, sizeOf, typeInfo, Builtin.lenOf, Builtin.firstCells, loadCells, loadCellsFrom, storeCells, *]
  · obtain ⟨a, rfl⟩ : ∃ a, A = some a := by cases A with | none => exact absurd (hA rfl) hm | some a => exact ⟨a, rfl⟩
    have hnews := hnews a rfl
    rcases hown.2 with ⟨rfl, rfl⟩ | ⟨g, cap, cur, rfl, hbg, hg, hnc, hcm, hcs, htake⟩
    · obtain rfl : xs = [] := List.eq_nil_of_length_eq_zero (by simpa using hown.1)
      have hr := run_append_nil (P := P) w t ty e i z ht hi hz a m c news hl hnews (by omega) (by omega) (by simp only [Nat.zero_add] at hbytes; omega)
      have hn := new 0
      simp only [Nat.zero_add, Array.empty_append] at hn
      exact ⟨_, _, hr, hn⟩
    · by_cases hroom : n + m ≤ cap
      · have hfit : n * i.size + news.length ≤ cur.size := by rw [hl, hcs, ← Nat.add_mul]; exact Nat.mul_le_mul_right _ hroom
        have hsz : (cur.toList.take (n * i.size) ++ news ++ cur.toList.drop (n * i.size + news.length)).length = cap * i.size := by
          rw [List.length_append, List.length_append, List.length_take, List.length_drop, Array.length_toList]
          omega
        refine ⟨_, _, run_append_room (P := P) w t ty e i ht hi g n cap cur hg a m c news hl hnews h1 hroom hfit,
          ⟨⟨hlen, .inr ⟨g, cap, _, rfl, hbg, setRow_heap w g cur _ e _ hg, hroom, hcm, by simpa using hsz, ?_⟩⟩, ⟨rfl, rfl, rfl, by simp, fun k _ hk => setRow_other w g k _ (fun h => hk (by rw [h]; rfl))⟩, .inl ⟨g, cap, rfl, rfl⟩⟩⟩
        show (cur.toList.take (n * i.size) ++ news ++ cur.toList.drop (n * i.size + news.length)).take ((n + m) * i.size) = xs ++ news
        rw [htake, ← hlen, List.take_left]
      · exact ⟨_, _, run_append_grow (P := P) w t ty e i z ht hi hz ⟨g, 0, none⟩ n cap xs hown.1 (hown.cells (g := g) rfl) a m c news hl hnews (by omega) (by omega) (growslice_fits (by omega) hbytes), new cap⟩

theorem wpList_append_app {ops : Array Oper} {rest : List Oper} {o : Oper} {a : Act} {Q : Exit → Act → World → Prop} (hgd : o.guard = none) (s x : Operand) (t : TypeId)
    (ho : o.op = .call { callee := .builtin .append, args := #[s, x], argTypes := #[t, t] })
    (base : Nat) (e : TypeId) (i : TypeInfo) (z : Value) (size bytes : Nat) (ht : P.underlying t = some (.slice e)) (hi : P.info? e = some i) (hz : i.zero = some z)
    (hsize : i.size = size) (hby : i.bytes = bytes) (hzs : z.cells.size = size)
    (v : Value) (n : Nat) (xs : List Value) (hs : a.eval s = v) (hown : w.ownsRow base e size v n xs)
    (A : Option Addr) (m c : Nat) (news : List Value) (hx : a.eval x = .slice A m c) (hl : news.length = m * size) (hA : A = none → m = 0) (hnews : ∀ a, A = some a → ∀ j u, news[j]? = some u → w.cell? (a.add j) = some u) (h1 : ∀ u ∈ news, u.oneCell' = true)
    (h63 : n + m ≤ maxLen) (hbytes : (n + m) * bytes ≤ 140737488355328) (hbase : base ≤ w.heap.size)
    (h : ∀ v' w', App w w' base e size v v' n m xs news → wpList P ops Q rest (a.put o.dst v') w') : wpList P ops Q (o :: rest) a w := by
  refine wpList_plain hgd fun _ hK => ?_
  obtain ⟨v', w', hrun, h2⟩ := run_append_app (P := P) w base t o.type e i z size bytes ht hi hz hsize hby hzs v n xs hown A m c news hl hA hnews h1 h63 hbytes hbase
  unfold Oper.wp execOp
  simp only [ho, resolve, invoke, builtin, Sem.run_bind, Sem.run_pure, Result.andThen_ok, List.map_toArray, List.map_cons, List.map_nil, hs, hx, hrun]
  exact hK _ _ (h v' w' h2)
end

section
variable {w w' : World} {base : Nat} {e : TypeId} {size : Nat} {v v' : Value} {n m : Nat} {xs news : List Value}

theorem App.size_le (h : App w w' base e size v v' n m xs news) : w.heap.size ≤ w'.heap.size := h.grow.size

/-- Below B nothing has turned, where the slice that was appended to is the call's own from B on. -/
theorem App.below (h : App w w' base e size v v' n m xs news) {B : Nat} {w0 : World} (hb : Below B w0 w) (hB : B ≤ w.heap.size) (hv : ∀ k, v.ownBlock = some k → B ≤ k) : Below B w0 w' :=
  hb.grown h.grow hB hv

theorem own_block_ge (h : w.ownsRow base e size v n xs) : ∀ k, v.ownBlock = some k → base ≤ k := fun k hk => (h.lt k hk).1

/-- Whatever is owned in another row stays. -/
theorem App.other (h : App w w' base e size v v' n m xs news) {base2 e2 size2 n2 : Nat} {u : Value} {ys : List Value} (hu : w.ownsRow base2 e2 size2 u n2 ys) (hne : u.ownBlock = none ∨ u.ownBlock ≠ v.ownBlock) : w'.ownsRow base2 e2 size2 u n2 ys :=
  hu.kept h.grow hne

/-- A slice over the first cells of the same row keeps what it holds. -/
theorem App.shorter (h : App w w' base e size v v' n m xs news) {base2 n2 : Nat} {u : Value} {ys : List Value} (hu : w.ownsRow base2 e size u n2 ys) (hn : n2 ≤ n) (hys : xs.take (n2 * size) = ys) (hv : w.ownsRow base e size v n xs) : w'.ownsRow base2 e size u n2 ys := by
  rcases h.place with ⟨g, cap, rfl, rfl⟩ | ⟨hg, _⟩ | ⟨_, rfl⟩
  · by_cases hne : u.ownBlock = some g
    · rcases hu.2 with ⟨rfl, _⟩ | ⟨g', cap', cur, rfl, hb, hh, hnc, hcm, hcs, ht⟩
      · simp [Value.ownBlock] at hne
      · have hgg : g' = g := by simpa [Value.ownBlock] using hne
        subst hgg
        rcases hv.2 with ⟨h', _⟩ | ⟨g2, cap2, cur2, h2, _, hh2, _, _, hcs2, _⟩
        · simp at h'
        · simp only [Value.slice.injEq, Option.some.injEq, Addr.mk.injEq, and_true, true_and] at h2
          obtain ⟨rfl, rfl⟩ := h2
          rw [hh] at hh2
          simp only [Option.some.injEq, Obj.cells.injEq, and_true] at hh2
          subst hh2
          rcases h.own.2 with ⟨h', _⟩ | ⟨g3, cap3, cur3, h3, _, hh3, _, _, hcs3, ht3⟩
          · simp at h'
          · simp only [Value.slice.injEq, Option.some.injEq, Addr.mk.injEq, and_true, true_and] at h3
            obtain ⟨rfl, rfl⟩ := h3
            refine ⟨hu.1, .inr ⟨g', cap', cur3, rfl, hb, hh3, hnc, hcm, by rw [hcs3, ← hcs2, hcs], ?_⟩⟩
            have hle : n2 * size ≤ (n + m) * size := Nat.mul_le_mul_right _ (by omega)
            have hlx : n2 * size ≤ xs.length := by rw [hv.1]; exact Nat.mul_le_mul_right _ hn
            have : cur3.toList.take (n2 * size) = ((cur3.toList.take ((n + m) * size)).take (n2 * size)) := by
              rw [List.take_take, Nat.min_eq_left hle]
            rw [this, ht3, List.take_append_of_le_length hlx, hys]
    · exact hu.kept h.grow (.inr (by simpa [Value.ownBlock] using hne))
  · exact hu.kept hg (by cases u.ownBlock <;> simp)
  · exact hu

/-- Where the new slice lies: in the old one's row, or in a block that was not there. -/
theorem App.block (h : App w w' base e size v v' n m xs news) : v'.ownBlock = v.ownBlock ∨ v'.ownBlock = some w.heap.size := by
  rcases h.place with ⟨g, cap, rfl, rfl⟩ | ⟨_, h⟩ | ⟨rfl, _⟩
  · exact .inl rfl
  · exact .inr h
  · exact .inl rfl
end

#print axioms App.shorter
end Go.Proofs.Ytjapmolmgfaocaa

/- Blocks that are known whole. No program is named here. -/
namespace Go.Proofs.Ytjapmolmgfaocaa
open Go.RowKit

/-- Block g is just these cells. -/
def Bk (w : World) (g : Nat) (t : TypeId) (cs : Array Value) : Prop := w.heap[g]? = some (.cells cs t (0, 0))
section
variable {w w' : World} {g : Nat} {t : TypeId} {cs : Array Value}
theorem Bk.lt (h : Bk w g t cs) : g < w.heap.size := by
  unfold Bk at h
  exact (Array.getElem?_eq_some_iff.1 h).1
theorem Bk.cell (h : Bk w g t cs) (i : Nat) : w.cell? ⟨g, i, none⟩ = cs[i]? := cell_of_row w g i cs t (0, 0) h
theorem Bk.frozen (h : Bk w g t cs) (i : Nat) : w.frozen? ⟨g, i, none⟩ = false := frozen_of_row w g i cs t h
theorem Bk.new (w : World) (t : TypeId) (cs : Array Value) : Bk (w.alloc (.cells cs t)) w.heap.size t cs := heap_alloc_new w _
theorem Bk.set_ (h : Bk w g t cs) (i : Nat) (u : Value) : Bk (w.setCell ⟨g, i, none⟩ u) g t (cs.setIfInBounds i u) := heap_setCell_same w g i cs t u h
theorem Bk.grown (h : Bk w g t cs) {row : Option Nat} (hb : w.grownBy w' row) (hg : some g ≠ row) : Bk w' g t cs := (hb.block g h.lt hg).trans h
theorem Bk.below (h : Bk w g t cs) {B : Nat} (hb : Below B w w') (hg : g < B) : Bk w' g t cs := (hb.block g hg).trans h
theorem grown_set (w : World) (g i : Nat) (u : Value) : w.grownBy (w.setCell ⟨g, i, none⟩ u) (some g) :=
  ⟨rfl, rfl, rfl, by simp [World.setCell], fun k _ hk => Below.heap_setCell w ⟨g, i, none⟩ u k (fun e => hk (by rw [e]))⟩
theorem grown_drewN (w : World) (q : Nat) (row : Option Nat) : w.grownBy (w.drewN q) row := ⟨rfl, rfl, rfl, Nat.le_refl _, fun _ _ _ => rfl⟩
theorem grown_trans {a b c : World} {row : Option Nat} (h : a.grownBy b row) (k : b.grownBy c row) : a.grownBy c row :=
  ⟨k.os.trans h.os, k.tape.trans h.tape, k.output.trans h.output, Nat.le_trans h.size k.size, fun i hi hne => (k.block i (Nat.lt_of_lt_of_le hi h.size) hne).trans (h.block i hi hne)⟩
theorem grown_of_below {a b : World} (h : Below a.heap.size a b) (row : Option Nat) : a.grownBy b row := ⟨h.os, h.tape, h.output, h.size, fun k hk _ => h.block k hk⟩
theorem below_of_grown {a b : World} {g B : Nat} (h : a.grownBy b (some g)) (hB : B ≤ a.heap.size) (hg : B ≤ g) : Below B a b := (Below.refl _ _).grown h hB (fun k hk => by injection hk with hk; omega)
end
theorem own_grown {w w' : World} {base e size n g : Nat} {v : Value} {xs : List Value} (h : w.ownsRow base e size v n xs) (hg : w.grownBy w' (some g)) (hlt : g < base) : w'.ownsRow base e size v n xs :=
  h.kept hg (by
    cases hv : v.ownBlock with
    | none => exact .inl rfl
    | some k => have := (h.lt k hv).1; exact .inr fun e => by injection e with e; omega)
theorem bel_drewN {B : Nat} {w w' : World} (h : Below B w w') (q : Nat) : Below B w (w'.drewN q) := ⟨h.os, h.tape, h.output, h.size, h.block⟩
end Go.Proofs.Ytjapmolmgfaocaa

/- Plain: a disk: what was synced, what waits, how many acts go well, whether the power is gone. -/
namespace Go.Proofs.Ytjapmolmgfaocaa

structure Dk where
  safe : List (List UInt8)
  waits : List (Nat × List UInt8)
  left : Int
  down : Bool

/-- The first n bytes of b, laid over s. -/
def lay (n : Nat) (b s : List UInt8) : List UInt8 := b.take n ++ s.drop n
def clip (k : Int) : Nat := (min (max k 0) 32).toNat
/-- What waits, all of it there. -/
def syncS (s : List (List UInt8)) (ws : List (Nat × List UInt8)) : List (List UInt8) := ws.foldl (fun s w => s.set w.1 w.2) s
/-- What waits, so much of each there as is kept. -/
def crashS : List (List UInt8) → List (Nat × List UInt8) → List Int → List (List UInt8)
  | s, [], _ => s
  | s, _ :: _, [] => s
  | s, w :: ws, k :: ks => crashS (s.set w.1 (lay (clip k) w.2 (s.getD w.1 []))) ws ks
/-- What a sector has. -/
def seen (s : List (List UInt8)) (ws : List (Nat × List UInt8)) (i : Nat) : List UInt8 := ws.foldl (fun x w => if w.1 = i then w.2 else x) (s.getD i [])

/-- May an act be done? -/
def Dk.act (d : Dk) : Bool × Dk :=
  if d.down then (false, d) else if d.left = 0 then (false, { d with down := true }) else if 0 < d.left then (true, { d with left := d.left - 1 }) else (true, d)
def Dk.write (d : Dk) (a : Int) (b : List UInt8) : Int × Dk :=
  if d.down then (6, d) else if a < 0 ∨ (d.safe.length : Int) ≤ a ∨ b.length ≠ 32 then (30, d)
  else if d.act.1 then (0, { d.act.2 with waits := d.waits ++ [(a.toNat, b)] }) else (6, d.act.2)
def Dk.sync (d : Dk) : Int × Dk := if d.act.1 then (0, { d.act.2 with safe := syncS d.safe d.waits, waits := [] }) else (6, d.act.2)
def Dk.read (d : Dk) (a : Int) : List UInt8 × Int :=
  if d.down then ([], 6) else if a < 0 ∨ (d.safe.length : Int) ≤ a then ([], 30) else (seen d.safe d.waits a.toNat, 0)
def Dk.arm (d : Dk) (n : Int) : Dk := { d with left := if n < 0 then -1 else n }
def Dk.crash (d : Dk) (ks : List Int) : Dk := { safe := crashS d.safe d.waits ks, waits := [], left := -1, down := false }
def Dk.new (n : Nat) : Dk := { safe := List.replicate n (List.replicate 32 0), waits := [], left := -1, down := false }

/-- All sectors have 32 bytes, each write that waits goes to one. -/
structure Dk.Ok (d : Dk) : Prop where
  rows : ∀ s ∈ d.safe, s.length = 32
  waits : ∀ w ∈ d.waits, w.1 < d.safe.length ∧ w.2.length = 32
  left : -1 ≤ d.left

theorem clip_le (k : Int) : clip k ≤ 32 := by unfold clip; omega
theorem lay_len (n : Nat) (b s : List UInt8) (hb : b.length = 32) (hs : s.length = 32) (hn : n ≤ 32) : (lay n b s).length = 32 := by
  unfold lay
  rw [List.length_append, List.length_take, List.length_drop, hb, hs]
  omega
theorem lay_at (n : Nat) (b s : List UInt8) (hb : b.length = 32) (hn : n ≤ 32) (k : Nat) : (lay n b s)[k]? = if k < n then b[k]? else s[k]? := by
  unfold lay
  have hl : (b.take n).length = n := by rw [List.length_take, hb]; omega
  by_cases h : k < n
  · rw [if_pos h, List.getElem?_append_left (by omega), List.getElem?_take_of_lt h]
  · rw [if_neg h, List.getElem?_append_right (by omega), hl, List.getElem?_drop, Nat.add_sub_cancel' (by omega)]

theorem rows_getD {s : List (List UInt8)} (h : ∀ x ∈ s, x.length = 32) {i : Nat} (hi : i < s.length) : (s.getD i []).length = 32 := by
  have e : s.getD i [] = s[i] := by simp [List.getD, hi]
  rw [e]
  exact h _ (List.getElem_mem hi)
theorem rows_set {s : List (List UInt8)} (h : ∀ x ∈ s, x.length = 32) (i : Nat) {b : List UInt8} (hb : b.length = 32) : ∀ x ∈ s.set i b, x.length = 32 := by
  intro x hx
  rcases List.mem_or_eq_of_mem_set hx with hx | hx
  · exact h x hx
  · rw [hx]; exact hb
theorem syncS_len (ws : List (Nat × List UInt8)) : ∀ s, (syncS s ws).length = s.length := by
  induction ws with
  | nil => intro s; rfl
  | cons w ws ih => intro s; show (syncS (s.set w.1 w.2) ws).length = _; rw [ih, List.length_set]
theorem syncS_rows (ws : List (Nat × List UInt8)) : ∀ s : List (List UInt8), (∀ x ∈ s, x.length = 32) → (∀ w ∈ ws, w.2.length = 32) → ∀ x ∈ syncS s ws, x.length = 32 := by
  induction ws with
  | nil => intro s h _; exact h
  | cons w ws ih => intro s h hw; exact ih _ (rows_set h _ (hw w (List.mem_cons_self ..))) fun x hx => hw x (List.mem_cons_of_mem _ hx)
theorem crashS_nil (s : List (List UInt8)) (ks : List Int) : crashS s [] ks = s := by cases ks <;> rfl
theorem crashS_len (ws : List (Nat × List UInt8)) : ∀ (s : List (List UInt8)) (ks : List Int), (crashS s ws ks).length = s.length := by
  induction ws with
  | nil => intro s ks; rw [crashS_nil]
  | cons w ws ih =>
    intro s ks
    cases ks with
    | nil => rfl
    | cons k ks => show (crashS _ ws ks).length = _; rw [ih, List.length_set]
theorem crashS_rows (ws : List (Nat × List UInt8)) : ∀ (s : List (List UInt8)) (ks : List Int), (∀ x ∈ s, x.length = 32) → (∀ w ∈ ws, w.1 < s.length ∧ w.2.length = 32) → ∀ x ∈ crashS s ws ks, x.length = 32 := by
  induction ws with
  | nil => intro s ks h _; rw [crashS_nil]; exact h
  | cons w ws ih =>
    intro s ks h hw
    cases ks with
    | nil => exact h
    | cons k ks =>
      obtain ⟨h1, h2⟩ := hw w (List.mem_cons_self ..)
      exact ih _ ks (rows_set h _ (lay_len _ _ _ h2 (rows_getD h h1) (clip_le k))) fun x hx => by
        rw [List.length_set]
        exact hw x (List.mem_cons_of_mem _ hx)

/-- Each byte behind a crash is what it was, or what one of the writes that waited had there. -/
theorem crashS_from (ws : List (Nat × List UInt8)) : ∀ (s : List (List UInt8)) (ks : List Int), (∀ x ∈ s, x.length = 32) → (∀ w ∈ ws, w.1 < s.length ∧ w.2.length = 32) → ∀ i k, k < 32 → i < s.length →
    ((crashS s ws ks).getD i [])[k]? = (s.getD i [])[k]? ∨ ∃ w ∈ ws, w.1 = i ∧ ((crashS s ws ks).getD i [])[k]? = w.2[k]? := by
  induction ws with
  | nil => intro s ks _ _ i k _ _; rw [crashS_nil]; exact .inl rfl
  | cons w ws ih =>
    intro s ks h hw i k hk hi
    cases ks with
    | nil => exact .inl rfl
    | cons kk ks =>
      obtain ⟨h1, h2⟩ := hw w (List.mem_cons_self ..)
      have hrow := lay_len (clip kk) _ _ h2 (rows_getD h h1) (clip_le kk)
      rcases ih (s.set w.1 (lay (clip kk) w.2 (s.getD w.1 []))) ks (rows_set h _ hrow) (fun x hx => by rw [List.length_set]; exact hw x (List.mem_cons_of_mem _ hx)) i k hk (by rw [List.length_set]; exact hi) with h3 | ⟨v, hv, h3, h4⟩
      · show ((crashS (s.set w.1 _) ws ks).getD i [])[k]? = _ ∨ ∃ v ∈ w :: ws, v.1 = i ∧ ((crashS (s.set w.1 _) ws ks).getD i [])[k]? = _
        by_cases e : w.1 = i
        · subst e
          have e2 : (s.set w.1 (lay (clip kk) w.2 (s.getD w.1 []))).getD w.1 [] = lay (clip kk) w.2 (s.getD w.1 []) := by simp [List.getD, h1]
          rw [e2, lay_at _ _ _ h2 (clip_le kk)] at h3
          by_cases hc : k < clip kk
          · rw [if_pos hc] at h3
            exact .inr ⟨w, List.mem_cons_self .., rfl, h3⟩
          · rw [if_neg hc] at h3
            exact .inl h3
        · have e2 : (s.set w.1 (lay (clip kk) w.2 (s.getD w.1 []))).getD i [] = s.getD i [] := by simp [List.getD, List.getElem?_set_ne e]
          rw [e2] at h3
          exact .inl h3
      · exact .inr ⟨v, List.mem_cons_of_mem _ hv, h3, h4⟩
end Go.Proofs.Ytjapmolmgfaocaa

/- Plain: more of the disk: it stays well formed; how many acts go well; what is seen behind a sync and a crash. -/
namespace Go.Proofs.Ytjapmolmgfaocaa

theorem Dk.new_ok (n : Nat) : (Dk.new n).Ok :=
  ⟨fun s hs => by rw [List.eq_of_mem_replicate hs, List.length_replicate], fun w hw => by simp [Dk.new] at hw, by simp [Dk.new]⟩
theorem Dk.act_same (d : Dk) : d.act.2.safe = d.safe ∧ d.act.2.waits = d.waits := by
  unfold Dk.act
  split
  · exact ⟨rfl, rfl⟩
  split
  · exact ⟨rfl, rfl⟩
  split <;> exact ⟨rfl, rfl⟩
theorem Dk.act_left (d : Dk) (h : -1 ≤ d.left) : -1 ≤ d.act.2.left := by
  unfold Dk.act
  split
  · exact h
  split
  · exact h
  split
  · simp only; omega
  · exact h
theorem Dk.act_ok {d : Dk} (h : d.Ok) : d.act.2.Ok := by
  obtain ⟨h1, h2⟩ := d.act_same
  exact ⟨by rw [h1]; exact h.rows, by rw [h1, h2]; exact h.waits, d.act_left h.left⟩
theorem Dk.write_ok {d : Dk} (h : d.Ok) (a : Int) (b : List UInt8) : (d.write a b).2.Ok := by
  unfold Dk.write
  split
  · exact h
  split
  · exact h
  split
  · rename_i h1 h2 h3
    obtain ⟨e1, _⟩ := d.act_same
    refine ⟨by simp only [e1]; exact h.rows, fun w hw => ?_, d.act_left h.left⟩
    simp only [List.mem_append, List.mem_singleton] at hw
    simp only [e1]
    rcases hw with hw | rfl
    · exact h.waits w hw
    · simp only; omega
  · exact Dk.act_ok h
theorem Dk.sync_ok {d : Dk} (h : d.Ok) : d.sync.2.Ok := by
  unfold Dk.sync
  split
  · exact ⟨syncS_rows _ _ h.rows fun w hw => (h.waits w hw).2, fun w hw => by simp at hw, d.act_left h.left⟩
  · exact Dk.act_ok h
theorem Dk.crash_ok {d : Dk} (h : d.Ok) (ks : List Int) : (d.crash ks).Ok :=
  ⟨crashS_rows _ _ _ h.rows h.waits, fun w hw => by simp [Dk.crash] at hw, by simp [Dk.crash]⟩
theorem Dk.arm_ok {d : Dk} (h : d.Ok) (n : Int) : (d.arm n).Ok := ⟨h.rows, h.waits, by unfold Dk.arm; simp only; split <;> omega⟩
theorem Dk.write_len (d : Dk) (a : Int) (b : List UInt8) : (d.write a b).2.safe.length = d.safe.length := by
  unfold Dk.write
  split
  · rfl
  split
  · rfl
  split <;> simp [d.act_same.1]
theorem Dk.sync_len (d : Dk) : d.sync.2.safe.length = d.safe.length := by
  unfold Dk.sync
  split
  · simp [syncS_len]
  · simp [d.act_same.1]
theorem Dk.crash_len (d : Dk) (ks : List Int) : (d.crash ks).safe.length = d.safe.length := by simp [Dk.crash, crashS_len]

/-- How many acts have gone well since it was armed with n. -/
def Armed (n : Int) (done : Nat) (d : Dk) : Prop :=
  (n < 0 ∧ d.left = -1 ∧ d.down = false) ∨ (0 ≤ n ∧ (done : Int) ≤ n ∧ ((d.down = false ∧ d.left = n - done) ∨ (d.down = true ∧ (done : Int) = n)))
theorem Armed.start (d : Dk) (n : Int) (h : d.down = false) : Armed n 0 (d.arm n) := by
  unfold Armed Dk.arm
  by_cases hn : n < 0
  · rw [if_pos hn]; exact .inl ⟨hn, rfl, h⟩
  · rw [if_neg hn]; exact .inr ⟨by omega, by omega, .inl ⟨h, by simp⟩⟩
/-- An act goes well just if fewer than n have. -/
theorem Armed.act {n : Int} {done : Nat} {d : Dk} (h : Armed n done d) :
    (d.act.1 = true ∧ ¬ (0 ≤ n ∧ n ≤ done) ∧ Armed n (done + 1) d.act.2 ∧ d.act.2.down = false) ∨ (d.act.1 = false ∧ (0 ≤ n ∧ n ≤ done) ∧ Armed n done d.act.2 ∧ d.act.2.down = true) := by
  rcases h with ⟨hn, hl, hd⟩ | ⟨hn, hle, ⟨hd, hl⟩ | ⟨hd, he⟩⟩
  · have e : d.act = (true, d) := by unfold Dk.act; rw [hd, hl]; rfl
    rw [e]
    exact .inl ⟨rfl, by omega, .inl ⟨hn, hl, hd⟩, hd⟩
  · by_cases h0 : d.left = 0
    · have e : d.act = (false, { d with down := true }) := by unfold Dk.act; rw [if_neg (by simp [hd]), if_pos h0]
      rw [e]
      exact .inr ⟨rfl, by omega, .inr ⟨hn, hle, .inr ⟨rfl, by omega⟩⟩, rfl⟩
    · have e : d.act = (true, { d with left := d.left - 1 }) := by unfold Dk.act; rw [if_neg (by simp [hd]), if_neg h0, if_pos (by omega)]
      rw [e]
      exact .inl ⟨rfl, by omega, .inr ⟨hn, by omega, .inl ⟨hd, by simp only; omega⟩⟩, hd⟩
  · have e : d.act = (false, d) := by unfold Dk.act; rw [if_pos hd]
    rw [e]
    exact .inr ⟨rfl, by omega, .inr ⟨hn, hle, .inr ⟨hd, he⟩⟩, hd⟩

/-- With nothing that waits a sync, and a crash, change nothing of what was synced. -/
theorem Dk.sync_none (d : Dk) (h : d.waits = []) : d.sync.2.safe = d.safe := by
  unfold Dk.sync
  split
  · simp [h, syncS]
  · exact d.act_same.1
theorem Dk.crash_none (d : Dk) (h : d.waits = []) (ks : List Int) : (d.crash ks).safe = d.safe := by simp [Dk.crash, h, crashS_nil]
theorem seen_nil (s : List (List UInt8)) (i : Nat) : seen s [] i = s.getD i [] := rfl
/-- One write that waits, torn. -/
theorem crash_one (s : List (List UInt8)) (i : Nat) (b : List UInt8) (k : Int) : crashS s [(i, b)] [k] = s.set i (lay (clip k) b (s.getD i [])) := by
  show crashS (s.set i (lay (clip k) b (s.getD i []))) [] [] = _
  rw [crashS_nil]
/-- What is seen is what a sync would lay. -/
theorem seen_sync (ws : List (Nat × List UInt8)) : ∀ (s : List (List UInt8)), (∀ w ∈ ws, w.1 < s.length) → ∀ i, i < s.length → seen s ws i = (syncS s ws).getD i [] := by
  induction ws with
  | nil => intro s _ i _; rfl
  | cons w ws ih =>
    intro s hw i hi
    have h := ih (s.set w.1 w.2) (fun x hx => by rw [List.length_set]; exact hw x (List.mem_cons_of_mem _ hx)) i (by rw [List.length_set]; exact hi)
    show ws.foldl _ (if w.1 = i then w.2 else s.getD i []) = (syncS (s.set w.1 w.2) ws).getD i []
    rw [← h]
    unfold seen
    congr 1
    by_cases e : w.1 = i
    · subst e
      rw [if_pos rfl]
      simp [List.getD, hi]
    · rw [if_neg e]
      simp [List.getD, List.getElem?_set_ne e]
end Go.Proofs.Ytjapmolmgfaocaa

/- Plain: a crash, write by write; and rows of numbers in memory. -/
namespace Go.Proofs.Ytjapmolmgfaocaa
open Go.RowKit

/-- How many bytes of the i-th write are kept. -/
def keptOf (ks : List Int) (i : Nat) : Nat := if i < ks.length then clip (ks.getD i 0) else 0
theorem keptOf_le (ks : List Int) (i : Nat) : keptOf ks i ≤ 32 := by
  unfold keptOf
  split
  · exact clip_le _
  · omega
theorem lay_zero (b s : List UInt8) : lay 0 b s = s := by simp [lay]
theorem set_same (s : List (List UInt8)) (a : Nat) : s.set a (s.getD a []) = s := by
  apply List.ext_getElem?
  intro j
  by_cases h : a = j
  · subst h
    by_cases ha : a < s.length
    · simp [List.getD, ha]
    · rw [List.set_eq_of_length_le (by omega)]
  · rw [List.getElem?_set_ne h]
theorem crashS_cons (s : List (List UInt8)) (w : Nat × List UInt8) (ws : List (Nat × List UInt8)) (ks : List Int) :
    crashS s (w :: ws) ks = crashS (s.set w.1 (lay (keptOf ks 0) w.2 (s.getD w.1 []))) ws (ks.drop 1) := by
  cases ks with
  | nil =>
    have e : keptOf [] 0 = 0 := rfl
    rw [e, lay_zero, set_same]
    cases ws <;> rfl
  | cons k ks =>
    have e : keptOf (k :: ks) 0 = clip k := rfl
    rw [e]
    rfl
theorem keptOf_drop (ks : List Int) (i : Nat) : keptOf (ks.drop 1) i = keptOf ks (i + 1) := by
  unfold keptOf
  cases ks with
  | nil => simp
  | cons k ks => simp
theorem crashS_take (ws : List (Nat × List UInt8)) : ∀ (s : List (List UInt8)) (ks : List Int) (j : Nat) (hj : j < ws.length),
    crashS s (ws.take (j + 1)) ks = (crashS s (ws.take j) ks).set ws[j].1 (lay (keptOf ks j) ws[j].2 ((crashS s (ws.take j) ks).getD ws[j].1 [])) := by
  induction ws with
  | nil => intro s ks j hj; simp at hj
  | cons w ws ih =>
    intro s ks j hj
    cases j with
    | zero =>
      rw [List.take_zero, crashS_nil, List.take_succ_cons, List.take_zero, crashS_cons, crashS_nil]
      rfl
    | succ j =>
      have := ih (s.set w.1 (lay (keptOf ks 0) w.2 (s.getD w.1 []))) (ks.drop 1) j (by simpa using hj)
      rw [List.take_succ_cons, List.take_succ_cons, crashS_cons, crashS_cons, List.getElem_cons_succ, this, keptOf_drop]

/-- A slice of length n at A reads as the numbers l. -/
def RdI (w : World) (B : Nat) (A : Option Addr) (n : Nat) (l : List Int) : Prop :=
  l.length = n ∧ (∀ x ∈ l, -9223372036854775808 ≤ x ∧ x ≤ 9223372036854775807) ∧ (0 < n → ∃ b o, A = some ⟨b, o, none⟩ ∧ b < B ∧ ∀ j (h : j < l.length), w.cell? ⟨b, o + j, none⟩ = some (.int .i64 l[j]))
theorem RdI.nil (w : World) (B : Nat) (A : Option Addr) : RdI w B A 0 [] := ⟨rfl, fun x hx => by simp at hx, fun h => absurd h (by omega)⟩
theorem RdI.keep {w w' : World} {B n : Nat} {A : Option Addr} {l : List Int} (h : RdI w B A n l) (hk : ∀ p : Addr, p.block < B → w'.cell? p = w.cell? p) : RdI w' B A n l :=
  ⟨h.1, h.2.1, fun hn => by obtain ⟨b, o, e, hb, hc⟩ := h.2.2 hn; exact ⟨b, o, e, hb, fun j hj => (hk _ hb).trans (hc j hj)⟩⟩
theorem RdI.more {w : World} {B B' n : Nat} {A : Option Addr} {l : List Int} (h : RdI w B A n l) (hB : B ≤ B') : RdI w B' A n l :=
  ⟨h.1, h.2.1, fun hn => by obtain ⟨b, o, e, hb, hc⟩ := h.2.2 hn; exact ⟨b, o, e, by omega, hc⟩⟩
theorem RdI.below {w w' : World} {B n : Nat} {A : Option Addr} {l : List Int} (h : RdI w B A n l) (hb : Below B w w') : RdI w' B A n l := h.keep fun _ hp => hb.cell hp
theorem RdI.up {w w' : World} {n : Nat} {A : Option Addr} {l : List Int} (h : RdI w w.heap.size A n l) (hb : Below w.heap.size w w') : RdI w' w'.heap.size A n l := (h.below hb).more hb.size
theorem RdI.one (w : World) (x : Int) (h : -9223372036854775808 ≤ x ∧ x ≤ 9223372036854775807) (t : TypeId) : RdI (w.alloc (.cells #[.int .i64 x] t)) (w.heap.size + 1) (some ⟨w.heap.size, 0, none⟩) 1 [x] :=
  ⟨rfl, fun y hy => by simp at hy; subst hy; exact h, fun _ => ⟨_, _, rfl, by omega, fun j hj => by
    have : j = 0 := by simpa using hj
    subst this
    rw [cell_of_row _ _ _ #[.int .i64 x] t (0, 0) (heap_alloc_new w _)]
    rfl⟩⟩
end Go.Proofs.Ytjapmolmgfaocaa

/- What ref00.Own does to memory, plainly: lists that lie apart, written over, then appended to. No program is named here: 'e' is the bytes' type, 'e2' the slices'. -/
namespace Go.Proofs.Ytjapmolmgfaocaa
open Go.RowKit

/-- Two rows of different element types share no block. -/
theorem own_types_ne {w : World} {b1 b2 e1 e2 s1 s2 n1 n2 : Nat} {v1 v2 : Value} {x1 x2 : List Value} (h1 : w.ownsRow b1 e1 s1 v1 n1 x1) (h2 : w.ownsRow b2 e2 s2 v2 n2 x2) (hne : e1 ≠ e2) : v1.ownBlock = none ∨ v1.ownBlock ≠ v2.ownBlock := by
  rcases h1.2 with ⟨rfl, _⟩ | ⟨g1, c1, cur1, rfl, _, hh1, _⟩
  · exact .inl rfl
  · rcases h2.2 with ⟨rfl, _⟩ | ⟨g2, c2, cur2, rfl, _, hh2, _⟩
    · exact .inr (by simp [Value.ownBlock])
    · refine .inr fun he => ?_
      have : g1 = g2 := by simpa [Value.ownBlock] using he
      subst this
      rw [hh1] at hh2
      injection hh2 with hh2
      injection hh2 with _ h
      exact hne h

/-- Two slices of the call's own lie in different blocks (or one of them is nil). -/
def Apart (v u : Value) : Prop := ∀ g, v.ownBlock = some g → u.ownBlock ≠ some g
theorem Apart.symm {v u : Value} (h : Apart v u) : Apart u v := fun g hu hv => h g hv hu
theorem Apart.or {v u : Value} (h : Apart v u) : v.ownBlock = none ∨ v.ownBlock ≠ u.ownBlock := by
  cases hv : v.ownBlock with
  | none => exact .inl rfl
  | some g => exact .inr fun e => h g hv e.symm
theorem Apart.of_types {w : World} {b1 b2 e1 e2 s1 s2 n1 n2 : Nat} {v1 v2 : Value} {x1 x2 : List Value} (h1 : w.ownsRow b1 e1 s1 v1 n1 x1) (h2 : w.ownsRow b2 e2 s2 v2 n2 x2) (hne : e1 ≠ e2) : Apart v1 v2 := by
  intro g hg hu
  rcases own_types_ne h1 h2 hne with h | h
  · rw [h] at hg; cases hg
  · exact h (hg.trans hu.symm)
theorem Apart.nil (u : Value) : Apart (.slice none 0 0) u := fun g h => by simp [Value.ownBlock] at h
/-- What an append gives back lies apart from whatever was apart before. -/
theorem Apart.app {w w' : World} {base e size n m : Nat} {v v' u : Value} {xs news : List Value} (ha : App w w' base e size v v' n m xs news) (h : Apart v u) (hu : ∀ g, u.ownBlock = some g → g < w.heap.size) : Apart v' u := by
  intro g hg hug
  rcases ha.block with h' | h'
  · rw [h'] at hg; exact h g hg hug
  · rw [h'] at hg
    have := hu g hug
    injection hg with hg
    omega

section
variable {w w' : World} {base e e2 K : Nat} {lv : Value} {vals : List Value}

/-- The lists as they lie: the row of slices, each slice with its bytes. -/
structure Lies (w : World) (base e e2 : Nat) (lv : Value) (vals : List Value) (L : Nat → List UInt8) : Prop where
  row : w.ownsRow base e2 1 lv vals.length vals
  each : ∀ (i : Nat) (v : Value), vals[i]? = some v → w.ownsRow base e 1 v (L i).length (u8s (L i))

def AllApart (vals : List Value) : Prop := ∀ (i j : Nat) (v u : Value), i ≠ j → vals[i]? = some v → vals[j]? = some u → Apart v u

def upd (L : Nat → List UInt8) (i : Nat) (x : List UInt8) : Nat → List UInt8 := fun j => if j = i then x else L j
theorem upd_same (L : Nat → List UInt8) (i : Nat) (x : List UInt8) : upd L i x i = x := by simp [upd]
theorem upd_other (L : Nat → List UInt8) (i j : Nat) (x : List UInt8) (h : j ≠ i) : upd L i x j = L j := by simp [upd, h]

/-- One byte of one list is written. -/
theorem Lies.store {L : Nat → List UInt8} (h : Lies w base e e2 lv vals L) (hne : e ≠ e2) (hap : AllApart vals) {i g n cap k : Nat} (hi : vals[i]? = some (.slice (some ⟨g, 0, none⟩) n cap)) (x : UInt8) :
    Lies (w.setCell ⟨g, k, none⟩ (.int .u8 (x.toNat : Int))) base e e2 lv vals (upd L i ((L i).set k x)) := by
  have hv := h.each i _ hi
  have hn : (L i).length = n := by
    have := hv.1
    rcases hv.2 with ⟨h', _⟩ | ⟨g', cap', cur, hv', _⟩
    · cases h'
    · injection hv' with _ h2 _; exact h2.symm
  rw [hn] at hv
  obtain ⟨h1, h2⟩ := hv.stored k (.int .u8 (x.toNat : Int))
  refine ⟨h.row.kept h2 ?_, fun j v hj => ?_⟩
  · exact own_types_ne h.row hv (Ne.symm hne)
  · by_cases hji : j = i
    · subst hji
      rw [hi] at hj
      obtain rfl := Option.some.inj hj
      rw [upd_same, List.length_set, hn, ← u8s_set]
      exact h1
    · rw [upd_other _ _ _ _ hji]
      exact (h.each j v hj).kept h2 (hap j i v _ hji hj hi).or

theorem Lies.below {L : Nat → List UInt8} (h : Lies w base e e2 lv vals L) (hb : Below w.heap.size w w') : Lies w' base e e2 lv vals L :=
  ⟨own_below h.row hb fun k hk => (h.row.lt k hk).2, fun i v hi => own_below (h.each i v hi) hb fun k hk => ((h.each i v hi).lt k hk).2⟩

theorem Lies.congr {L L' : Nat → List UInt8} (h : Lies w base e e2 lv vals L) (he : ∀ i, i < vals.length → L i = L' i) : Lies w base e e2 lv vals L' :=
  ⟨h.row, fun i v hi => by rw [← he i (List.getElem?_eq_some_iff.1 hi).1]; exact h.each i v hi⟩

/-- The bytes that are written. -/
def fb (j k : Nat) : UInt8 := UInt8.ofNat (j * 31 + k % 7)
def gb (j k : Nat) : UInt8 := UInt8.ofNat (200 + j * 5 + k)
theorem fb_val (j k : Nat) : ((fb j k).toNat : Int) = ((j : Int) * 31 + (k : Int) % 7) % 256 := by
  unfold fb; rw [UInt8.toNat_ofNat']; omega
theorem gb_val (j k : Nat) : ((gb j k).toNat : Int) = (200 + (j : Int) * 5 + (k : Int)) % 256 := by
  unfold gb; rw [UInt8.toNat_ofNat']; omega
def F (j n : Nat) : List UInt8 := (List.range n).map (fb j)
def G (j n : Nat) : List UInt8 := (List.range n).map (gb j)
theorem F_len (j n : Nat) : (F j n).length = n := by simp [F]
theorem G_len (j n : Nat) : (G j n).length = n := by simp [G]
theorem F_at (j n k : Nat) (h : k < n) : (F j n)[k]? = some (fb j k) := by simp [F, h]
theorem G_at (j n k : Nat) (h : k < n) : (G j n)[k]? = some (gb j k) := by simp [G, h]
theorem G_succ (j n : Nat) : G j (n + 1) = G j n ++ [gb j n] := by simp [G, List.range_succ]

/-- The first k bytes of list i are written. -/
def Done (i k : Nat) (l : List UInt8) : Prop := ∀ j, j < k → j < l.length → l[j]? = some (fb i j)
theorem Done.zero (i : Nat) (l : List UInt8) : Done i 0 l := fun _ h => absurd h (by omega)
theorem Done.step {i k : Nat} {l : List UInt8} (h : Done i k l) : Done i (k + 1) (l.set k (fb i k)) := by
  intro j hj hl
  rw [List.length_set] at hl
  by_cases hjk : j = k
  · subst hjk; rw [List.getElem?_set_self hl]
  · rw [List.getElem?_set_ne (Ne.symm hjk)]; exact h j (by omega) hl
theorem Done.all {i : Nat} {l : List UInt8} (h : Done i l.length l) : l = F i l.length := by
  apply List.ext_getElem?
  intro j
  by_cases hj : j < l.length
  · rw [h j hj hj, F_at i _ j hj]
  · rw [List.getElem?_eq_none (by omega), List.getElem?_eq_none (by rw [F_len]; omega)]

/-- The second loop's state: the lists are written over; 'xs' are the first ones with four bytes more each; the slice 'lg' holds them. -/
structure Long (w : World) (base e e2 : Nat) (lv : Value) (vals : List Value) (ns : Nat → Nat) (lg : Value) (xs : List Value) : Prop where
  lies : Lies w base e e2 lv vals fun i => F i (ns i)
  long : w.ownsRow base e2 1 lg xs.length xs
  more : ∀ (j : Nat) (x : Value), xs[j]? = some x → w.ownsRow base e 1 x (ns j + 4) (u8s (F j (ns j) ++ G j 4))
  lgap : Apart lg lv
  xv : ∀ (j k : Nat) (x v : Value), j ≠ k → xs[j]? = some x → vals[k]? = some v → Apart x v
  xx : AllApart xs

/-- Within one round of it: x has k of the four bytes. -/
structure Grows (w : World) (base e e2 : Nat) (lv : Value) (vals : List Value) (ns : Nat → Nat) (lg : Value) (xs : List Value) (k : Nat) (x : Value) : Prop where
  st : Long w base e e2 lv vals ns lg xs
  own : w.ownsRow base e 1 x (ns xs.length + k) (u8s (F xs.length (ns xs.length) ++ G xs.length k))
  apv : ∀ (j : Nat) (v : Value), j ≠ xs.length → vals[j]? = some v → Apart x v
  apx : ∀ (j : Nat) (u : Value), xs[j]? = some u → Apart x u

variable {ns : Nat → Nat} {lg x : Value} {xs : List Value} {k : Nat}

theorem Grows.start (h : Long w base e e2 lv vals ns lg xs) (hap : AllApart vals) {v : Value} (hv : vals[xs.length]? = some v) : Grows w base e e2 lv vals ns lg xs 0 v :=
  ⟨h, by have := h.lies.each _ _ hv; simpa [F_len, G] using this,
    fun j u hj hu => hap _ _ _ _ (Ne.symm hj) hv hu,
    fun j u hu => (h.xv j xs.length u v (by have := (List.getElem?_eq_some_iff.1 hu).1; omega) hu hv).symm⟩

/-- A new block beside all of it. -/
theorem Long.below (h : Long w base e e2 lv vals ns lg xs) (hb : Below w.heap.size w w') : Long w' base e e2 lv vals ns lg xs :=
  ⟨h.lies.below hb, own_below h.long hb fun k hk => (h.long.lt k hk).2, fun j x hx => own_below (h.more j x hx) hb fun k hk => ((h.more j x hx).lt k hk).2, h.lgap, h.xv, h.xx⟩
theorem Grows.below (h : Grows w base e e2 lv vals ns lg xs k x) (hb : Below w.heap.size w w') : Grows w' base e e2 lv vals ns lg xs k x :=
  ⟨h.st.below hb, own_below h.own hb fun k hk => (h.own.lt k hk).2, h.apv, h.apx⟩

/-- One byte more. -/
theorem Grows.step (h : Grows w base e e2 lv vals ns lg xs k x) (hne : e ≠ e2) {x' : Value}
    (ha : App w w' base e 1 x x' (ns xs.length + k) 1 (u8s (F xs.length (ns xs.length) ++ G xs.length k)) [.int .u8 ((gb xs.length k).toNat : Int)]) : Grows w' base e e2 lv vals ns lg xs (k + 1) x' := by
  have hlt : ∀ {b et s n : Nat} {v : Value} {ys : List Value}, w.ownsRow b et s v n ys → ∀ g, v.ownBlock = some g → g < w.heap.size := fun h g hg => (h.lt g hg).2
  refine ⟨⟨⟨ha.other h.st.lies.row (own_types_ne h.st.lies.row h.own (Ne.symm hne)), fun i v hi => ?_⟩, ha.other h.st.long (own_types_ne h.st.long h.own (Ne.symm hne)), fun j u hu => ha.other (h.st.more j u hu) (h.apx j u hu).symm.or, h.st.lgap, h.st.xv, h.st.xx⟩, ?_, fun j v hj hv => (h.apv j v hj hv).app ha (hlt (h.st.lies.each j v hv)), fun j u hu => (h.apx j u hu).app ha (hlt (h.st.more j u hu))⟩
  · by_cases hi' : i = xs.length
    · subst hi'
      refine ha.shorter (h.st.lies.each _ _ hi) (by rw [F_len]; omega) ?_ h.own
      rw [Nat.mul_one, F_len, u8s_append]
      have hl : (u8s (F xs.length (ns xs.length))).length = ns xs.length := by rw [u8s_len, F_len]
      have ht := List.take_left (l₁ := u8s (F xs.length (ns xs.length))) (l₂ := u8s (G xs.length k))
      rw [hl] at ht
      exact ht
    · exact ha.other (h.st.lies.each i v hi) (h.apv i v hi' hi).symm.or
  · have ho := ha.own
    rw [G_succ, ← List.append_assoc, u8s_append (F _ _ ++ G _ _)]
    exact ho

/-- The round's end: the slice goes behind the others. -/
theorem Grows.finish (h : Grows w base e e2 lv vals ns lg xs 4 x) (hne : e ≠ e2) {lg' : Value} (ha : App w w' base e2 1 lg lg' xs.length 1 xs [x]) : Long w' base e e2 lv vals ns lg' (xs ++ [x]) := by
  have hlt : ∀ {b et s n : Nat} {v : Value} {ys : List Value}, w.ownsRow b et s v n ys → ∀ g, v.ownBlock = some g → g < w.heap.size := fun h g hg => (h.lt g hg).2
  have hx : ∀ (j : Nat) (u : Value), (xs ++ [x])[j]? = some u → xs[j]? = some u ∨ (j = xs.length ∧ u = x) := by
    intro j u hu
    by_cases hj : j < xs.length
    · rw [List.getElem?_append_left hj] at hu; exact .inl hu
    · rw [List.getElem?_append_right (by omega)] at hu
      have : j - xs.length = 0 := by
        by_cases h0 : j - xs.length = 0
        · exact h0
        · rw [List.getElem?_eq_none (by simp; omega)] at hu; cases hu
      rw [this] at hu
      exact .inr ⟨by omega, by simpa using hu.symm⟩
  refine ⟨⟨ha.other h.st.lies.row h.st.lgap.symm.or, fun i v hi => ha.other (h.st.lies.each i v hi) (own_types_ne (h.st.lies.each i v hi) h.st.long hne)⟩, by rw [List.length_append]; exact ha.own, fun j u hu => ?_, h.st.lgap.app ha (hlt h.st.lies.row), fun j k u v hjk hu hv => ?_, fun i j u v hij hu hv => ?_⟩
  · rcases hx j u hu with hu | ⟨rfl, rfl⟩
    · exact ha.other (h.st.more j u hu) (own_types_ne (h.st.more j u hu) h.st.long hne)
    · exact ha.other h.own (own_types_ne h.own h.st.long hne)
  · rcases hx j u hu with hu | ⟨rfl, rfl⟩
    · exact h.st.xv j k u v hjk hu hv
    · exact h.apv k v (Ne.symm hjk) hv
  · rcases hx i u hu with hu' | ⟨rfl, rfl⟩
    · rcases hx j v hv with hv' | ⟨rfl, rfl⟩
      · exact h.st.xx i j u v hij hu' hv'
      · exact (h.apx i u hu').symm
    · rcases hx j v hv with hv' | ⟨rfl, rfl⟩
      · exact h.apx j v hv'
      · exact absurd rfl hij
end
end Go.Proofs.Ytjapmolmgfaocaa
