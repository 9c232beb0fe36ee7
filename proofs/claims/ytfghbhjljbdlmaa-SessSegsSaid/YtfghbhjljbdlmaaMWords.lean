/- Of the proofs of layer 4, merged: Words, Append, Bk, OwnP, Crc. -/
import Derived.WalkKit
import Derived.Deep.Draws
import Derived.Lib.Hide
import Derived.IntWalk

/- My words for slices of bytes in memory: what reads as a list of bytes, what the call owns, and how both stay while memory grows. No program is named here. -/
namespace Go.Proofs.Ytfghbhjljbdlmaa
open Go.RowKit

/-- The cells of a list of bytes. -/
def u8s (l : List UInt8) : List Value := l.map fun x => .int .u8 (x.toNat : Int)

theorem u8s_len (l : List UInt8) : (u8s l).length = l.length := by simp [u8s]
theorem u8s_append (a b : List UInt8) : u8s (a ++ b) = u8s a ++ u8s b := by simp [u8s]
theorem u8s_nil : u8s [] = [] := rfl
theorem u8s_cons (x : UInt8) (l : List UInt8) : u8s (x :: l) = .int .u8 (x.toNat : Int) :: u8s l := rfl
theorem u8s_get (l : List UInt8) (j : Nat) : (u8s l)[j]? = l[j]?.map fun x => Value.int .u8 (x.toNat : Int) := by simp [u8s]
theorem u8s_at (l : List UInt8) (j : Nat) (h : j < l.length) : (u8s l)[j]? = some (.int .u8 (l[j].toNat : Int)) := by simp [u8s, h]
theorem u8s_one (l : List UInt8) : ∀ u ∈ u8s l, u.oneCell' = true := by
  intro u hu; obtain ⟨_, _, rfl⟩ := List.mem_map.1 hu; rfl
theorem u8s_take (l : List UInt8) (k : Nat) : (u8s l).take k = u8s (l.take k) := by simp [u8s, List.map_take]
theorem u8s_drop (l : List UInt8) (k : Nat) : (u8s l).drop k = u8s (l.drop k) := by simp [u8s, List.map_drop]
theorem u8s_set (l : List UInt8) (k : Nat) (x : UInt8) : (u8s l).set k (.int .u8 (x.toNat : Int)) = u8s (l.set k x) := by simp [u8s, List.map_set]
theorem u8_lt (x : UInt8) : x.toNat < 256 := x.toNat_lt

/-- A slice of length n at A reads as the bytes l, in blocks below B; of a slice of no byte nothing is said of A. -/
def Rd (w : World) (B : Nat) (A : Option Addr) (n : Nat) (l : List UInt8) : Prop :=
  l.length = n ∧ (0 < n → ∃ b o, A = some ⟨b, o, none⟩ ∧ b < B ∧ ∀ j (h : j < l.length), w.cell? ⟨b, o + j, none⟩ = some (.int .u8 (l[j].toNat : Int)))

section
variable {w w' : World} {B B' n : Nat} {A : Option Addr} {l : List UInt8}
theorem Rd.nil (w : World) (B : Nat) (A : Option Addr) : Rd w B A 0 [] := ⟨rfl, fun h => absurd h (by omega)⟩
theorem Rd.keep (h : Rd w B A n l) (hk : ∀ p : Addr, p.block < B → w'.cell? p = w.cell? p) : Rd w' B A n l :=
  ⟨h.1, fun hn => by obtain ⟨b, o, e, hb, hc⟩ := h.2 hn; exact ⟨b, o, e, hb, fun j hj => (hk _ hb).trans (hc j hj)⟩⟩
theorem Rd.more (h : Rd w B A n l) (hB : B ≤ B') : Rd w B' A n l :=
  ⟨h.1, fun hn => by obtain ⟨b, o, e, hb, hc⟩ := h.2 hn; exact ⟨b, o, e, by omega, hc⟩⟩
theorem Rd.below (h : Rd w B A n l) (hb : Below B w w') : Rd w' B A n l := h.keep fun _ hp => hb.cell hp
theorem Rd.drew (h : Rd w B A n l) : Rd w.drew B A n l := h
theorem Rd.drewN (h : Rd w B A n l) (k : Nat) : Rd (w.drewN k) B A n l := h
theorem Rd.alloc (h : Rd w B A n l) (hB : B ≤ w.heap.size) (o : Obj) : Rd (w.alloc o) B A n l := h.below ((Below.refl _ _).alloc hB o)
theorem Rd.setCell (h : Rd w B A n l) {p : Addr} (hp : B ≤ p.block) (u : Value) : Rd (w.setCell p u) B A n l := h.below ((Below.refl _ _).setCell hp u)
theorem Rd.grown (h : Rd w B A n l) {row : Option Nat} (hg : w.grownBy w' row) (hB : B ≤ w.heap.size) (hr : ∀ k, row = some k → B ≤ k) : Rd w' B A n l :=
  h.below ((Below.refl _ _).grown hg hB hr)

/-- As the model's laws on append and conversion want it: the cells at the address. -/
theorem Rd.cells (h : Rd w B A n l) : ∀ ad, A = some ad → ∀ j u, (u8s l)[j]? = some u → w.cell? (ad.add j) = some u := by
  intro ad e j u hu
  rw [u8s_get] at hu
  obtain ⟨x, hx, rfl⟩ := Option.map_eq_some_iff.1 hu
  have hj : j < l.length := (List.getElem?_eq_some_iff.1 hx).1
  obtain ⟨b, o, e', _, hc⟩ := h.2 (by have := h.1; omega)
  rw [e'] at e
  obtain rfl := Option.some.inj e
  rw [Addr.add_lit, hc j hj]
  rw [(List.getElem?_eq_some_iff.1 hx).2]

theorem strOf_toList (l : List UInt8) : (⟨l.toArray⟩ : ByteArray).data.toList = l := rfl

theorem strOfNums_u8 (l : List UInt8) : strOfNums (l.map fun x => (x.toNat : Int)) = ⟨l.toArray⟩ := by
  unfold strOfNums
  congr 1
  rw [List.map_map]
  congr 1
  have : ((fun n : Int => UInt8.ofNat n.toNat) ∘ fun x : UInt8 => (x.toNat : Int)) = id := by
    funext x; simp
  rw [this, List.map_id]

/-- string(b). -/
theorem Rd.str {P : Program} {src e dst : TypeId} (h : Rd w B A n l) (hs : P.underlying src = some (.slice e)) (he : P.underlying e = some (.int .u8)) (hd : P.underlying dst = some .string) (c : Nat) :
    (convert src dst (.slice A n c)).run P w = .ok (.string ⟨l.toArray⟩) w := by
  rcases Nat.eq_zero_or_pos n with hn | hn
  · subst hn
    have hl : l = [] := List.eq_nil_of_length_eq_zero h.1
    subst hl
    cases A with
    | none => rw [run_convert_bytes_nil w src e hs he 0 c dst hd]; rfl
    | some a =>
      rw [run_convert_bytes_string w src dst e _ 0 c hs he hd, run_bytesToString w a 0 c [] (by simp [loadCells, loadCellsFrom])]
      rfl
  · obtain ⟨b, o, rfl, _, hc⟩ := h.2 hn
    rw [run_convert_bytes_arg w src e hs he b o n c (l.map fun x => (x.toNat : Int)) (by simp [h.1]) (fun i hi => by
      have hi' : i < l.length := by have := h.1; omega
      rw [hc i hi']
      simp [List.getD, hi']) dst hd, strOfNums_u8]
end

/-- What the call owns reads. -/
theorem Rd.of_own {w : World} {base e n c : Nat} {A : Option Addr} {l : List UInt8} (h : w.ownsRow base e 1 (.slice A n c) n (u8s l)) : Rd w w.heap.size A n l := by
  refine ⟨by simpa [u8s_len] using h.1, fun hn => ?_⟩
  rcases h.2 with ⟨_, h0⟩ | ⟨g, cap, cur, hv, _, hh, _⟩
  · omega
  · have hA : A = some ⟨g, 0, none⟩ := by injection hv
    subst hA
    refine ⟨g, 0, rfl, (Array.getElem?_eq_some_iff.1 hh).1, fun j hj => ?_⟩
    have := h.cells (g := g) rfl j _ (u8s_at l j hj)
    rwa [Addr.add_lit] at this

/-- What reads below the heap's end reads on, whatever is made behind it. -/
theorem Rd.up {w w' : World} {n : Nat} {A : Option Addr} {l : List UInt8} (h : Rd w w.heap.size A n l) (hb : Below w.heap.size w w') : Rd w' w'.heap.size A n l := (h.below hb).more hb.size
/-- Two steps, each of which keeps all that was there. -/
theorem below_then {w w1 w2 : World} (h : Below w.heap.size w w1) (h2 : Below w1.heap.size w1 w2) : Below w.heap.size w w2 := h.trans (h2.mono h.size)

theorem own_mono {w : World} {base base' e size n : Nat} {v : Value} {xs : List Value} (h : w.ownsRow base e size v n xs) (hb : base' ≤ base) : w.ownsRow base' e size v n xs := by
  refine ⟨h.1, ?_⟩
  rcases h.2 with h' | ⟨g, cap, cur, hv, hg, r⟩
  · exact .inl h'
  · exact .inr ⟨g, cap, cur, hv, by omega, r⟩

theorem own_below {w w' : World} {base e size n B : Nat} {v : Value} {xs : List Value} (h : w.ownsRow base e size v n xs) (hb : Below B w w') (hB : ∀ k, v.ownBlock = some k → k < B) : w'.ownsRow base e size v n xs := by
  refine ⟨h.1, ?_⟩
  rcases h.2 with h' | ⟨g, cap, cur, rfl, hg, hh, r⟩
  · exact .inl h'
  · exact .inr ⟨g, cap, cur, rfl, hg, by rw [hb.block g (hB g rfl)]; exact hh, r⟩

/-- The shape of what is owned. -/
theorem own_shape {w : World} {base e size n : Nat} {v : Value} {xs : List Value} (h : w.ownsRow base e size v n xs) : ∃ A c, v = .slice A n c ∧ n ≤ c ∧ c ≤ maxLen := by
  rcases h.2 with ⟨rfl, rfl⟩ | ⟨g, cap, cur, rfl, _, _, h1, h2, _⟩
  · exact ⟨none, 0, rfl, Nat.le_refl _, by simp [maxLen]⟩
  · exact ⟨_, _, rfl, h1, h2⟩

end Go.Proofs.Ytfghbhjljbdlmaa

/- append onto a slice that the call owns, from whatever source: where the new slice lies, and that a shorter slice over the same row keeps what it holds. No program is named here. -/
namespace Go.Proofs.Ytfghbhjljbdlmaa
open Go.RowKit

/-- What an append of m elements (cells 'news') onto v (n elements, cells 'xs') leaves. -/
structure App (w w' : World) (base : Nat) (e : TypeId) (size : Nat) (v v' : Value) (n m : Nat) (xs news : List Value) : Prop where
  own : w'.ownsRow base e size v' (n + m) (xs ++ news)
  grow : w.grownBy w' v.ownBlock
  place : (∃ g cap, v = .slice (some ⟨g, 0, none⟩) n cap ∧ v' = .slice (some ⟨g, 0, none⟩) (n + m) cap) ∨ (w.grownBy w' none ∧ v'.ownBlock = some w.heap.size) ∨ (v' = v ∧ w' = w)

/-- A new block whose first cells are ys is a row of the call's own. -/
theorem own_new (w : World) {base e size k cap : Nat} {cur : Array Value} {ys : List Value} (hb : base ≤ w.heap.size) (hk : k ≤ cap) (hm : cap ≤ maxLen) (hs : cur.size = cap * size) (hy : ys.length = k * size) (ht : cur.toList.take ys.length = ys) :
    (w.drew.alloc (.cells cur e)).ownsRow base e size (.slice (some ⟨w.heap.size, 0, none⟩) k cap) k ys ∧ ∀ row, w.grownBy (w.drew.alloc (.cells cur e)) row :=
  ⟨⟨hy, .inr ⟨w.heap.size, cap, cur, rfl, hb, heap_alloc_new w.drew _, hk, hm, hs, by rw [← hy]; exact ht⟩⟩,
    fun row => ⟨rfl, rfl, rfl, by simp, fun j hj _ => Below.heap_alloc w.drew _ j hj⟩⟩

section
variable {P : Program} (w : World)

theorem run_append_app (base : Nat) (t ty e : TypeId) (i : TypeInfo) (z : Value) (size bytes : Nat) (ht : P.underlying t = some (.slice e)) (hi : P.info? e = some i) (hz : i.zero = some z)
    (hsize : i.size = size) (hby : i.bytes = bytes) (hzs : z.cells.size = size)
    (v : Value) (n : Nat) (xs : List Value) (hown : w.ownsRow base e size v n xs)
    (A : Option Addr) (m c : Nat) (news : List Value) (hl : news.length = m * size) (hA : A = none → m = 0) (hnews : ∀ a, A = some a → ∀ j u, news[j]? = some u → w.cell? (a.add j) = some u) (h1 : ∀ u ∈ news, u.oneCell' = true)
    (h63 : n + m ≤ maxLen) (hbytes : (n + m) * bytes ≤ 140737488355328) (hbase : base ≤ w.heap.size) :
    ∃ v' w', (Builtin.append_ #[t, t] ty #[v, .slice A m c]).run P w = .ok v' w' ∧ App w w' base e size v v' n m xs news := by
  subst hsize hby
  have hlen : (xs ++ news).length = (n + m) * i.size := by rw [List.length_append, hown.1, hl, Nat.add_mul]
  have hbig : n + m ≤ 9223372036854775807 := by have h := h63; simp only [maxLen] at h; omega
  -- what a growing append leaves behind, from the capacity 'old'
  have new : ∀ old, App w (w.drew.alloc (.cells (xs.toArray ++ news.toArray ++ Builtin.zeroCells z.cells (grownCap w (n + m) old e - (n + m))) e)) base e i.size v
      (.slice (some ⟨w.heap.size, 0, none⟩) (n + m) (grownCap w (n + m) old e)) n m xs news := by
    intro old
    have hcap := grownCap_ge w (n + m) old e
    obtain ⟨h1, h2⟩ := own_new w (base := base) (e := e) (size := i.size) (k := n + m) (cap := grownCap w (n + m) old e) (cur := xs.toArray ++ news.toArray ++ Builtin.zeroCells z.cells (grownCap w (n + m) old e - (n + m))) (ys := xs ++ news)
      hbase hcap (grownCap_le_maxLen w (n + m) old e h63)
      (by rw [Array.size_append, size_zeroCells, Array.size_append, List.size_toArray, List.size_toArray, ← List.length_append, hlen, hzs, ← Nat.add_mul, Nat.add_sub_cancel' hcap]) hlen
      (by simp only [Array.toList_append, List.take_left])
    exact ⟨h1, h2 _, .inr (.inl ⟨h2 none, rfl⟩)⟩
  by_cases hm : m = 0
  · subst hm
    obtain rfl : news = [] := List.eq_nil_of_length_eq_zero (by simpa using hl)
    refine ⟨v, w, ?_, ⟨by simpa using hown, World.grownBy.refl w _, .inr (.inr ⟨rfl, rfl⟩)⟩⟩
    rcases hown.2 with ⟨rfl, rfl⟩ | ⟨g, cap, cur, rfl, _, hg, hnc, _⟩ <;> cases A <;>
      simp [Builtin.append_, run_underlying ht, sizeOf, typeInfo, Builtin.lenOf, Builtin.firstCells, loadCells, loadCellsFrom, storeCells, *]
  · obtain ⟨a, rfl⟩ : ∃ a, A = some a := by cases A with | none => exact absurd (hA rfl) hm | some a => exact ⟨a, rfl⟩
    have hnews := hnews a rfl
    rcases hown.2 with ⟨rfl, rfl⟩ | ⟨g, cap, cur, rfl, hbg, hg, hnc, hcm, hcs, htake⟩
    · obtain rfl : xs = [] := List.eq_nil_of_length_eq_zero (by simpa using hown.1)
      have hr := run_append_nil (P := P) w t ty e i z ht hi hz a m c news hl hnews (by omega) (by omega) (by simp only [Nat.zero_add] at hbytes; omega)
      have hn := new 0
      simp only [Nat.zero_add, Array.empty_append] at hn
      exact ⟨_, _, hr, hn⟩
    · by_cases hroom : n + m ≤ cap
      · have hfit : n * i.size + news.length ≤ cur.size := by rw [hl, hcs, ← Nat.add_mul]; exact Nat.mul_le_mul_right _ hroom
        have hsz : (cur.toList.take (n * i.size) ++ news ++ cur.toList.drop (n * i.size + news.length)).length = cap * i.size := by
          rw [List.length_append, List.length_append, List.length_take, List.length_drop, Array.length_toList]
          omega
        refine ⟨_, _, run_append_room (P := P) w t ty e i ht hi g n cap cur hg a m c news hl hnews h1 hroom hfit,
          ⟨⟨hlen, .inr ⟨g, cap, _, rfl, hbg, setRow_heap w g cur _ e _ hg, hroom, hcm, by simpa using hsz, ?_⟩⟩, ⟨rfl, rfl, rfl, by simp, fun k _ hk => setRow_other w g k _ (fun h => hk (by rw [h]; rfl))⟩, .inl ⟨g, cap, rfl, rfl⟩⟩⟩
        show (cur.toList.take (n * i.size) ++ news ++ cur.toList.drop (n * i.size + news.length)).take ((n + m) * i.size) = xs ++ news
        rw [htake, ← hlen, List.take_left]
      · exact ⟨_, _, run_append_grow (P := P) w t ty e i z ht hi hz ⟨g, 0, none⟩ n cap xs hown.1 (hown.cells (g := g) rfl) a m c news hl hnews (by omega) (by omega) (growslice_fits (by omega) hbytes), new cap⟩

theorem wpList_append_app {ops : Array Oper} {rest : List Oper} {o : Oper} {a : Act} {Q : Exit → Act → World → Prop} (hgd : o.guard = none) (s x : Operand) (t : TypeId)
    (ho : o.op = .call { callee := .builtin .append, args := #[s, x], argTypes := #[t, t] })
    (base : Nat) (e : TypeId) (i : TypeInfo) (z : Value) (size bytes : Nat) (ht : P.underlying t = some (.slice e)) (hi : P.info? e = some i) (hz : i.zero = some z)
    (hsize : i.size = size) (hby : i.bytes = bytes) (hzs : z.cells.size = size)
    (v : Value) (n : Nat) (xs : List Value) (hs : a.eval s = v) (hown : w.ownsRow base e size v n xs)
    (A : Option Addr) (m c : Nat) (news : List Value) (hx : a.eval x = .slice A m c) (hl : news.length = m * size) (hA : A = none → m = 0) (hnews : ∀ a, A = some a → ∀ j u, news[j]? = some u → w.cell? (a.add j) = some u) (h1 : ∀ u ∈ news, u.oneCell' = true)
    (h63 : n + m ≤ maxLen) (hbytes : (n + m) * bytes ≤ 140737488355328) (hbase : base ≤ w.heap.size)
    (h : ∀ v' w', App w w' base e size v v' n m xs news → wpList P ops Q rest (a.put o.dst v') w') : wpList P ops Q (o :: rest) a w := by
  refine wpList_plain hgd fun _ hK => ?_
  obtain ⟨v', w', hrun, h2⟩ := run_append_app (P := P) w base t o.type e i z size bytes ht hi hz hsize hby hzs v n xs hown A m c news hl hA hnews h1 h63 hbytes hbase
  unfold Oper.wp execOp
  simp only [ho, resolve, invoke, builtin, Sem.run_bind, Sem.run_pure, Result.andThen_ok, List.map_toArray, List.map_cons, List.map_nil, hs, hx, hrun]
  exact hK _ _ (h v' w' h2)
end

section
variable {w w' : World} {base : Nat} {e : TypeId} {size : Nat} {v v' : Value} {n m : Nat} {xs news : List Value}

theorem App.size_le (h : App w w' base e size v v' n m xs news) : w.heap.size ≤ w'.heap.size := h.grow.size

/-- Below B nothing has turned, where the slice that was appended to is the call's own from B on. -/
theorem App.below (h : App w w' base e size v v' n m xs news) {B : Nat} {w0 : World} (hb : Below B w0 w) (hB : B ≤ w.heap.size) (hv : ∀ k, v.ownBlock = some k → B ≤ k) : Below B w0 w' :=
  hb.grown h.grow hB hv

theorem own_block_ge (h : w.ownsRow base e size v n xs) : ∀ k, v.ownBlock = some k → base ≤ k := fun k hk => (h.lt k hk).1

/-- Whatever is owned in another row stays. -/
theorem App.other (h : App w w' base e size v v' n m xs news) {base2 e2 size2 n2 : Nat} {u : Value} {ys : List Value} (hu : w.ownsRow base2 e2 size2 u n2 ys) (hne : u.ownBlock = none ∨ u.ownBlock ≠ v.ownBlock) : w'.ownsRow base2 e2 size2 u n2 ys :=
  hu.kept h.grow hne

/-- A slice over the first cells of the same row keeps what it holds. -/
theorem App.shorter (h : App w w' base e size v v' n m xs news) {base2 n2 : Nat} {u : Value} {ys : List Value} (hu : w.ownsRow base2 e size u n2 ys) (hn : n2 ≤ n) (hys : xs.take (n2 * size) = ys) (hv : w.ownsRow base e size v n xs) : w'.ownsRow base2 e size u n2 ys := by
  rcases h.place with ⟨g, cap, rfl, rfl⟩ | ⟨hg, _⟩ | ⟨_, rfl⟩
  · by_cases hne : u.ownBlock = some g
    · rcases hu.2 with ⟨rfl, _⟩ | ⟨g', cap', cur, rfl, hb, hh, hnc, hcm, hcs, ht⟩
      · simp [Value.ownBlock] at hne
      · have hgg : g' = g := by simpa [Value.ownBlock] using hne
        subst hgg
        rcases hv.2 with ⟨h', _⟩ | ⟨g2, cap2, cur2, h2, _, hh2, _, _, hcs2, _⟩
        · simp at h'
        · simp only [Value.slice.injEq, Option.some.injEq, Addr.mk.injEq, and_true, true_and] at h2
          obtain ⟨rfl, rfl⟩ := h2
          rw [hh] at hh2
          simp only [Option.some.injEq, Obj.cells.injEq, and_true] at hh2
          subst hh2
          rcases h.own.2 with ⟨h', _⟩ | ⟨g3, cap3, cur3, h3, _, hh3, _, _, hcs3, ht3⟩
          · simp at h'
          · simp only [Value.slice.injEq, Option.some.injEq, Addr.mk.injEq, and_true, true_and] at h3
            obtain ⟨rfl, rfl⟩ := h3
            refine ⟨hu.1, .inr ⟨g', cap', cur3, rfl, hb, hh3, hnc, hcm, by rw [hcs3, ← hcs2, hcs], ?_⟩⟩
            have hle : n2 * size ≤ (n + m) * size := Nat.mul_le_mul_right _ (by omega)
            have hlx : n2 * size ≤ xs.length := by rw [hv.1]; exact Nat.mul_le_mul_right _ hn
            have : cur3.toList.take (n2 * size) = ((cur3.toList.take ((n + m) * size)).take (n2 * size)) := by
              rw [List.take_take, Nat.min_eq_left hle]
            rw [this, ht3, List.take_append_of_le_length hlx, hys]
    · exact hu.kept h.grow (.inr (by simpa [Value.ownBlock] using hne))
  · exact hu.kept hg (by cases u.ownBlock <;> simp)
  · exact hu

/-- Where the new slice lies: in the old one's row, or in a block that was not there. -/
theorem App.block (h : App w w' base e size v v' n m xs news) : v'.ownBlock = v.ownBlock ∨ v'.ownBlock = some w.heap.size := by
  rcases h.place with ⟨g, cap, rfl, rfl⟩ | ⟨_, h⟩ | ⟨rfl, _⟩
  · exact .inl rfl
  · exact .inr h
  · exact .inl rfl
end

#print axioms App.shorter
end Go.Proofs.Ytfghbhjljbdlmaa

/- Blocks that are known whole. No program is named here. -/
namespace Go.Proofs.Ytfghbhjljbdlmaa
open Go.RowKit

/-- Block g is just these cells. -/
def Bk (w : World) (g : Nat) (t : TypeId) (cs : Array Value) : Prop := w.heap[g]? = some (.cells cs t (0, 0))
section
variable {w w' : World} {g : Nat} {t : TypeId} {cs : Array Value}
theorem Bk.lt (h : Bk w g t cs) : g < w.heap.size := by
  unfold Bk at h
  exact (Array.getElem?_eq_some_iff.1 h).1
theorem Bk.cell (h : Bk w g t cs) (i : Nat) : w.cell? ⟨g, i, none⟩ = cs[i]? := cell_of_row w g i cs t (0, 0) h
theorem Bk.frozen (h : Bk w g t cs) (i : Nat) : w.frozen? ⟨g, i, none⟩ = false := frozen_of_row w g i cs t h
theorem Bk.new (w : World) (t : TypeId) (cs : Array Value) : Bk (w.alloc (.cells cs t)) w.heap.size t cs := heap_alloc_new w _
theorem Bk.set_ (h : Bk w g t cs) (i : Nat) (u : Value) : Bk (w.setCell ⟨g, i, none⟩ u) g t (cs.setIfInBounds i u) := heap_setCell_same w g i cs t u h
theorem Bk.grown (h : Bk w g t cs) {row : Option Nat} (hb : w.grownBy w' row) (hg : some g ≠ row) : Bk w' g t cs := (hb.block g h.lt hg).trans h
theorem Bk.below (h : Bk w g t cs) {B : Nat} (hb : Below B w w') (hg : g < B) : Bk w' g t cs := (hb.block g hg).trans h
theorem grown_set (w : World) (g i : Nat) (u : Value) : w.grownBy (w.setCell ⟨g, i, none⟩ u) (some g) :=
  ⟨rfl, rfl, rfl, by simp [World.setCell], fun k _ hk => Below.heap_setCell w ⟨g, i, none⟩ u k (fun e => hk (by rw [e]))⟩
theorem grown_drewN (w : World) (q : Nat) (row : Option Nat) : w.grownBy (w.drewN q) row := ⟨rfl, rfl, rfl, Nat.le_refl _, fun _ _ _ => rfl⟩
theorem grown_trans {a b c : World} {row : Option Nat} (h : a.grownBy b row) (k : b.grownBy c row) : a.grownBy c row :=
  ⟨k.os.trans h.os, k.tape.trans h.tape, k.output.trans h.output, Nat.le_trans h.size k.size, fun i hi hne => (k.block i (Nat.lt_of_lt_of_le hi h.size) hne).trans (h.block i hi hne)⟩
theorem grown_of_below {a b : World} (h : Below a.heap.size a b) (row : Option Nat) : a.grownBy b row := ⟨h.os, h.tape, h.output, h.size, fun k hk _ => h.block k hk⟩
theorem below_of_grown {a b : World} {g B : Nat} (h : a.grownBy b (some g)) (hB : B ≤ a.heap.size) (hg : B ≤ g) : Below B a b := (Below.refl _ _).grown h hB (fun k hk => by injection hk with hk; omega)
end
theorem own_grown {w w' : World} {base e size n g : Nat} {v : Value} {xs : List Value} (h : w.ownsRow base e size v n xs) (hg : w.grownBy w' (some g)) (hlt : g < base) : w'.ownsRow base e size v n xs :=
  h.kept hg (by
    cases hv : v.ownBlock with
    | none => exact .inl rfl
    | some k => have := (h.lt k hv).1; exact .inr fun e => by injection e with e; omega)
theorem bel_drewN {B : Nat} {w w' : World} (h : Below B w w') (q : Nat) : Below B w (w'.drewN q) := ⟨h.os, h.tape, h.output, h.size, h.block⟩
end Go.Proofs.Ytfghbhjljbdlmaa

/- What ref00.Own does to memory, plainly: lists that lie apart, written over, then appended to. No program is named here: 'e' is the bytes' type, 'e2' the slices'. -/
namespace Go.Proofs.Ytfghbhjljbdlmaa
open Go.RowKit

/-- Two rows of different element types share no block. -/
theorem own_types_ne {w : World} {b1 b2 e1 e2 s1 s2 n1 n2 : Nat} {v1 v2 : Value} {x1 x2 : List Value} (h1 : w.ownsRow b1 e1 s1 v1 n1 x1) (h2 : w.ownsRow b2 e2 s2 v2 n2 x2) (hne : e1 ≠ e2) : v1.ownBlock = none ∨ v1.ownBlock ≠ v2.ownBlock := by
  rcases h1.2 with ⟨rfl, _⟩ | ⟨g1, c1, cur1, rfl, _, hh1, _⟩
  · exact .inl rfl
  · rcases h2.2 with ⟨rfl, _⟩ | ⟨g2, c2, cur2, rfl, _, hh2, _⟩
    · exact .inr (by simp [Value.ownBlock])
    · refine .inr fun he => ?_
      have : g1 = g2 := by simpa [Value.ownBlock] using he
      subst this
      rw [hh1] at hh2
      injection hh2 with hh2
      injection hh2 with _ h
      exact hne h

/-- Two slices of the call's own lie in different blocks (or one of them is nil). -/
def Apart (v u : Value) : Prop := ∀ g, v.ownBlock = some g → u.ownBlock ≠ some g
theorem Apart.symm {v u : Value} (h : Apart v u) : Apart u v := fun g hu hv => h g hv hu
theorem Apart.or {v u : Value} (h : Apart v u) : v.ownBlock = none ∨ v.ownBlock ≠ u.ownBlock := by
  cases hv : v.ownBlock with
  | none => exact .inl rfl
  | some g => exact .inr fun e => h g hv e.symm
theorem Apart.of_types {w : World} {b1 b2 e1 e2 s1 s2 n1 n2 : Nat} {v1 v2 : Value} {x1 x2 : List Value} (h1 : w.ownsRow b1 e1 s1 v1 n1 x1) (h2 : w.ownsRow b2 e2 s2 v2 n2 x2) (hne : e1 ≠ e2) : Apart v1 v2 := by
  intro g hg hu
  rcases own_types_ne h1 h2 hne with h | h
  · rw [h] at hg; cases hg
  · exact h (hg.trans hu.symm)
theorem Apart.nil (u : Value) : Apart (.slice none 0 0) u := fun g h => by simp [Value.ownBlock] at h
/-- What an append gives back lies apart from whatever was apart before. -/
theorem Apart.app {w w' : World} {base e size n m : Nat} {v v' u : Value} {xs news : List Value} (ha : App w w' base e size v v' n m xs news) (h : Apart v u) (hu : ∀ g, u.ownBlock = some g → g < w.heap.size) : Apart v' u := by
  intro g hg hug
  rcases ha.block with h' | h'
  · rw [h'] at hg; exact h g hg hug
  · rw [h'] at hg
    have := hu g hug
    injection hg with hg
    omega

section
variable {w w' : World} {base e e2 K : Nat} {lv : Value} {vals : List Value}

/-- The lists as they lie: the row of slices, each slice with its bytes. -/
structure Lies (w : World) (base e e2 : Nat) (lv : Value) (vals : List Value) (L : Nat → List UInt8) : Prop where
  row : w.ownsRow base e2 1 lv vals.length vals
  each : ∀ (i : Nat) (v : Value), vals[i]? = some v → w.ownsRow base e 1 v (L i).length (u8s (L i))

def AllApart (vals : List Value) : Prop := ∀ (i j : Nat) (v u : Value), i ≠ j → vals[i]? = some v → vals[j]? = some u → Apart v u

def upd (L : Nat → List UInt8) (i : Nat) (x : List UInt8) : Nat → List UInt8 := fun j => if j = i then x else L j
theorem upd_same (L : Nat → List UInt8) (i : Nat) (x : List UInt8) : upd L i x i = x := by simp [upd]
theorem upd_other (L : Nat → List UInt8) (i j : Nat) (x : List UInt8) (h : j ≠ i) : upd L i x j = L j := by simp [upd, h]

/-- One byte of one list is written. -/
theorem Lies.store {L : Nat → List UInt8} (h : Lies w base e e2 lv vals L) (hne : e ≠ e2) (hap : AllApart vals) {i g n cap k : Nat} (hi : vals[i]? = some (.slice (some ⟨g, 0, none⟩) n cap)) (x : UInt8) :
    Lies (w.setCell ⟨g, k, none⟩ (.int .u8 (x.toNat : Int))) base e e2 lv vals (upd L i ((L i).set k x)) := by
  have hv := h.each i _ hi
  have hn : (L i).length = n := by
    have := hv.1
    rcases hv.2 with ⟨h', _⟩ | ⟨g', cap', cur, hv', _⟩
    · cases h'
    · injection hv' with _ h2 _; exact h2.symm
  rw [hn] at hv
  obtain ⟨h1, h2⟩ := hv.stored k (.int .u8 (x.toNat : Int))
  refine ⟨h.row.kept h2 ?_, fun j v hj => ?_⟩
  · exact own_types_ne h.row hv (Ne.symm hne)
  · by_cases hji : j = i
    · subst hji
      rw [hi] at hj
      obtain rfl := Option.some.inj hj
      rw [upd_same, List.length_set, hn, ← u8s_set]
      exact h1
    · rw [upd_other _ _ _ _ hji]
      exact (h.each j v hj).kept h2 (hap j i v _ hji hj hi).or

theorem Lies.below {L : Nat → List UInt8} (h : Lies w base e e2 lv vals L) (hb : Below w.heap.size w w') : Lies w' base e e2 lv vals L :=
  ⟨own_below h.row hb fun k hk => (h.row.lt k hk).2, fun i v hi => own_below (h.each i v hi) hb fun k hk => ((h.each i v hi).lt k hk).2⟩

theorem Lies.congr {L L' : Nat → List UInt8} (h : Lies w base e e2 lv vals L) (he : ∀ i, i < vals.length → L i = L' i) : Lies w base e e2 lv vals L' :=
  ⟨h.row, fun i v hi => by rw [← he i (List.getElem?_eq_some_iff.1 hi).1]; exact h.each i v hi⟩

/-- The bytes that are written. -/
def fb (j k : Nat) : UInt8 := UInt8.ofNat (j * 31 + k % 7)
def gb (j k : Nat) : UInt8 := UInt8.ofNat (200 + j * 5 + k)
theorem fb_val (j k : Nat) : ((fb j k).toNat : Int) = ((j : Int) * 31 + (k : Int) % 7) % 256 := by
  unfold fb; rw [UInt8.toNat_ofNat']; omega
theorem gb_val (j k : Nat) : ((gb j k).toNat : Int) = (200 + (j : Int) * 5 + (k : Int)) % 256 := by
  unfold gb; rw [UInt8.toNat_ofNat']; omega
def F (j n : Nat) : List UInt8 := (List.range n).map (fb j)
def G (j n : Nat) : List UInt8 := (List.range n).map (gb j)
theorem F_len (j n : Nat) : (F j n).length = n := by simp [F]
theorem G_len (j n : Nat) : (G j n).length = n := by simp [G]
theorem F_at (j n k : Nat) (h : k < n) : (F j n)[k]? = some (fb j k) := by simp [F, h]
theorem G_at (j n k : Nat) (h : k < n) : (G j n)[k]? = some (gb j k) := by simp [G, h]
theorem G_succ (j n : Nat) : G j (n + 1) = G j n ++ [gb j n] := by simp [G, List.range_succ]

/-- The first k bytes of list i are written. -/
def Done (i k : Nat) (l : List UInt8) : Prop := ∀ j, j < k → j < l.length → l[j]? = some (fb i j)
theorem Done.zero (i : Nat) (l : List UInt8) : Done i 0 l := fun _ h => absurd h (by omega)
theorem Done.step {i k : Nat} {l : List UInt8} (h : Done i k l) : Done i (k + 1) (l.set k (fb i k)) := by
  intro j hj hl
  rw [List.length_set] at hl
  by_cases hjk : j = k
  · subst hjk; rw [List.getElem?_set_self hl]
  · rw [List.getElem?_set_ne (Ne.symm hjk)]; exact h j (by omega) hl
theorem Done.all {i : Nat} {l : List UInt8} (h : Done i l.length l) : l = F i l.length := by
  apply List.ext_getElem?
  intro j
  by_cases hj : j < l.length
  · rw [h j hj hj, F_at i _ j hj]
  · rw [List.getElem?_eq_none (by omega), List.getElem?_eq_none (by rw [F_len]; omega)]

/-- The second loop's state: the lists are written over; 'xs' are the first ones with four bytes more each; the slice 'lg' holds them. -/
structure Long (w : World) (base e e2 : Nat) (lv : Value) (vals : List Value) (ns : Nat → Nat) (lg : Value) (xs : List Value) : Prop where
  lies : Lies w base e e2 lv vals fun i => F i (ns i)
  long : w.ownsRow base e2 1 lg xs.length xs
  more : ∀ (j : Nat) (x : Value), xs[j]? = some x → w.ownsRow base e 1 x (ns j + 4) (u8s (F j (ns j) ++ G j 4))
  lgap : Apart lg lv
  xv : ∀ (j k : Nat) (x v : Value), j ≠ k → xs[j]? = some x → vals[k]? = some v → Apart x v
  xx : AllApart xs

/-- Within one round of it: x has k of the four bytes. -/
structure Grows (w : World) (base e e2 : Nat) (lv : Value) (vals : List Value) (ns : Nat → Nat) (lg : Value) (xs : List Value) (k : Nat) (x : Value) : Prop where
  st : Long w base e e2 lv vals ns lg xs
  own : w.ownsRow base e 1 x (ns xs.length + k) (u8s (F xs.length (ns xs.length) ++ G xs.length k))
  apv : ∀ (j : Nat) (v : Value), j ≠ xs.length → vals[j]? = some v → Apart x v
  apx : ∀ (j : Nat) (u : Value), xs[j]? = some u → Apart x u

variable {ns : Nat → Nat} {lg x : Value} {xs : List Value} {k : Nat}

theorem Grows.start (h : Long w base e e2 lv vals ns lg xs) (hap : AllApart vals) {v : Value} (hv : vals[xs.length]? = some v) : Grows w base e e2 lv vals ns lg xs 0 v :=
  ⟨h, by have := h.lies.each _ _ hv; simpa [F_len, G] using this,
    fun j u hj hu => hap _ _ _ _ (Ne.symm hj) hv hu,
    fun j u hu => (h.xv j xs.length u v (by have := (List.getElem?_eq_some_iff.1 hu).1; omega) hu hv).symm⟩

/-- A new block beside all of it. -/
theorem Long.below (h : Long w base e e2 lv vals ns lg xs) (hb : Below w.heap.size w w') : Long w' base e e2 lv vals ns lg xs :=
  ⟨h.lies.below hb, own_below h.long hb fun k hk => (h.long.lt k hk).2, fun j x hx => own_below (h.more j x hx) hb fun k hk => ((h.more j x hx).lt k hk).2, h.lgap, h.xv, h.xx⟩
theorem Grows.below (h : Grows w base e e2 lv vals ns lg xs k x) (hb : Below w.heap.size w w') : Grows w' base e e2 lv vals ns lg xs k x :=
  ⟨h.st.below hb, own_below h.own hb fun k hk => (h.own.lt k hk).2, h.apv, h.apx⟩

/-- One byte more. -/
theorem Grows.step (h : Grows w base e e2 lv vals ns lg xs k x) (hne : e ≠ e2) {x' : Value}
    (ha : App w w' base e 1 x x' (ns xs.length + k) 1 (u8s (F xs.length (ns xs.length) ++ G xs.length k)) [.int .u8 ((gb xs.length k).toNat : Int)]) : Grows w' base e e2 lv vals ns lg xs (k + 1) x' := by
  have hlt : ∀ {b et s n : Nat} {v : Value} {ys : List Value}, w.ownsRow b et s v n ys → ∀ g, v.ownBlock = some g → g < w.heap.size := fun h g hg => (h.lt g hg).2
  refine ⟨⟨⟨ha.other h.st.lies.row (own_types_ne h.st.lies.row h.own (Ne.symm hne)), fun i v hi => ?_⟩, ha.other h.st.long (own_types_ne h.st.long h.own (Ne.symm hne)), fun j u hu => ha.other (h.st.more j u hu) (h.apx j u hu).symm.or, h.st.lgap, h.st.xv, h.st.xx⟩, ?_, fun j v hj hv => (h.apv j v hj hv).app ha (hlt (h.st.lies.each j v hv)), fun j u hu => (h.apx j u hu).app ha (hlt (h.st.more j u hu))⟩
  · by_cases hi' : i = xs.length
    · subst hi'
      refine ha.shorter (h.st.lies.each _ _ hi) (by rw [F_len]; omega) ?_ h.own
      rw [Nat.mul_one, F_len, u8s_append]
      have hl : (u8s (F xs.length (ns xs.length))).length = ns xs.length := by rw [u8s_len, F_len]
      have ht := List.take_left (l₁ := u8s (F xs.length (ns xs.length))) (l₂ := u8s (G xs.length k))
      rw [hl] at ht
      exact ht
    · exact ha.other (h.st.lies.each i v hi) (h.apv i v hi' hi).symm.or
  · have ho := ha.own
    rw [G_succ, ← List.append_assoc, u8s_append (F _ _ ++ G _ _)]
    exact ho

/-- The round's end: the slice goes behind the others. -/
theorem Grows.finish (h : Grows w base e e2 lv vals ns lg xs 4 x) (hne : e ≠ e2) {lg' : Value} (ha : App w w' base e2 1 lg lg' xs.length 1 xs [x]) : Long w' base e e2 lv vals ns lg' (xs ++ [x]) := by
  have hlt : ∀ {b et s n : Nat} {v : Value} {ys : List Value}, w.ownsRow b et s v n ys → ∀ g, v.ownBlock = some g → g < w.heap.size := fun h g hg => (h.lt g hg).2
  have hx : ∀ (j : Nat) (u : Value), (xs ++ [x])[j]? = some u → xs[j]? = some u ∨ (j = xs.length ∧ u = x) := by
    intro j u hu
    by_cases hj : j < xs.length
    · rw [List.getElem?_append_left hj] at hu; exact .inl hu
    · rw [List.getElem?_append_right (by omega)] at hu
      have : j - xs.length = 0 := by
        by_cases h0 : j - xs.length = 0
        · exact h0
        · rw [List.getElem?_eq_none (by simp; omega)] at hu; cases hu
      rw [this] at hu
      exact .inr ⟨by omega, by simpa using hu.symm⟩
  refine ⟨⟨ha.other h.st.lies.row h.st.lgap.symm.or, fun i v hi => ha.other (h.st.lies.each i v hi) (own_types_ne (h.st.lies.each i v hi) h.st.long hne)⟩, by rw [List.length_append]; exact ha.own, fun j u hu => ?_, h.st.lgap.app ha (hlt h.st.lies.row), fun j k u v hjk hu hv => ?_, fun i j u v hij hu hv => ?_⟩
  · rcases hx j u hu with hu | ⟨rfl, rfl⟩
    · exact ha.other (h.st.more j u hu) (own_types_ne (h.st.more j u hu) h.st.long hne)
    · exact ha.other h.own (own_types_ne h.own h.st.long hne)
  · rcases hx j u hu with hu | ⟨rfl, rfl⟩
    · exact h.st.xv j k u v hjk hu hv
    · exact h.apv k v (Ne.symm hjk) hv
  · rcases hx i u hu with hu' | ⟨rfl, rfl⟩
    · rcases hx j v hv with hv' | ⟨rfl, rfl⟩
      · exact h.st.xx i j u v hij hu' hv'
      · exact (h.apx i u hu').symm
    · rcases hx j v hv with hv' | ⟨rfl, rfl⟩
      · exact h.apx j v hv'
      · exact absurd rfl hij
end
end Go.Proofs.Ytfghbhjljbdlmaa

/- Plain: the register of a frame's sum, bit by bit: it forgets nothing, and it is linear. -/
namespace Go.Proofs.Ytfghbhjljbdlmaa

/-- One bit more. -/
def crcBit (r : Nat) (x : Bool) : Nat := if (r % 2 == 1) != x then (r / 2) ^^^ 3988292384 else r / 2
def crcBits (r : Nat) (bs : List Bool) : Nat := bs.foldl crcBit r
/-- A byte's bits, the lowest first. -/
def bitsB (b : UInt8) : List Bool := (List.range 8).map fun k => b.toNat.testBit k
def bitsOf (l : List UInt8) : List Bool := l.flatMap bitsB
def crcSum (l : List UInt8) : Nat := 4294967295 - crcBits 4294967295 (bitsOf l)

theorem bitsB_len (b : UInt8) : (bitsB b).length = 8 := by simp [bitsB]
theorem bitsOf_append (a b : List UInt8) : bitsOf (a ++ b) = bitsOf a ++ bitsOf b := by simp [bitsOf]
theorem bitsOf_len (l : List UInt8) : (bitsOf l).length = 8 * l.length := by
  induction l with
  | nil => rfl
  | cons x l ih => rw [show x :: l = [x] ++ l from rfl, bitsOf_append, List.length_append, ih, List.length_append]; simp [bitsOf, bitsB_len]; omega
theorem crcBits_append (r : Nat) (a b : List Bool) : crcBits r (a ++ b) = crcBits (crcBits r a) b := by simp [crcBits]

theorem xor_cancel {a b c : Nat} (h : a ^^^ c = b ^^^ c) : a = b := by
  have h1 := congrArg (· ^^^ c) h
  simp only [Nat.xor_assoc, Nat.xor_self, Nat.xor_zero] at h1
  exact h1
theorem xor_lt {a b k : Nat} (ha : a < 2 ^ k) (hb : b < 2 ^ k) : a ^^^ b < 2 ^ k := Nat.xor_lt_two_pow ha hb
theorem crcBit_lt (r : Nat) (x : Bool) (h : r < 2 ^ 32) : crcBit r x < 2 ^ 32 := by
  unfold crcBit
  split
  · exact xor_lt (by omega) (by decide)
  · omega
theorem crcBits_lt (bs : List Bool) : ∀ r, r < 2 ^ 32 → crcBits r bs < 2 ^ 32 := by
  induction bs with
  | nil => exact fun r h => h
  | cons x bs ih => exact fun r h => ih _ (crcBit_lt r x h)

theorem high (a : Nat) (h : a < 2 ^ 31) : 2 ^ 31 ≤ a ^^^ 3988292384 := by
  apply Nat.ge_two_pow_of_testBit
  rw [Nat.testBit_xor, Nat.testBit_lt_two_pow h]
  decide

/-- The register forgets nothing. -/
theorem crcBit_inj {r s : Nat} (x : Bool) (hr : r < 2 ^ 32) (hs : s < 2 ^ 32) (h : crcBit r x = crcBit s x) : r = s := by
  have h1 := high (r / 2) (by omega)
  have h2 := high (s / 2) (by omega)
  have h3 : r / 2 < 2 ^ 31 := by omega
  have h4 : s / 2 < 2 ^ 31 := by omega
  have e1 : ((r % 2 == 1) = true ↔ r % 2 = 1) := by simp
  have e2 : ((s % 2 == 1) = true ↔ s % 2 = 1) := by simp
  unfold crcBit at h
  split at h
  · rename_i c1
    split at h
    · rename_i c2
      have h5 : r / 2 = s / 2 := xor_cancel h
      have h6 : (r % 2 == 1) = (s % 2 == 1) := by revert c1 c2; cases (r % 2 == 1) <;> cases (s % 2 == 1) <;> cases x <;> simp
      rw [Bool.eq_iff_iff, e1, e2] at h6
      omega
    · omega
  · rename_i c1
    split at h
    · omega
    · rename_i c2
      have h6 : (r % 2 == 1) = (s % 2 == 1) := by revert c1 c2; cases (r % 2 == 1) <;> cases (s % 2 == 1) <;> cases x <;> simp
      rw [Bool.eq_iff_iff, e1, e2] at h6
      omega
theorem crcBit_ne (r : Nat) (x y : Bool) (hr : r < 2 ^ 32) (h : x ≠ y) : crcBit r x ≠ crcBit r y := by
  have h1 := high (r / 2) (by omega)
  have h3 : r / 2 < 2 ^ 31 := by omega
  unfold crcBit
  cases hb : (r % 2 == 1) <;> cases x <;> cases y <;> simp_all <;> omega
theorem crcBits_inj (bs : List Bool) : ∀ {r s : Nat}, r < 2 ^ 32 → s < 2 ^ 32 → crcBits r bs = crcBits s bs → r = s := by
  induction bs with
  | nil => exact fun _ _ h => h
  | cons x bs ih => exact fun hr hs h => crcBit_inj x hr hs (ih (crcBit_lt _ x hr) (crcBit_lt _ x hs) h)
/-- One bit that was turned is told. -/
theorem crcBits_turned (r : Nat) (p q : List Bool) (x y : Bool) (hr : r < 2 ^ 32) (h : x ≠ y) : crcBits r (p ++ x :: q) ≠ crcBits r (p ++ y :: q) := by
  intro e
  rw [crcBits_append, crcBits_append] at e
  have hp := crcBits_lt p r hr
  exact crcBit_ne _ x y hp h (crcBits_inj q (crcBit_lt _ x hp) (crcBit_lt _ y hp) e)

/-- Linear. -/
theorem crcBit_xor (r s : Nat) (x y : Bool) : crcBit (r ^^^ s) (x ^^ y) = crcBit r x ^^^ crcBit s y := by
  have hd : (r ^^^ s) / 2 = (r / 2) ^^^ (s / 2) := Nat.xor_div_two
  have hm : ((r ^^^ s) % 2 == 1) = ((r % 2 == 1) ^^ (s % 2 == 1)) := by
    have h1 : ∀ z : Nat, (z % 2 == 1) = z.testBit 0 := fun z => by simp [Nat.testBit_zero]; rcases Nat.mod_two_eq_zero_or_one z with h | h <;> simp [h]
    rw [h1, h1, h1, Nat.testBit_xor]
  unfold crcBit
  rw [hd, hm]
  have c1 : ∀ a b c : Nat, (a ^^^ b) ^^^ c = (a ^^^ c) ^^^ b := fun a b c => by rw [Nat.xor_assoc, Nat.xor_comm b c, ← Nat.xor_assoc]
  have c2 : ∀ a b c : Nat, (a ^^^ c) ^^^ (b ^^^ c) = a ^^^ b := fun a b c => by rw [← Nat.xor_assoc, c1 a c b, Nat.xor_assoc (a ^^^ b), Nat.xor_self, Nat.xor_zero]
  cases (r % 2 == 1) <;> cases (s % 2 == 1) <;> cases x <;> cases y <;> simp [c1, c2, Nat.xor_assoc]
theorem crcBits_xor : ∀ (as bs : List Bool) (r s : Nat), as.length = bs.length → crcBits (r ^^^ s) (List.zipWith (· ^^ ·) as bs) = crcBits r as ^^^ crcBits s bs := by
  intro as
  induction as with
  | nil => intro bs r s h; cases bs with
    | nil => rfl
    | cons _ _ => simp at h
  | cons x as ih => intro bs r s h; cases bs with
    | nil => simp at h
    | cons y bs =>
      show crcBits (crcBit (r ^^^ s) (x ^^ y)) (List.zipWith (· ^^ ·) as bs) = crcBits (crcBit r x) as ^^^ crcBits (crcBit s y) bs
      rw [crcBit_xor]
      exact ih bs _ _ (by simpa using h)

theorem compl_xor (r : Nat) (h : r < 2 ^ 32) : 4294967295 - r = r ^^^ 4294967295 := by
  apply Nat.eq_of_testBit_eq
  intro i
  have h1 : 4294967295 - r = 2 ^ 32 - (r + 1) := by omega
  rw [h1, Nat.testBit_two_pow_sub_succ h, Nat.testBit_xor]
  have h2 : (4294967295 : Nat) = 2 ^ 32 - 1 := by decide
  rw [h2, Nat.testBit_two_pow_sub_one]
  by_cases hi : i < 32
  · simp [hi]
  · have : r.testBit i = false := Nat.testBit_lt_two_pow (Nat.lt_of_lt_of_le h (Nat.pow_le_pow_right (by decide) (by omega)))
    simp [hi, this]
theorem crcSum_lt (l : List UInt8) : crcSum l < 4294967296 := by unfold crcSum; omega
theorem crcSum_xor (l : List UInt8) : crcSum l = crcBits 4294967295 (bitsOf l) ^^^ 4294967295 := compl_xor _ (crcBits_lt _ _ (by decide))

theorem bitsB_xor (x y : UInt8) : bitsB (x ^^^ y) = List.zipWith (· ^^ ·) (bitsB x) (bitsB y) := by
  simp only [bitsB, List.zipWith_map, List.zipWith_self, UInt8.toNat_xor, Nat.testBit_xor]
theorem bitsOf_cons (x : UInt8) (l : List UInt8) : bitsOf (x :: l) = bitsB x ++ bitsOf l := rfl
theorem bitsOf_xor : ∀ (a b : List UInt8), a.length = b.length → bitsOf (List.zipWith (· ^^^ ·) a b) = List.zipWith (· ^^ ·) (bitsOf a) (bitsOf b) := by
  intro a
  induction a with
  | nil => intro b h; cases b with
    | nil => rfl
    | cons _ _ => simp at h
  | cons x a ih => intro b h; cases b with
    | nil => simp at h
    | cons y b =>
      rw [List.zipWith_cons_cons, bitsOf_cons, bitsOf_cons, bitsOf_cons, List.zipWith_append (by rw [bitsB_len, bitsB_len]), ih b (by simpa using h), bitsB_xor]
theorem bitsOf_zero (n : Nat) : bitsOf (List.replicate n 0) = List.replicate (8 * n) false := by
  induction n with
  | zero => rfl
  | succ n ih =>
    rw [List.replicate_succ, bitsOf_cons, ih, show bitsB 0 = List.replicate 8 false by decide, List.replicate_append_replicate]
    congr 1
    omega
/-- The sums of two texts of one length, and that of noughts, tell that of the texts turned by each other. -/
theorem crcSum_line (a b : List UInt8) (h : a.length = b.length) : crcSum a ^^^ crcSum b ^^^ crcSum (List.replicate a.length 0) = crcSum (List.zipWith (· ^^^ ·) a b) := by
  rw [crcSum_xor, crcSum_xor, crcSum_xor, crcSum_xor, bitsOf_xor a b h, bitsOf_zero]
  have hab : (bitsOf a).length = (bitsOf b).length := by rw [bitsOf_len, bitsOf_len, h]
  have h1 := crcBits_xor (bitsOf a) (bitsOf b) 4294967295 4294967295 hab
  rw [Nat.xor_self] at h1
  have h2 := crcBits_xor (List.zipWith (· ^^ ·) (bitsOf a) (bitsOf b)) (List.replicate (8 * a.length) false) 0 4294967295 (by rw [List.length_zipWith, List.length_replicate, bitsOf_len, bitsOf_len, h]; omega)
  have h3 : List.zipWith (· ^^ ·) (List.zipWith (· ^^ ·) (bitsOf a) (bitsOf b)) (List.replicate (8 * a.length) false) = List.zipWith (· ^^ ·) (bitsOf a) (bitsOf b) := by
    apply List.ext_getElem
    · rw [List.length_zipWith, List.length_replicate, List.length_zipWith, bitsOf_len, bitsOf_len, h]; omega
    · intro i h1 h2
      simp
  rw [h3, Nat.zero_xor] at h2
  rw [h2, h1]
  generalize crcBits 4294967295 (bitsOf a) = x
  generalize crcBits 4294967295 (bitsOf b) = y
  generalize crcBits 4294967295 (List.replicate (8 * a.length) false) = z
  apply Nat.eq_of_testBit_eq
  intro i
  simp only [Nat.testBit_xor]
  cases x.testBit i <;> cases y.testBit i <;> cases z.testBit i <;> cases Nat.testBit 4294967295 i <;> rfl

/-- One bit of one byte that was turned is told by the sum. -/
theorem crcSum_turned (p q : List UInt8) (x : UInt8) (k : Nat) (hk : k < 8) : crcSum (p ++ (x ^^^ (1 <<< UInt8.ofNat k)) :: q) ≠ crcSum (p ++ x :: q) := by
  have hy : bitsB (x ^^^ (1 <<< UInt8.ofNat k)) = (bitsB x).set k (!(x.toNat.testBit k)) := by
    revert x
    have : ∀ k : Fin 8, ∀ x : Fin 256, bitsB (UInt8.ofNat x.val ^^^ (1 <<< UInt8.ofNat k.val)) = (bitsB (UInt8.ofNat x.val)).set k.val (!((UInt8.ofNat x.val).toNat.testBit k.val)) := by decide +kernel
    intro x
    have h := this ⟨k, hk⟩ ⟨x.toNat, x.toNat_lt⟩
    simpa using h
  intro e
  have e : crcBits 4294967295 (bitsOf (p ++ (x ^^^ (1 <<< UInt8.ofNat k)) :: q)) = crcBits 4294967295 (bitsOf (p ++ x :: q)) := by
    have h1 := crcBits_lt (bitsOf (p ++ (x ^^^ (1 <<< UInt8.ofNat k)) :: q)) 4294967295 (by decide)
    have h2 := crcBits_lt (bitsOf (p ++ x :: q)) 4294967295 (by decide)
    unfold crcSum at e
    omega
  rw [bitsOf_append, bitsOf_append, bitsOf_cons, bitsOf_cons, hy] at e
  have hlen : k < (bitsB x).length := by rw [bitsB_len]; exact hk
  have hx : bitsB x = (bitsB x).take k ++ (x.toNat.testBit k) :: (bitsB x).drop (k + 1) := by
    have h1 : (bitsB x)[k] = x.toNat.testBit k := by simp [bitsB]
    rw [← h1, ← List.drop_eq_getElem_cons hlen, List.take_append_drop]
  have hs : (bitsB x).set k (!(x.toNat.testBit k)) = (bitsB x).take k ++ (!(x.toNat.testBit k)) :: (bitsB x).drop (k + 1) := List.set_eq_take_append_cons_drop .. |>.trans (by rw [if_pos hlen])
  obtain ⟨u, v, hx2, hs2⟩ : ∃ u v, bitsB x = u ++ (x.toNat.testBit k) :: v ∧ (bitsB x).set k (!(x.toNat.testBit k)) = u ++ (!(x.toNat.testBit k)) :: v := ⟨_, _, hx, hs⟩
  rw [hs2, hx2] at e
  have h := crcBits_turned 4294967295 (bitsOf p ++ u) (v ++ bitsOf q) (!(x.toNat.testBit k)) (x.toNat.testBit k) (by decide) (by cases x.toNat.testBit k <;> decide)
  simp only [List.append_assoc, List.cons_append] at e h
  exact h e
end Go.Proofs.Ytfghbhjljbdlmaa
