/- OnceSame: what the law keeps, in memory. -/
import Derived.Test.YtonkohbmknopmaaOnKn
import Derived.Test.YtonkohbmknopmaaOnW
import Derived.Test.YtonkohbmknopmaaSame
namespace Go.Proofs.Ytonkohbmknopmaa
open Go.ChangeShapes Go.WideShapes Go.ChangeAt Go.RowKit Go.Maps

def updN {α : Type} (f : Nat → α) (n : Nat) (x : α) : Nat → α := fun i => if i = n then x else f i
/-- Nine cells. -/
def tbl (f : Nat → Value) : Array Value := #[f 0, f 1, f 2, f 3, f 4, f 5, f 6, f 7, f 8]
theorem nine13 {i : Nat} (h : i < 9) : i = 0 ∨ i = 1 ∨ i = 2 ∨ i = 3 ∨ i = 4 ∨ i = 5 ∨ i = 6 ∨ i = 7 ∨ i = 8 := by omega
theorem tbl_at (f : Nat → Value) {i : Nat} (h : i < 9) : (tbl f)[i]? = some (f i) := by
  rcases nine13 h with rfl | rfl | rfl | rfl | rfl | rfl | rfl | rfl | rfl <;> rfl
theorem tbl_set (f : Nat → Value) {i : Nat} (h : i < 9) (v : Value) : (tbl f).setIfInBounds i v = tbl (updN f i v) := by
  rcases nine13 h with rfl | rfl | rfl | rfl | rfl | rfl | rfl | rfl | rfl <;> rfl
/-- The table, and what the law keeps beside it. -/
structure SaC (W : World) (g gl gd gr : Nat) (lt : Nat → Nat) (dt : Nat → Bool) (rt : Nat → List UInt8) (la : Nat → Nat) (dn : Nat → Bool) (rp : Nat → Sl3) (rl : Nat → List UInt8) (w : World) : Prop where
  t : ∃ F t, OW W w F g t ∧ Nine t lt dt rt ∧ ¬ F gl ∧ ¬ F gd ∧ ¬ F gr
  bl : Bk w gl 59 (tbl fun j => .int .u64 (la j : Int))
  bd : Bk w gd 60 (tbl fun j => .bool (dn j))
  br : Bk w gr 61 (tbl fun j => s3W (rp j))
  new : W.heap.size ≤ gl ∧ W.heap.size ≤ gd ∧ W.heap.size ≤ gr
  ne : gl ≠ gd ∧ gl ≠ gr ∧ gd ≠ gr
  rd : ∀ j, j < 9 → Rd w W.heap.size (rp j).1 (rp j).2.1 (rl j)
section
variable {W w w' : World} {g gl gd gr : Nat} {lt la : Nat → Nat} {dt dn : Nat → Bool} {rt rl : Nat → List UInt8} {rp : Nat → Sl3}
theorem SaC.bel (h : SaC W g gl gd gr lt dt rt la dn rp rl w) : Below W.heap.size W w := by obtain ⟨F, t, h1, _⟩ := h.t; exact h1.bel
theorem SaC.below (h : SaC W g gl gd gr lt dt rt la dn rp rl w) (hb : Below w.heap.size w w') : SaC W g gl gd gr lt dt rt la dn rp rl w' := by
  have hz := h.bel.size
  obtain ⟨F, t, h1, h2, h3⟩ := h.t
  exact ⟨⟨F, t, h1.below hb, h2, h3⟩, h.bl.below hb h.bl.lt, h.bd.below hb h.bd.lt, h.br.below hb h.br.lt, h.new, h.ne, fun j hj => (h.rd j hj).below (hb.mono hz)⟩
theorem SaC.table {F F' : Nat → Prop} {t t' : Tb} (h : SaC W g gl gd gr lt dt rt la dn rp rl w) (h1 : OW W w F g t) (h3 : ¬ F gl ∧ ¬ F gd ∧ ¬ F gr) (ho : OW W w' F' g t') (hm : Mv F F' w w') {lt' : Nat → Nat} {dt' : Nat → Bool} {rt' : Nat → List UInt8} (hn : Nine t' lt' dt' rt') : SaC W g gl gd gr lt' dt' rt' la dn rp rl w' := by
  have hap : ∀ k, ¬ F k → k < w.heap.size → ¬ F' k := fun k hk hl hf => by
    rcases hm.new k hf with h' | h'
    · exact hk h'
    · omega
  exact ⟨⟨F', t', ho, hn, hap _ h3.1 h.bl.lt, hap _ h3.2.1 h.bd.lt, hap _ h3.2.2 h.br.lt⟩, h.bl.kp hm.kp h3.1, h.bd.kp hm.kp h3.2.1, h.br.kp hm.kp h3.2.2, h.new, h.ne,
    fun j hj => (h.rd j hj).kp hm.kp h1.bel.size fun k hk hf => by have := h1.new k hf; omega⟩
/-- What a Begin comes to; block bx was made just ahead. -/
def SaB (W : World) (g gl gd gr : Nat) (la : Nat → Nat) (dn : Nat → Bool) (rp : Nat → Sl3) (rl : Nat → List UInt8) (c num bx : Nat) (ty : TypeId) (cs : Array Value) (e : Ending) (w' : World) : Prop :=
  ∃ b A c0 ki m er, SwB la dn rl c num b ∧ (ki = (b.kind : Int) ∧ m = b.rep.length ∧ er = b.err) ∧ e = .returned (.tuple #[.int .i64 ki, .slice A m c0, .int .i64 er]) ∧
    Hid (Bk w' bx ty cs ∧ Rd w' w'.heap.size A b.rep.length b.rep ∧ ∀ lt' dt', Nine b.tb lt' dt' rl → SaC W g gl gd gr lt' dt' rl la dn rp rl w')
theorem SaC.begin (h : SaC W g gl gd gr la dn rl la dn rp rl w) (c : Nat) (hc : c < 9) (num : Nat) (hn : num < 18446744073709551616) (ty : TypeId) (cs : Array Value) : Calls Try.prog 13 #[.pointer (some ⟨g, 0, none⟩), .int .u64 (c : Int), .int .u64 (num : Int)] (w.alloc (.cells cs ty)) (SaB W g gl gd gr la dn rp rl c num w.heap.size ty cs) := by
  have hb0 := bel1N w (.cells cs ty)
  have hbx := Bk.new w ty cs
  have hk := h.below hb0
  obtain ⟨F, t, h1, h2, h3⟩ := h.t
  refine ((h1.below hb0).begin c num (by omega) hn).mono ?_
  rintro e w' ⟨A, c0, rfl, HX⟩
  obtain ⟨F', ho, hm, _, hr⟩ := HX.out
  exact ⟨t.begin c num, A, c0, _, _, _, h2.begin h1.ok c hc num, ⟨rfl, rfl, rfl⟩, rfl, Lib.hid ⟨hbx.kp hm.kp (fun hf => by have := h1.p.lt _ hf; omega), hr.rd, fun lt' dt' hn' => hk.table (h1.below hb0) h3 ho hm hn'⟩⟩
/-- What an End comes to. -/
def SaE (W : World) (g gl gd gr : Nat) (la : Nat → Nat) (dn : Nat → Bool) (rp : Nat → Sl3) (rl : Nat → List UInt8) (c num : Nat) (rep : List UInt8) (bx : Nat) (ty : TypeId) (cs : Array Value) (e : Ending) (w' : World) : Prop :=
  ∃ r er, SwE la dn rl c num rep r ∧ er = r.1 ∧ e = .returned (.int .i64 er) ∧ Hid (Bk w' bx ty cs ∧ ∀ dt' rt', Nine r.2 la dt' rt' → SaC W g gl gd gr la dt' rt' la dn rp rl w')
theorem SaC.ended (h : SaC W g gl gd gr la dn rl la dn rp rl w) (c : Nat) (hc : c < 9) (num : Nat) (A : Option Addr) (n c0 : Nat) (rep : List UInt8) (hr : Rd w W.heap.size A n rep) (hcap : n ≤ c0 ∧ c0 ≤ maxLen) (hn : n ≤ 1000000) (ty : TypeId) (cs : Array Value) : Calls Try.prog 18 #[.pointer (some ⟨g, 0, none⟩), .int .u64 (c : Int), .int .u64 (num : Int), .slice A n c0] (w.alloc (.cells cs ty)) (SaE W g gl gd gr la dn rp rl c num rep w.heap.size ty cs) := by
  have hb0 := bel1N w (.cells cs ty)
  have hbx := Bk.new w ty cs
  have hk := h.below hb0
  have hz := h.bel.size
  obtain ⟨F, t, h1, h2, h3⟩ := h.t
  refine ((h1.below hb0).ended c num (by omega) A n c0 rep (RdA.old (h1.below hb0) (hr.below (hb0.mono hz)) hcap) hn).mono ?_
  rintro e w' ⟨rfl, HX⟩
  obtain ⟨F', ho, hm⟩ := HX.out
  exact ⟨t.ended c num rep, _, h2.ended h1.ok c hc num rep, rfl, rfl, Lib.hid ⟨hbx.kp hm.kp (fun hf => by have := h1.p.lt _ hf; omega), fun dt' rt' hn' => hk.table (h1.below hb0) h3 ho hm hn'⟩⟩
/-- A cell of the law's own turns. -/
theorem SaC.kp {k : Nat} (h : SaC W g gl gd gr lt dt rt la dn rp rl w) (hk : Kp (fun j => j = k) w w') (hl : k = gl ∨ k = gd ∨ k = gr) : (∃ F t, OW W w' F g t ∧ Nine t lt dt rt ∧ ¬ F gl ∧ ¬ F gd ∧ ¬ F gr) ∧ ∀ j, j < 9 → Rd w' W.heap.size (rp j).1 (rp j).2.1 (rl j) := by
  obtain ⟨F, t, h1, h2, h3, h4, h5⟩ := h.t
  have hkn : W.heap.size ≤ k := by rcases hl with rfl | rfl | rfl; exact h.new.1; exact h.new.2.1; exact h.new.2.2
  have hkF : ¬ F k := by rcases hl with rfl | rfl | rfl <;> assumption
  exact ⟨⟨F, t, h1.kp hk (fun j hj e => hkF (e ▸ hj)) (fun j e => e ▸ hkn), h2, h3, h4, h5⟩, fun j hj => (h.rd j hj).kp hk h1.bel.size fun i hi e => by omega⟩
theorem SaC.setL (h : SaC W g gl gd gr lt dt rt la dn rp rl w) (c : Nat) (hc : c < 9) (x : Nat) : SaC W g gl gd gr lt dt rt (updN la c x) dn rp rl (w.setCell ⟨gl, c, none⟩ (.int .u64 (x : Int))) := by
  have hk : Kp (fun j => j = gl) w (w.setCell ⟨gl, c, none⟩ (.int .u64 (x : Int))) := Kp.set_ (F := fun j => j = gl) (p := ⟨gl, c, none⟩) rfl _
  obtain ⟨h1, h2⟩ := h.kp hk (.inl rfl)
  have hb := h.bl.set_ c (.int .u64 (x : Int))
  rw [tbl_set _ hc] at hb
  refine ⟨h1, ?_, h.bd.kp hk (fun e => h.ne.1 e.symm), h.br.kp hk (fun e => h.ne.2.1 e.symm), h.new, h.ne, h2⟩
  have : (updN (fun j => Value.int .u64 (la j : Int)) c (.int .u64 (x : Int))) = fun j => Value.int .u64 ((updN la c x j : Nat) : Int) := by
    funext j
    unfold updN
    by_cases hj : j = c
    · rw [if_pos hj, if_pos hj]
    · rw [if_neg hj, if_neg hj]
  rwa [this] at hb
theorem SaC.setD (h : SaC W g gl gd gr lt dt rt la dn rp rl w) (c : Nat) (hc : c < 9) (x : Bool) : SaC W g gl gd gr lt dt rt la (updN dn c x) rp rl (w.setCell ⟨gd, c, none⟩ (.bool x)) := by
  have hk : Kp (fun j => j = gd) w (w.setCell ⟨gd, c, none⟩ (.bool x)) := Kp.set_ (F := fun j => j = gd) (p := ⟨gd, c, none⟩) rfl _
  obtain ⟨h1, h2⟩ := h.kp hk (.inr (.inl rfl))
  have hb := h.bd.set_ c (.bool x)
  rw [tbl_set _ hc] at hb
  refine ⟨h1, h.bl.kp hk h.ne.1, ?_, h.br.kp hk (fun e => h.ne.2.2 e.symm), h.new, h.ne, h2⟩
  have : (updN (fun j => Value.bool (dn j)) c (.bool x)) = fun j => Value.bool (updN dn c x j) := by
    funext j
    unfold updN
    by_cases hj : j = c
    · rw [if_pos hj, if_pos hj]
    · rw [if_neg hj, if_neg hj]
  rwa [this] at hb
theorem SaC.setR (h : SaC W g gl gd gr lt dt rt la dn rp rl w) (c : Nat) (hc : c < 9) (s : Sl3) (l : List UInt8) (hr : Rd w W.heap.size s.1 s.2.1 l) : SaC W g gl gd gr lt dt rt la dn (updN rp c s) (updN rl c l) (w.setCell ⟨gr, c, none⟩ (s3W s)) := by
  have hk : Kp (fun j => j = gr) w (w.setCell ⟨gr, c, none⟩ (s3W s)) := Kp.set_ (F := fun j => j = gr) (p := ⟨gr, c, none⟩) rfl _
  obtain ⟨h1, h2⟩ := h.kp hk (.inr (.inr rfl))
  have hb := h.br.set_ c (s3W s)
  rw [tbl_set _ hc] at hb
  refine ⟨h1, h.bl.kp hk h.ne.2.1, h.bd.kp hk h.ne.2.2, ?_, h.new, h.ne, fun j hj => ?_⟩
  · have : (updN (fun j => s3W (rp j)) c (s3W s)) = fun j => s3W (updN rp c s j) := by
      funext j
      unfold updN
      by_cases hj : j = c
      · rw [if_pos hj, if_pos hj]
      · rw [if_neg hj, if_neg hj]
    rwa [this] at hb
  · unfold updN
    by_cases hj2 : j = c
    · rw [if_pos hj2, if_pos hj2]
      exact hr.kp hk h.bel.size fun i hi e => by have := h.new.2.2; omega
    · rw [if_neg hj2, if_neg hj2]
      exact h2 j hj
theorem SaC.cells (h : SaC W g gl gd gr lt dt rt la dn rp rl w) (c : Nat) (hc : c < 9) : w.cell? ⟨gl, c, none⟩ = some (.int .u64 (la c : Int)) ∧ w.cell? ⟨gd, c, none⟩ = some (.bool (dn c)) ∧ w.cell? ⟨gr, c, none⟩ = some (s3W (rp c)) :=
  ⟨(h.bl.cell c).trans (tbl_at _ hc), (h.bd.cell c).trans (tbl_at _ hc), (h.br.cell c).trans (tbl_at _ hc)⟩
theorem SaC.alike {lt' la' : Nat → Nat} {dt' dn' : Nat → Bool} {rt' rl' : Nat → List UInt8} (h : SaC W g gl gd gr lt dt rt la dn rp rl w) (h1 : lt = lt') (h2 : dt = dt') (h3 : rt = rt') (h4 : la = la') (h5 : dn = dn') (h6 : rl = rl') : SaC W g gl gd gr lt' dt' rt' la' dn' rp rl' w := by
  subst h1 h2 h3 h4 h5 h6
  exact h
end
theorem rem9 (s : Nat) : (s : Int).tmod 9 = ((s % 9 : Nat) : Int) ∧ (s : Int) % 9 = ((s % 9 : Nat) : Int) ∧ IntKind.u64.wrap ((s % 9 : Nat) : Int) = ((s % 9 : Nat) : Int) ∧ IntKind.i64.wrap ((s % 9 : Nat) : Int) = ((s % 9 : Nat) : Int) := by
  have := Nat.mod_lt s (show 0 < 9 by decide)
  exact ⟨by rw [Int.tmod_eq_emod_of_nonneg (by omega)]; rfl, rfl, by rw [IntKind.wrap_u64]; omega, by rw [IntKind.wrap_i64]; omega⟩
end Go.Proofs.Ytonkohbmknopmaa
