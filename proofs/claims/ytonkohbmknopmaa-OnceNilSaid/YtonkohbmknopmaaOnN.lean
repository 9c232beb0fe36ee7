/- OnceNil: an act that was handed in by value; what is told, and its owner's. -/
import Derived.Test.YtonkohbmknopmaaOnC
import Derived.Test.YtonkohbmknopmaaOnKn
import Derived.Test.YtonkohbmknopmaaOwnK
import Derived.Test.YtonkohbmknopmaaSame
namespace Go.Proofs.Ytonkohbmknopmaa
open Go.ChangeShapes Go.WideShapes Go.ChangeAt Go.RowKit Go.Maps Go.Deep

def Gl.v (x : Gl) : Value := .agg #[.int .i64 x.kind, .int .u64 (x.id : Int), .int .u64 (x.num : Int), .slice x.A x.n x.c]
set_option maxRecDepth 100000 in
theorem given_ac13 {H : Type} {enc : TypeId × Value → H} {W : World} {base : Nat} {v : Value} {d : DataW H} {p : List MemPlace} (hv : Value.okWide Try.prog W .any base 35 v) (h : DataW.Trod enc Try.prog W 0 (fun _ => true) true 35 v d p) :
    ∃ x : Gl, x.Ok W W.heap.size ∧ v = x.v := by
  obtain ⟨cs, rfl, hcs⟩ := okWide_struct Try.underlying35 hv
  obtain ⟨fuel, hf⟩ := h
  have hC : Try.prog.cellsOf 35 = 4 := by kernel_rfl
  rw [hC] at hcs
  obtain ⟨l⟩ := cs
  match l, hcs with
  | [u0, u1, u2, u3], _ =>
    obtain ⟨x, hx, e0, e1, e2, e3⟩ := ac_of_trod13 hf
    exact ⟨x, hx, by rw [e0, e1, e2, e3]; rfl⟩
/-- Bytes of the call's own, apart from the table. -/
structure OwA (w : World) (F : Nat → Prop) (base top : Nat) (s : Sl3) (l : List UInt8) : Prop where
  own : w.ownsRow base 5 1 (s3W s) l.length (u8s l)
  apart : ∀ k, (s3W s).ownBlock = some k → ¬ F k
  top : ∀ k, (s3W s).ownBlock = some k → k < top
structure CeA (w : World) (F : Nat → Prop) (a : Addr) (v : Value) : Prop where
  cell : w.cell? a = some v
  apart : ¬ F a.block
section
variable {W w w' : World} {F F' : Nat → Prop} {g base top : Nat} {t t' : Tb} {s : Sl3} {l : List UInt8} {a : Addr} {v : Value}
theorem CeA.mv (h : CeA w F a v) (hm : Mv F F' w w') : CeA w' F' a v := ⟨cell_kp h.cell hm.kp h.apart, fun hf => by
  rcases hm.new _ hf with h1 | h1
  · exact h.apart h1
  · have := World.block_lt_of_cell? w a h.cell; omega⟩
theorem OwA.mv (h : OwA w F base top s l) (hm : Mv F F' w w') : OwA w' F' base top s l := ⟨own_kp h.own hm.kp h.apart, fun k e hf => by
  rcases hm.new _ hf with h1 | h1
  · exact h.apart k e h1
  · have := (h.own.lt k e).2; omega, h.top⟩
def t1N (id : Nat) : Tb := ⟨1, [⟨id, 5, true, []⟩], more1 0, 0⟩
def t2N (id : Nat) (rep : List UInt8) (na : Int) : Tb := ⟨1, [⟨id, 5, false, rep⟩], more1 0, na⟩
theorem nb_a (id : Nat) : (Tb.new 1).begin id 5 = ⟨1, [], 0, t1N id⟩ := by rfl
theorem find1 (id num : Nat) (b : Bool) (r : List UInt8) : findC id [⟨id, num, b, r⟩] = some 0 := by simp [findC, List.findIdx?_cons]
theorem nb_b (id : Nat) (rep : List UInt8) (h : rep.length ≤ 200) : (t1N id).ended id 5 rep = (0, t2N id rep 0) := by
  unfold Tb.ended t1N t2N
  simp only [if_neg (show ¬ 200 < rep.length by omega), find1]
  rfl
theorem nb_c (id : Nat) (rep : List UInt8) (na : Int) : (t2N id rep na).begin id 5 = ⟨2, rep, 0, t2N id rep (more1 na)⟩ := by
  unfold Tb.begin t2N
  simp only [find1]
  rfl
/-- A Begin that is answered again. -/
theorem OW.again {rep : List UInt8} {id : Nat} {na : Int} (h : OW W w F g (t2N id rep na)) (hid : id < 18446744073709551616) : Calls Try.prog 13 #[.pointer (some ⟨g, 0, none⟩), .int .u64 (id : Int), .int .u64 5] w fun e w' => ∃ A c, e = .returned (.tuple #[.int .i64 2, .slice A rep.length c, .int .i64 0]) ∧ Hid (∃ F', OW W w' F' g (t2N id rep (more1 na)) ∧ Mv F F' w w' ∧ OwA w' F' w.heap.size w'.heap.size (A, rep.length, c) rep) := by
  refine (cbegin_any h.p h.ok id 5 hid).mono ?_
  rw [nb_c]
  rintro e w' ⟨⟨A, n, c⟩, rfl, HX⟩
  obtain ⟨ho, F', hp, hm, hF⟩ := HX.out
  have hok := h.ok.begin hid (num := 5) (by decide)
  rw [nb_c] at hok
  obtain ⟨A', c', hs, _⟩ := own_shape ho
  unfold s3W at hs ho hF ⊢
  dsimp only at hs ho hF ⊢
  injection hs with h1 h2 h3
  subst h1 h2 h3
  exact ⟨A, c, rfl, Lib.hid ⟨F', h.step hp hok hm, hm, ⟨ho, hF, fun k e => (ho.lt k e).2⟩⟩⟩
/-- Clients of a table of one. -/
theorem OW.clients1 {rep : List UInt8} {id : Nat} {na : Int} (h : OW W w F g (t2N id rep na)) : Calls Try.prog 26 #[.pointer (some ⟨g, 0, none⟩)] w fun e w' => ∃ R c s, e = .returned (.slice (some ⟨R, 0, none⟩) 1 c) ∧ Hid (OW W w' F g (t2N id rep na) ∧ Below w.heap.size w w' ∧ CeA w' F ⟨R, 3, none⟩ (s3W s) ∧ OwA w' F w.heap.size w'.heap.size s rep ∧ w.heap.size ≤ R) := by
  refine (clients_any h.p h.ok).mono ?_
  rintro e w' ⟨A, c, m, rfl, hm, HX⟩
  obtain ⟨es, he, hc, hb⟩ := HX.out
  have hl1 : es.length = 1 := by have := congrArg List.length he; simpa [t2N] using this
  obtain ⟨e0, rfl⟩ := List.length_eq_one_iff.1 hl1
  · have he0 : e0.1 = ⟨id, 5, false, rep⟩ := by
      have : [e0.1] = [(⟨id, 5, false, rep⟩ : Cl)] := he
      injection this
    obtain ⟨R, c', ev, h1, h2, _, _, _, q3, _⟩ := own4_cell hc.own 0 (by simp)
    injection ev with ev _ _
    subst ev
    have ho := hc.each e0 (List.mem_singleton.2 rfl)
    rw [he0] at ho
    obtain rfl : m = 1 := hm
    have hF : ∀ k, w.heap.size ≤ k → ¬ F k := fun k hk hf => by have := h.p.lt k hf; omega
    exact ⟨R, c, e0.2, rfl, Lib.hid ⟨h.below hb, hb, ⟨q3, hF R h1⟩, ⟨ho, fun k e => hF k (ho.lt k e).1, fun k e => (ho.lt k e).2⟩, h1⟩⟩
/-- Four rows of bytes, made one behind the other: Own says so, and the table stands. -/
theorem own4_any {F : Nat → Prop} {b1 b2 b3 b4 p1 p2 p3 p4 : Nat} {s1 s2 s3 s4 : Sl3} (h : OW W w F g t) (h1 : OwA w F b1 p1 s1 l) (h2 : OwA w F b2 p2 s2 l) (h3 : OwA w F b3 p3 s3 l) (h4 : OwA w F b4 p4 s4 l) (hw : W.heap.size ≤ b1) (h12 : p1 ≤ b2) (h23 : p2 ≤ b3) (h34 : p3 ≤ b4) (hb : b1 ≤ b2 ∧ b2 ≤ b3 ∧ b3 ≤ b4) (hbw : b1 ≤ w.heap.size) (hl : l.length ≤ 1000) (h12t : b2 ≤ p2 ∧ b3 ≤ p3) :
    ∀ W2, Below w.heap.size w W2 → Calls Try.prog 28 #[.slice (some ⟨W2.heap.size, 0, none⟩) 4 4] (W2.alloc (.cells #[s3W s1, s3W s2, s3W s3, s3W s4] 33)) fun e w' => e = .returned (.bool true) ∧ Hid (OW W w' F g t) := fun W2 hb2 => by
  have ha := bel1N W2 (.cells #[s3W s1, s3W s2, s3W s3, s3W s4] 33)
  have hbb := below_then hb2 ha
  have up : ∀ {b p : Nat} {s : Sl3}, OwA w F b p s l → b1 ≤ b → (W2.alloc (.cells #[s3W s1, s3W s2, s3W s3, s3W s4] 33)).ownsRow b1 5 1 (s3W s) l.length (u8s l) := fun h hle => own_mono (own_below h.own hbb fun k e => (h.own.lt k e).2) hle
  have e1 := up h1 (Nat.le_refl _)
  have e2 := up h2 hb.1
  have e3 := up h3 (by omega)
  have e4 := up h4 (by omega)
  have hz := hb2.size
  have hrow : (W2.alloc (.cells #[s3W s1, s3W s2, s3W s3, s3W s4] 33)).ownsRow W2.heap.size 33 1 (.slice (some ⟨W2.heap.size, 0, none⟩) 4 4) 4 [s3W s1, s3W s2, s3W s3, s3W s4] := World.ownsRow_lit W2 #[s3W s1, s3W s2, s3W s3, s3W s4] 4 (Nat.le_refl _) (by decide) (by simp)
  have hlies : Lies (W2.alloc (.cells #[s3W s1, s3W s2, s3W s3, s3W s4] 33)) b1 5 33 (.slice (some ⟨W2.heap.size, 0, none⟩) 4 4) [s3W s1, s3W s2, s3W s3, s3W s4] (fun _ => l) := by
    refine ⟨own_mono hrow (by omega), fun i v hi => ?_⟩
    match i, hi with
    | 0, hi => injection hi with hi; subst hi; exact e1
    | 1, hi => injection hi with hi; subst hi; exact e2
    | 2, hi => injection hi with hi; subst hi; exact e3
    | 3, hi => injection hi with hi; subst hi; exact e4
    | i + 4, hi => simp at hi
  have ap : ∀ {b p b' p' : Nat} {s s' : Sl3}, OwA w F b p s l → OwA w F b' p' s' l → p ≤ b' → Apart (s3W s) (s3W s') := fun h h' hle k e e' => by
    have := h.top k e
    have := (h'.own.lt k e').1
    omega
  have a12 := ap h1 h2 h12
  have a13 := ap h1 h3 (by omega)
  have a14 := ap h1 h4 (by omega)
  have a23 := ap h2 h3 h23
  have a24 := ap h2 h4 (by omega)
  have a34 := ap h3 h4 h34
  have hap : AllApart [s3W s1, s3W s2, s3W s3, s3W s4] := by
    intro i j v u hij hv hu
    have hi4 : i < 4 := (List.getElem?_eq_some_iff.1 hv).1
    have hj4 : j < 4 := (List.getElem?_eq_some_iff.1 hu).1
    have hi' : i = 0 ∨ i = 1 ∨ i = 2 ∨ i = 3 := by omega
    have hj' : j = 0 ∨ j = 1 ∨ j = 2 ∨ j = 3 := by omega
    rcases hi' with rfl | rfl | rfl | rfl <;> rcases hj' with rfl | rfl | rfl | rfl <;> first | exact absurd rfl hij | (injection hv with hv; injection hu with hu; subst hv hu; first | assumption | exact a12.symm | exact a13.symm | exact a14.symm | exact a23.symm | exact a24.symm | exact a34.symm)
  have hsz : (W2.alloc (.cells #[s3W s1, s3W s2, s3W s3, s3W s4] 33)).heap.size = W2.heap.size + 1 := by simp
  refine (own_kp_any _ 4 4 b1 _ (fun _ => l) _ rfl hlies hap (by omega) (by decide) (fun _ => by omega)).mono ?_
  rintro e w' ⟨rfl, hk⟩
  have hVB : ∀ k, VB [s3W s1, s3W s2, s3W s3, s3W s4] k → ¬ F k ∧ W.heap.size ≤ k := by
    rintro k ⟨v, hv, e⟩
    simp only [List.mem_cons, List.not_mem_nil, or_false] at hv
    rcases hv with rfl | rfl | rfl | rfl
    · exact ⟨h1.apart k e, by have := (h1.own.lt k e).1; omega⟩
    · exact ⟨h2.apart k e, by have := (h2.own.lt k e).1; omega⟩
    · exact ⟨h3.apart k e, by have := (h3.own.lt k e).1; omega⟩
    · exact ⟨h4.apart k e, by have := (h4.own.lt k e).1; omega⟩
  exact ⟨rfl, Lib.hid ((h.below hbb).kp hk (fun k h1 h2 => (hVB k h2).1 h1) (fun k h1 => (hVB k h1).2))⟩
end
end Go.Proofs.Ytonkohbmknopmaa
