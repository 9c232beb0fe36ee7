/- The program's receiver: take. -/
import Derived.Test.YtfdlhefbbhblnaaSesY
import Derived.Test.YtfdlhefbbhblnaaAppend2
import Derived.Deep.LoopGhost
import Derived.Deep.DeepCutAuto
namespace Go.Proofs.Ytfdlhefbbhblnaa
open Go.RowKit Go.Maps

/-- Ahead of a round of take. -/
structure TakeI (w wr : World) (g b : Nat) (r : Rc) (es0 : List Ern) (N : Nat) (out : List (List UInt8 × Sl)) (c : Nat) (es : List Ern) (lv : Value) : Prop where
  kp : Kp (fun k => k = g ∨ k = b) w wr
  bk : Bk wr g 92 (rcA { r with came := c } b)
  map : OwnE wr b N (onK (·.2) es)
  row : wr.ownsRow w.heap.size 34 1 lv out.length (out.map fun x => slV x.2)
  tk : takeK r.came es0 = (out ++ (takeK c es).1, (takeK c es).2.1, (takeK c es).2.2)
  srt : SrtK es
  keys : ∀ p ∈ es, c < p.1
  sum : c + es.length = r.came + es0.length

structure TakeM (w wr : World) (g b : Nat) (r : Rc) (N : Nat) (out : List (List UInt8 × Sl)) (c : Nat) (es : List Ern) (lv : Value) : Prop where
  kp : Kp (fun k => k = g ∨ k = b) w wr
  bk : Bk wr g 92 (rcA { r with came := c } b)
  map : OwnE wr b N (onK (·.2) es)
  row : wr.ownsRow w.heap.size 34 1 lv out.length (out.map fun x => slV x.2)

theorem kp_turned {w w' : World} {b : Nat} (h : w.mapTurned w' b) : Kp (fun k => k = b) w w' := by
  have hg := h.grown
  exact Kp.of_grown (F := fun k => k = b) ⟨hg.os, hg.tape, hg.output, hg.size, hg.block⟩ rfl
theorem slV_sl (x : Sl) : ∃ A n c, slV x = .slice A n c := by
  obtain ⟨a, n, c⟩ := x
  cases a <;> exact ⟨_, _, _, rfl⟩
theorem slV_one (x : Sl) : (slV x).oneCell' = true := by
  obtain ⟨a, n, c⟩ := x
  cases a <;> rfl

theorem TakeI.mid {w wr w1 : World} {g b N c C1 k : Nat} {r : Rc} {es0 rest : List Ern} {out : List (List UInt8 × Sl)} {x : List UInt8 × Sl} {lv : Value} (h : TakeI w wr g b r es0 N out c ((k, x) :: rest) lv) (hk : k = C1) (hC : C1 = c + 1) (hg : g < w.heap.size) (hb : b < w.heap.size)
    (hm : w1.ownsMap Try.prog 22 slR b N ((mapS (onK (·.2) ((k, x) :: rest))).del (.int .u64 (C1 : Int)))) (ht : wr.mapTurned w1 b) :
    w1.cell? ⟨g, 2, none⟩ = some (.int .u64 (c : Int)) ∧ w1.frozen? ⟨g, 2, none⟩ = false ∧ TakeM w (w1.setCell ⟨g, 2, none⟩ (.int .u64 (C1 : Int))) g b r N out C1 rest lv := by
  subst hk
  have hgb : g ≠ b := h.map.off_bk h.bk
  have hk1 := kp_turned ht
  have hb1 := h.bk.kp hk1 hgb
  have hk2 : Kp (fun j => j = g) w1 (w1.setCell ⟨g, 2, none⟩ (.int .u64 (k : Int))) := Kp.set_ (F := fun j => j = g) (p := ⟨g, 2, none⟩) rfl _
  have hlv : ∀ j, lv.ownBlock = some j → w.heap.size ≤ j := fun j e => (h.row.lt j e).1
  have hz := h.kp.size
  rw [mapS_del] at hm
  have e : delK k (onK (·.2) ((k, x) :: rest)) = onK (·.2) rest := by
    rw [← delK_on, delK_head h.srt]
  rw [e] at hm
  have hm1 : OwnE w1 b N (onK (·.2) rest) := hm
  refine ⟨hb1.cell 2, hb1.frozen 2, (h.kp.trans (hk1.mono fun j e => .inr e)).trans (hk2.mono fun j e => .inl e), hb1.set_ 2 _, hm1.kp hk2 (fun e => hgb e.symm), ?_⟩
  exact own_kp (own_kp h.row hk1 fun j e1 e2 => by have := hlv j e1; omega) hk2 fun j e1 e2 => by have := hlv j e1; omega
theorem TakeI.next {w wr w2 w3 w4 : World} {g b N c C1 k : Nat} {r : Rc} {es0 rest : List Ern} {out : List (List UInt8 × Sl)} {x : List UInt8 × Sl} {lv lv' : Value} (h : TakeI w wr g b r es0 N out c ((k, x) :: rest) lv) (hk : k = C1) (hC : C1 = c + 1) (hg : g < w.heap.size) (hb : b < w.heap.size)
    (hm : TakeM w w2 g b r N out C1 rest lv) (hb3 : Below w2.heap.size w2 w3) (happ : App w3 w4 w.heap.size 34 1 lv lv' out.length 1 (out.map fun x => slV x.2) [slV x.2]) : TakeI w w4 g b r es0 N (out ++ [x]) C1 rest lv' := by
  subst hk
  have hlv : ∀ j, lv.ownBlock = some j → w.heap.size ≤ j := fun j e => (h.row.lt j e).1
  have hk3 : Kp (fun j => lv.ownBlock = some j) w3 w4 := Kp.of_row happ.grow (fun g e => e)
  have hng : ¬ lv.ownBlock = some g := fun e => by have := hlv g e; omega
  have hnb : ¬ lv.ownBlock = some b := fun e => by have := hlv b e; omega
  have hs := h.srt
  unfold SrtK at hs
  rw [List.pairwise_cons] at hs
  refine ⟨(hm.kp.trans (Kp.of_below hb3)).trans' hk3 fun j e => .inr (hlv j e), (hm.bk.below hb3 hm.bk.lt).kp hk3 hng, (hm.map.kp (F := fun _ => False) (Kp.of_below hb3) (fun h => h)).kp hk3 hnb, ?_, ?_, hs.2, fun p hp => hs.1 p hp, ?_⟩
  · rw [List.length_append, List.map_append]; exact happ.own
  · rw [h.tk]
    have e : takeK c ((k, x) :: rest) = (x :: (takeK (c + 1) rest).1, (takeK (c + 1) rest).2.1, (takeK (c + 1) rest).2.2) := by
      show (if k = c + 1 then _ else _) = _
      rw [if_pos hC]
    rw [e, hC]
    simp
  · have := h.sum
    simp only [List.length_cons] at this
    omega

/-- What take gives. -/
def TakeS (r : Rc) (w : World) (F : Nat → Prop) (g : Nat) (e : Ending) (w' : World) : Prop :=
  ∃ (v : Value) (out : List (List UInt8 × Value)) (F' : Nat → Prop), e = .returned v ∧ out.map (·.1) = r.take.1 ∧ w'.ownsRow w.heap.size 34 1 v out.length (out.map (·.2)) ∧ (∀ x ∈ out, w'.ownsRow 0 5 1 x.2 x.1.length (u8s x.1)) ∧ AllApart (out.map (·.2)) ∧
    (∀ x ∈ out, ∀ k, x.2.ownBlock = some k → F k ∧ ¬ F' k) ∧ PR w' F' g r.take.2 ∧ Kp F w w' ∧ ∀ k, F' k → F k

theorem AllApart.mono {α : Type} {f : α → Value} {l : List α} (h : AllApart (l.map f)) (k : Nat) : AllApart ((l.take k).map f) ∧ AllApart ((l.drop k).map f) := by
  refine ⟨fun i j v u hij hv hu => ?_, fun i j v u hij hv hu => ?_⟩
  · rw [List.getElem?_map, List.getElem?_take] at hv hu
    split at hv
    · split at hu
      · exact h i j v u hij (by rw [List.getElem?_map]; exact hv) (by rw [List.getElem?_map]; exact hu)
      · simp at hu
    · simp at hv
  · rw [List.getElem?_map, List.getElem?_drop] at hv hu
    exact h (k + i) (k + j) v u (by omega) (by rw [List.getElem?_map]; exact hv) (by rw [List.getElem?_map]; exact hu)
theorem AllApart.mem {α : Type} {f : α → Value} {l : List α} (h : AllApart (l.map f)) (k : Nat) {a b : α} (ha : a ∈ l.take k) (hb : b ∈ l.drop k) : Apart (f a) (f b) := by
  obtain ⟨i, hi, rfl⟩ := List.mem_iff_getElem.1 ha
  obtain ⟨j, hj, rfl⟩ := List.mem_iff_getElem.1 hb
  rw [List.length_take] at hi
  rw [List.length_drop] at hj
  refine h i (k + j) _ _ (by omega) ?_ ?_
  · rw [List.getElem?_map, List.getElem?_eq_getElem (by omega)]; simp
  · rw [List.getElem?_map, List.getElem?_eq_getElem (by omega)]; simp

theorem TakeI.done {w wr : World} {F : Nat → Prop} {g b N c : Nat} {r : Rc} {es0 es : List Ern} {out : List (List UInt8 × Sl)} {lv : Value} (hp : PRb w F g b r es0) (h : TakeI w wr g b r es0 N out c es lv) (he : takeK c es = ([], c, es)) : TakeS r w F g (.returned lv) wr := by
  have htk := h.tk
  rw [he] at htk
  simp only [List.append_nil] at htk
  have hf := takeK_facts es0 r.came
  rw [htk] at hf
  obtain ⟨f1, f2, f3, f4⟩ := hf
  simp only at f1 f2 f3 f4
  have hon := takeK_on (fun p : List UInt8 × Sl => p.1) es0 r.came
  rw [htk] at hon
  simp only at hon
  have heq : onK (fun p : List UInt8 × Sl => p.1) es0 = r.early := hp.eq
  rw [heq] at hon
  have hokt := hp.ok.take
  have htake : r.take = (out.map (·.1), { r with came := c, early := onK (·.1) es }) := by
    unfold Rc.take
    rw [hon]
  have hgb := hp.map.off_bk hp.bk
  have heach : ∀ e ∈ es0, wr.ownsRow 0 5 1 (slV e.2.2) e.2.1.length (u8s e.2.1) := fun e he => own_kp (hp.each e he) h.kp fun k e1 e2 => by
    rcases e2 with e2 | e2
    · exact not_bk7 hp.bk (hp.each e he) (by decide) k e1 e2
    · exact hp.map.off (hp.each e he) k e1 e2
  have hsub : ∀ e ∈ es, e ∈ es0 := fun e he => by rw [f2] at he; exact List.mem_of_mem_drop he
  have hap := hp.apart.mono out.length
  have hout : ∀ x ∈ out, ∃ e ∈ es0.take out.length, e.2 = x := fun x hx => by
    have hx' : x ∈ (es0.take out.length).map (·.2) := by rw [← f3]; exact hx
    obtain ⟨e, he, rfl⟩ := List.mem_map.1 hx'
    exact ⟨e, he, rfl⟩
  have hvals : (out.map fun x => (x.1, slV x.2)).map (·.2) = out.map fun x => slV x.2 := by rw [List.map_map]; rfl
  refine ⟨lv, out.map fun x => (x.1, slV x.2), fun k => k = g ∨ k = b ∨ ∃ e ∈ es, (slV e.2.2).ownBlock = some k, rfl, ?_, ?_, ?_, ?_, ?_, ?_, ?_, ?_⟩
  · rw [htake, List.map_map]; rfl
  · rw [List.length_map, hvals]; exact h.row
  · intro x hx
    obtain ⟨y, hy, rfl⟩ := List.mem_map.1 hx
    obtain ⟨e, he, rfl⟩ := hout y hy
    exact heach e (List.mem_of_mem_take he)
  · rw [hvals]
    have : out.map (fun x => slV x.2) = (es0.take out.length).map fun e => slV e.2.2 := by
      have := congrArg (List.map fun x : List UInt8 × Sl => slV x.2) f3
      rw [this, List.map_map]; rfl
    rw [this]
    exact hap.1
  · intro x hx k hk
    obtain ⟨y, hy, rfl⟩ := List.mem_map.1 hx
    obtain ⟨e, he, rfl⟩ := hout y hy
    have hm := List.mem_of_mem_take he
    refine ⟨hp.bods e hm k hk, ?_⟩
    rintro (e1 | e1 | ⟨e2, h2, e3⟩)
    · exact not_bk7 hp.bk (hp.each e hm) (by decide) k hk e1
    · exact hp.map.off (hp.each e hm) k hk e1
    · rw [f2] at h2
      exact hp.apart.mem out.length he h2 k hk e3
  · rw [htake] at hokt ⊢
    refine ⟨b, es, h.bk, ?_, fun e he => heach e (hsub e he), ?_, rfl, hokt, .inl rfl, .inr (.inl rfl), fun e he k hk => .inr (.inr ⟨e, he, hk⟩), fun k hk => ?_⟩
    · have := h.map.tight
      rwa [onK_len] at this
    · have := hap.2
      rwa [← f2] at this
    · have hz := h.kp.size
      rcases hk with rfl | rfl | ⟨e, he, hk⟩
      · exact h.bk.lt
      · exact h.map.lt
      · exact ((heach e (hsub e he)).lt k hk).2
  · refine h.kp.mono fun k hk => ?_
    rcases hk with rfl | rfl
    · exact hp.fg
    · exact hp.fb
  · intro k hk
    rcases hk with rfl | rfl | ⟨e, he, hk⟩
    · exact hp.fg
    · exact hp.fb
    · exact hp.bods e (hsub e he) k hk

set_option maxRecDepth 100000 in
set_option maxHeartbeats 4000000 in
theorem rTake_any {w : World} {F : Nat → Prop} {g b : Nat} {r : Rc} {es0 : List Ern} (hp : PRb w F g b r es0) : Calls Try.prog 42 #[.pointer (some ⟨g, 0, none⟩)] w (TakeS r w F g) := by
  have HP := Lib.hid hp
  have hcm := hp.ok.came
  rw [← hp.len] at hcm
  have hes := hp.ok.len
  rw [← hp.len] at hes
  have hgl := hp.bk.lt
  have hbl := hp.map.lt
  have HI0 : Hid (TakeI w w g b r es0 es0.length [] r.came es0 (.slice none 0 0)) := Lib.hid ⟨Kp.refl _ _, hp.bk, hp.map, World.ownsRow_nil _ _ _ _, by simp, hp.srt, fun p h => (hp.keys p h).1, rfl⟩
  have Hcm := Lib.hid hcm
  obtain ⟨N, hN⟩ : ∃ N, N = es0.length := ⟨_, rfl⟩
  rw [← hN] at HI0 hes
  obtain ⟨i1, hi1, hy0, hy1, hy2⟩ := info_parts Try.infoBytes
  have Hi1 := Lib.hid hi1
  have Hy0 := Lib.hid hy0
  have Hy1 := Lib.hid hy1
  have Hy2 := Lib.hid hy2
  have HN := Lib.hid hN
  clear hp hcm hi1 hy0 hy1 hy2 hN
  go_enter Try.func42, Try.ntmps42
  go_wp2_with fail
  go_loopg [3] N (fun q lv wr => ∃ (out : List (List UInt8 × Sl)) (c : Nat) (es : List Ern), es.length = q ∧ Hid (TakeI w wr g b r es0 N out c es lv))
  case atStart => exact ⟨[], r.came, es0, HN.out.symm, HI0⟩
  case round =>
    obtain ⟨out, c, es, hq, hI⟩ := hrel
    have h := hI.out
    obtain ⟨C1, hC⟩ : ∃ C1, C1 = c + 1 := ⟨_, rfl⟩
    have hcb : c + es.length < 4611686018427387904 := by rw [h.sum]; exact Hcm.out
    have e1 : IntKind.u64.wrap ((c : Int) + 1) = (C1 : Int) := by rw [IntKind.wrap_u64]; omega
    have c2 : wr.cell? ⟨g, 2, none⟩ = some (.int .u64 (c : Int)) := h.bk.cell 2
    have c3 : wr.cell? ⟨g, 3, none⟩ = some (.map (some b)) := h.bk.cell 3
    have hL := h.map.look C1 (by omega)
    rw [getK_on] at hL
    cases es with
    | nil =>
      replace hL : (Instr.lookup 90 (.map (some b)) (.int .u64 (C1 : Int)) true).run Try.prog wr = .ok (.tuple #[.slice none 0 0, .bool false]) wr := hL
      have HD := Lib.hid (TakeI.done HP.out h rfl)
      clear h hI hC hcb
      go_wp2
      go_ret
      exact HD.out
    | cons p rest =>
      obtain ⟨k, x⟩ := p
      have hgh := getK_head h.srt (h.keys (k, x) (by simp))
      rw [← hC] at hgh
      rw [hgh] at hL
      by_cases hk : k = C1
      · rw [if_pos hk] at hL
        replace hL : (Instr.lookup 90 (.map (some b)) (.int .u64 (C1 : Int)) true).run Try.prog wr = .ok (.tuple #[slV x.2, .bool true]) wr := hL
        obtain ⟨w1, hrun, hm1, ht1⟩ := World.ownsMap.drop (t := 90) h.map u64Keyed Try.underlying90 (u64Key C1 (by omega)) 0
        obtain ⟨k2, f2, hM⟩ := h.mid hk hC hgl hbl hm1 ht1
        have HM2 := Lib.hid hM
        have hX := fun (w2 w3 w4 : World) (lv' : Value) => h.next (w2 := w2) (w3 := w3) (w4 := w4) (lv' := lv') hk hC hgl hbl
        obtain ⟨xA, xn, xc, hsv⟩ := slV_sl x.2
        rw [hsv] at hL hX
        have HX := Lib.hid hX
        have hol : out.length ≤ 64 := by
          have := congrArg (fun t => t.1.length) h.tk
          have f := (takeK_facts es0 r.came).2.2.2
          have hn := HN.out
          simp only [List.length_append] at this
          omega
        have hrest : rest.length + 1 = gk := by simpa using hq
        have Hone : Hid ((Value.slice xA xn xc).oneCell' = true) := Lib.hid rfl
        clear h hI hC hcb hgh hq hm1 ht1 hM hsv hX
        go_upto_region 8 with (fail)
        generalize w1.setCell ⟨g, 2, none⟩ (.int .u64 (C1 : Int)) = w2 at *
        have hrow := own_below HM2.out.row ((Below.refl w2.heap.size w2).alloc (Nat.le_refl _) (.cells #[.slice xA xn xc] 34)) (fun k e => (HM2.out.row.lt k e).2)
        have Hrow := Lib.hid hrow
        have hz := HM2.out.kp.size
        have Hz : Hid (w.heap.size ≤ (w2.alloc (.cells #[.slice xA xn xc] 34)).heap.size) := Lib.hid (by simp; omega)
        clear hrow hz k2 f2 hrun hL c2 c3
        go_wp2_with (at_builtin; go_loud (refine wpList_append_app _ rfl _ _ 33 rfl w.heap.size 34 i1 (.slice none 0 0) 1 24 Try.underlying33 Hi1.out Hy0.out Hy1.out Hy2.out rfl u3 out.length _ rfl Hrow.out (some ⟨w2.heap.size, 0, none⟩) 1 1 [.slice xA xn xc] rfl rfl (by intro e; cases e) (one_new _ _ _ rfl) (by intro u hu; simp at hu; subst hu; exact Hone.out) (by unfold maxLen; omega) (by omega) Hz.out ?_; intro v2 w4 ha; have HN4 := Lib.hid (HX.out w2 _ w4 v2 HM2.out ((Below.refl _ _).alloc (Nat.le_refl _) _) ha); clear ha))
        go_roundg (gk - 1)
        case measure => omega
        case rel => exact ⟨out ++ [x], C1, rest, by omega, HN4⟩
      · rw [if_neg hk] at hL
        replace hL : (Instr.lookup 90 (.map (some b)) (.int .u64 (C1 : Int)) true).run Try.prog wr = .ok (.tuple #[.slice none 0 0, .bool false]) wr := hL
        have HD := Lib.hid (TakeI.done HP.out h (by unfold takeK; rw [if_neg (by omega)]))
        clear h hI hC hcb hgh
        go_wp2
        go_ret
        exact HD.out
end Go.Proofs.Ytfdlhefbbhblnaa
