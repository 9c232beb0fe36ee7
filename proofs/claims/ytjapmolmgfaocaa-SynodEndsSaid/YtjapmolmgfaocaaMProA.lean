/- Of the proofs of layer 4, merged: ProA, ProB. -/
import Derived.Test.YtjapmolmgfaocaaM1ProM
import Derived.Test.YtjapmolmgfaocaaM1QuY
import Derived.Test.YtjapmolmgfaocaaM1Clone
import Derived.StillTailTactics
import Derived.BigQuiet
import Derived.Deep.QuietTactic
import Derived.Deep.RegionHeld3

/- The program's proposer: isNode, Top, Prefix, Ready, isChosen. -/
namespace Go.Proofs.Ytjapmolmgfaocaa
open Go.RowKit Go.Maps

theorem slV_slP (x : Sl) : ∃ A n c, slV x = .slice A n c := by
  obtain ⟨a, n, c⟩ := x
  cases a <;> exact ⟨_, _, _, rfl⟩
theorem bel_of_drewN {w w2 : World} {q : Nat} (h : Below (w.drewN q).heap.size (w.drewN q) w2) : Below w.heap.size w w2 := ⟨h.os, h.tape, h.output, h.size, h.block⟩
section
variable {w : World} {F : Nat → Prop} {g bt bp n c : Nat} {A : Option Addr} {p : Pp} {ts : List Tle} {ps : List Pze}
set_option maxRecDepth 100000 in
set_option maxHeartbeats 1000000 in
theorem isNode_any (h : PPm w F g bt bp A n c p ts ps) (x : Int) : Calls Try.prog 64 #[.pointer (some ⟨g, 0, none⟩), .int .i64 x] w fun e w' => e = .returned (.bool (p.isNode x)) ∧ w = w' := by
  have c1 := h.cells.2.1
  unfold Pp.isNode
  generalize p.q.nodes = nd at *
  clear h
  by_cases h1 : 0 ≤ x
  · by_cases h2 : x < nd
    · rw [decide_eq_true h1, decide_eq_true h2]
      go_enter Try.func64, Try.ntmps64
      go_wp2
      go_ret
      exact ⟨rfl, rfl⟩
    · rw [decide_eq_true h1, decide_eq_false h2]
      go_enter Try.func64, Try.ntmps64
      go_wp2
      go_ret
      exact ⟨rfl, rfl⟩
  · rw [decide_eq_false h1]
    go_enter Try.func64, Try.ntmps64
    go_wp2
    go_ret
    exact ⟨rfl, rfl⟩
theorem acc_lt (h : PPm w F g bt bp A n c p ts ps) {a : Nat} (ha : a < 2 ^ p.q.n) : a < 4294967296 := by have := pow_n p.q h.ok.right; omega
set_option maxRecDepth 100000 in
set_option maxHeartbeats 2000000 in
theorem pready_any (h : PPm w F g bt bp A n c p ts ps) : Calls Try.prog 55 #[.pointer (some ⟨g, 0, none⟩)] w fun e w' => e = .returned (.bool p.ready) ∧ Below w.heap.size w w' := by
  obtain ⟨c0, c1, c2, c3, c4, _, _, _, c8, _⟩ := h.cells
  have HF := Lib.hid (fun q => first_any p.q p.prom (acc_lt h h.ok.prom) A n c (w.drewN q) (h.drewN q).q)
  unfold Pp.ready
  generalize p.q.isQ false p.prom = r at *
  unfold qV at HF
  generalize p.prom = pm at *
  clear h
  generalize p.q = q at *
  obtain ⟨kd, nd, on, tw, l⟩ := q
  dsimp only at c0 c1 c2 c3 HF
  have HF0 := Lib.hid (HF.out 1)
  go_enter Try.func55, Try.ntmps55
  go_wp2_with fail
  go_still_tail 11, (by kernel_rfl)
  change wpList _ _ _ _ _ w.drew
  go_wp2_with fail
  refine HF0.out.mono ?_
  rintro e w2 ⟨rfl, hb2⟩
  have HB := Lib.hid hb2
  clear hb2
  go_wp2
  go_ret
  exact ⟨rfl, bel_of_drewN HB.out⟩
theorem PPm.acc (h : PPm w F g bt bp A n c p ts ps) {k : Nat} {x : Pz × (Nat × Sl)} (hm : (k, x) ∈ ps) : x.1.acc < 2 ^ p.q.n ∧ x.1.val.length ≤ 100 ∧ p.base ≤ k ∧ k < 18446744073709551616 := by
  have : (k, x.1) ∈ p.props := by rw [← h.peq]; exact List.mem_map.2 ⟨(k, x), hm, rfl⟩
  have := h.ok.props _ this
  exact ⟨this.2.2.1, this.2.2.2, this.1, this.2.1⟩
set_option maxRecDepth 100000 in
set_option maxHeartbeats 2000000 in
theorem isChosen_any (h : PPm w F g bt bp A n c p ts ps) (k : Nat) (hk : k < 18446744073709551616) : Calls Try.prog 68 #[.pointer (some ⟨g, 0, none⟩), .int .u64 (k : Int)] w fun e w' => e = .returned (.bool (p.isChosen k)) ∧ Below w.heap.size w w' := by
  obtain ⟨c0, c1, c2, c3, c4, _, _, _, _, _, _, c11, _⟩ := h.cells
  have hl := h.plook k hk
  unfold Pp.isChosen
  rcases h.pget k with ⟨e1, e2⟩ | ⟨x, hm, e1, e2⟩
  · rw [e1] at hl
    rw [e2]
    replace hl : (Instr.lookup 105 (.map (some bp)) (.int .u64 (k : Int)) false).run Try.prog w = .ok (.pointer none) w := hl
    clear h e1 e2 hk c0 c1 c2 c3 c4
    dsimp only
    go_enter Try.func68, Try.ntmps68
    go_wp2_with fail
    go_quiet (fail)
    go_wp2
    go_ret
    exact ⟨rfl, bel_drewN (Below.refl _ _) _⟩
  · rw [e1] at hl
    rw [e2]
    replace hl : (Instr.lookup 105 (.map (some bp)) (.int .u64 (k : Int)) false).run Try.prog w = .ok (.pointer (some ⟨x.2.1, 0, none⟩)) w := hl
    have a1 : w.cell? ⟨x.2.1, 1, none⟩ = some (.int .u32 (x.1.acc : Int)) := (h.peach _ hm).cell 1
    have HF := Lib.hid (second_any p.q x.1.acc (acc_lt h (h.acc hm).1) A n c (w.drewN 1) (h.drewN 1).q)
    dsimp only
    generalize p.q.isQ true x.1.acc = r at *
    generalize x.1.acc = ac at *
    generalize x.2.1 = gx at *
    unfold qV at HF
    clear h e1 e2 hk hm
    generalize p.q = q at *
    obtain ⟨kd, nd, on, tw, l⟩ := q
    dsimp only at c0 c1 c2 c3 HF
    go_enter Try.func68, Try.ntmps68
    go_wp2_with fail
    go_still_tail 11, (by kernel_rfl)
    change wpList _ _ _ _ _ w.drew
    go_wp2_with fail
    refine HF.out.mono ?_
    rintro e w2 ⟨rfl, hb2⟩
    have HB := Lib.hid hb2
    clear hb2
    go_wp2
    go_ret
    exact ⟨rfl, bel_of_drewN HB.out⟩
/-- What Must and Chosen give: a copy, and whether there is one. -/
def GiveR (o : Option (List UInt8)) (w : World) (e : Ending) (w' : World) : Prop := ∃ v, e = .returned (.tuple #[v, .bool o.isSome]) ∧ w'.ownsRow w.heap.size 5 1 v (o.getD []).length (u8s (o.getD [])) ∧ Below w.heap.size w w'
set_option maxRecDepth 100000 in
set_option maxHeartbeats 2000000 in
theorem pmust_any (h : PPm w F g bt bp A n c p ts ps) (k : Nat) (hk : k < 18446744073709551616) : Calls Try.prog 67 #[.pointer (some ⟨g, 0, none⟩), .int .u64 (k : Int)] w (GiveR (p.must k) w) := by
  obtain ⟨_, _, _, _, _, _, _, _, _, c9, _⟩ := h.cells
  have hl := h.tlook k hk
  unfold Pp.must
  rcases h.tget k with ⟨e1, e2⟩ | ⟨x, hm, e1, e2⟩
  · rw [e1] at hl
    rw [e2]
    replace hl : (Instr.lookup 104 (.map (some bt)) (.int .u64 (k : Int)) true).run Try.prog w = .ok (.tuple #[.agg #[.int .i64 0, .int .u64 0, .int .i64 0, .slice none 0 0], .bool false]) w := hl
    have HC := Lib.hid (fun W => cloneB_any none 0 0 0 [] W (by omega) (Nat.zero_le _) (Rd.nil _ _ _))
    have HB1 : Hid (∀ o, Below w.heap.size w (w.alloc o)) := Lib.hid fun o => (Below.refl _ _).alloc (Nat.le_refl _) o
    clear h e1 e2 hk
    go_enter Try.func67, Try.ntmps67
    go_wp2_with fail
    refine (HC.out _).mono ?_
    rintro e w2 ⟨v, rfl, ho, hb2⟩
    have HD : Hid (GiveR (Option.map (fun x => x.val) (none : Option Tl)) w (.returned (.tuple #[v, .bool false])) w2) := Lib.hid ⟨v, rfl, own_mono ho (HB1.out _).size, below_then (HB1.out _) hb2⟩
    clear ho hb2 hl
    go_wp2
    go_ret2
    exact HD.out
  · rw [e1] at hl
    rw [e2]
    obtain ⟨⟨nd, ⟨bn, bd⟩, l⟩, s⟩ := x
    obtain ⟨xA, xn, xc, hsv⟩ := slV_slP s
    have ho := h.teach _ hm
    dsimp only at ho
    rw [hsv] at ho
    have hl2 : l.length ≤ 100 := by
      have : (k, (⟨nd, ⟨bn, bd⟩, l⟩ : Tl)) ∈ p.told := by rw [← h.teq]; exact List.mem_map.2 ⟨_, hm, rfl⟩
      exact (h.ok.told _ this).2.2.2.2.2
    obtain rfl : l.length = xn := by
      have := own_shape ho
      obtain ⟨_, _, e, _⟩ := this
      injection e with _ e _
      exact e.symm
    have hrd := Rd.of_own ho
    replace hl : (Instr.lookup 104 (.map (some bt)) (.int .u64 (k : Int)) true).run Try.prog w = .ok (.tuple #[.agg #[.int .i64 (nd : Int), .int .u64 (bn : Int), .int .i64 bd, .slice xA l.length xc], .bool true]) w := by rw [← hsv]; exact hl
    have HC := Lib.hid (fun W (hb : Below w.heap.size w W) => cloneB_any xA l.length xc w.heap.size l W (by omega) hb.size (hrd.below hb))
    have HB1 : Hid (∀ o, Below w.heap.size w (w.alloc o)) := Lib.hid fun o => (Below.refl _ _).alloc (Nat.le_refl _) o
    clear h e1 e2 hk hm hrd ho hsv hl2
    go_enter Try.func67, Try.ntmps67
    go_wp2_with fail
    refine (HC.out _ (HB1.out _)).mono ?_
    rintro e w2 ⟨v, rfl, ho, hb2⟩
    have HD : Hid (GiveR (Option.map (fun x => x.val) (some (⟨nd, ⟨bn, bd⟩, l⟩ : Tl))) w (.returned (.tuple #[v, .bool true])) w2) := Lib.hid ⟨v, rfl, own_mono ho (HB1.out _).size, below_then (HB1.out _) hb2⟩
    clear ho hb2 hl
    go_wp2
    go_ret2
    exact HD.out
set_option maxRecDepth 100000 in
set_option maxHeartbeats 2000000 in
theorem pchosen_any (h : PPm w F g bt bp A n c p ts ps) (k : Nat) (hk : k < 18446744073709551616) : Calls Try.prog 59 #[.pointer (some ⟨g, 0, none⟩), .int .u64 (k : Int)] w (GiveR (p.chosen k) w) := by
  have HI := Lib.hid (isChosen_any h k hk)
  have he : p.isChosen k = (p.chosen k).isSome := by
    unfold Pp.isChosen Pp.chosen
    split
    · rfl
    · split <;> simp_all
  cases hch : p.chosen k with
  | none =>
    rw [hch] at he
    rw [he] at HI
    clear h he hch hk
    go_enter Try.func59, Try.ntmps59
    go_wp2_with fail
    refine HI.out.mono ?_
    rintro e w2 ⟨rfl, hb2⟩
    have HD : Hid (GiveR none w (.returned (.tuple #[.slice none 0 0, .bool false])) w2) := Lib.hid ⟨_, rfl, World.ownsRow_nil _ _ _ _, hb2⟩
    clear hb2
    go_wp2
    go_ret2
    exact HD.out
  | some v0 =>
    rw [hch] at he
    rw [he] at HI
    obtain ⟨x, hm, e1, e2⟩ : ∃ x, (k, x) ∈ ps ∧ getK (onK pzM ps) k = some (some x.2.1) ∧ x.1.val = v0 := by
      rcases h.pget k with ⟨e1, e2⟩ | ⟨x, hm, e1, e2⟩
      · unfold Pp.chosen at hch
        rw [e2] at hch
        cases hch
      · refine ⟨x, hm, e1, ?_⟩
        unfold Pp.chosen at hch
        rw [e2] at hch
        dsimp only at hch
        split at hch
        · injection hch
        · cases hch
    obtain ⟨xA, xn, xc, hsv⟩ := slV_slP x.2.2
    have ho := h.pval _ hm
    dsimp only at ho
    rw [hsv, e2] at ho
    have hl2 := (h.acc hm).2.1
    rw [e2] at hl2
    obtain rfl : v0.length = xn := by
      have := own_shape ho
      obtain ⟨_, _, e, _⟩ := this
      injection e with _ e _
      exact e.symm
    have hrd := Rd.of_own ho
    have HC := Lib.hid (fun W (hb : Below w.heap.size w W) => cloneB_any xA v0.length xc w.heap.size v0 W (by omega) hb.size (hrd.below hb))
    have HX : Hid (∀ W, Below w.heap.size w W → W.cell? ⟨g, 11, none⟩ = some (.map (some bp)) ∧ (Instr.lookup 105 (.map (some bp)) (.int .u64 (k : Int)) false).run Try.prog W = .ok (.pointer (some ⟨x.2.1, 0, none⟩)) W ∧ W.cell? ⟨x.2.1, 0, none⟩ = some (.slice xA v0.length xc)) := Lib.hid fun W hb => by
      have h2 := h.below hb
      refine ⟨h2.bk.cell 11, ?_, ?_⟩
      · have := h2.plook k hk
        rw [e1] at this
        exact this
      · have := (h2.peach _ hm).cell 0
        rw [← hsv]
        exact this
    generalize x.2.1 = gx at *
    clear h he hch hk hm hrd ho hsv hl2 e1 e2
    go_enter Try.func59, Try.ntmps59
    go_wp2_with fail
    refine HI.out.mono ?_
    rintro e w2 ⟨rfl, hb2⟩
    obtain ⟨k1, k2, k3⟩ := HX.out w2 hb2
    have HB2 := Lib.hid hb2
    clear hb2
    go_wp2_with fail
    refine (HC.out _ HB2.out).mono ?_
    rintro e w3 ⟨v, rfl, ho, hb3⟩
    have HD : Hid (GiveR (some v0) w (.returned (.tuple #[v, .bool true])) w3) := Lib.hid ⟨v, rfl, own_mono ho HB2.out.size, below_then HB2.out hb3⟩
    clear ho hb3 k1 k2 k3
    go_wp2
    go_ret2
    exact HD.out
end
end Go.Proofs.Ytjapmolmgfaocaa

/- The program's proposer: what turns of it, in memory. -/
namespace Go.Proofs.Ytjapmolmgfaocaa
open Go.RowKit Go.Maps

section
variable {β γ : Type}
theorem putK_on (f : β → γ) (k : Nat) (v : β) (L : List (Nat × β)) : onK f (putK k v L) = putK k (f v) (onK f L) := by
  unfold putK
  rw [insK_on, delK_on]
theorem insK_front (x : Nat × β) : ∀ L : List (Nat × β), (∀ p ∈ L, x.1 < p.1) → insK x L = x :: L
  | [], _ => rfl
  | y :: r, h => by
    unfold insK
    rw [if_pos (h y (List.mem_cons_self ..))]
theorem putK_same {k : Nat} {v : β} : ∀ {L : List (Nat × β)}, SrtK L → getK L k = some v → putK k v L = L
  | [], _, h => by cases h
  | y :: r, hs, h => by
    have hs' := hs
    unfold SrtK at hs
    rw [List.pairwise_cons] at hs
    by_cases hk : y.1 = k
    · have e : y = (k, v) := by
        unfold getK at h
        have h1 : (y.1 == k) = true := by simpa using hk
        simp only [List.find?_cons, h1] at h
        have h2 : y.2 = v := by simpa using h
        exact Prod.ext hk h2
      subst e
      unfold putK
      have e2 : delK k ((k, v) :: r) = r := delK_head hs'
      rw [e2]
      exact insK_front (k, v) r hs.1
    · have h1 : (y.1 == k) = false := by simpa using hk
      have h2 : getK r k = some v := by
        unfold getK at h ⊢
        simpa only [List.find?_cons, h1] using h
      have ih := putK_same (L := r) hs.2 h2
      have hlt : y.1 < k := hs.1 _ (getK_mem h2)
      unfold putK at ih ⊢
      have e2 : delK k (y :: r) = y :: delK k r := by
        unfold delK
        simp [h1]
      rw [e2]
      show (if k < y.1 then _ else y :: insK (k, v) (delK k r)) = y :: r
      rw [if_neg (by omega), ih]
end
section
variable {w w' : World} {F G : Nat → Prop} {g bt bp n c : Nat} {A : Option Addr} {p : Pp} {ts : List Tle} {ps : List Pze}
theorem PPm.gt (h : PPm w F g bt bp A n c p ts ps) : g ≠ bt ∧ g ≠ bp := ⟨h.tmap.off_bk h.bk, h.pmap.off_bk h.bk⟩
theorem bk_types {w : World} {g g' : Nat} {t t' : TypeId} {cs cs' : Array Value} (h : Bk w g t cs) (h' : Bk w g' t' cs') (hne : t ≠ t') : g ≠ g' := by
  rintro rfl
  unfold Bk at h h'
  rw [h] at h'
  injection h' with h'
  injection h' with _ h'
  exact hne h'
theorem bk_off {w : World} {g : Nat} {t : TypeId} {cs : Array Value} (h : Bk w g t cs) {base e size n : Nat} {v : Value} {xs : List Value} (ho : w.ownsRow base e size v n xs) (hne : t ≠ e) : ∀ k, v.ownBlock = some k → k ≠ g := by
  rintro k e1 rfl
  rcases ho.2 with ⟨rfl, _⟩ | ⟨g', cap, cur, rfl, _, hh, _⟩
  · cases e1
  · simp only [Value.ownBlock, Option.some.injEq] at e1
    subst e1
    unfold Bk at h
    rw [h] at hh
    injection hh with hh
    injection hh with _ hh
    exact hne hh
theorem PPm.tput (h : PPm w F g bt bp A n c p ts ps) {k : Nat} (hk : k < 18446744073709551616) {t : Tl} {s : Sl} (ho : w.ownsRow 0 5 1 (slV s) t.val.length (u8s t.val)) (hn : p.told.length < maxLen) (hok : Pp.Ok { p with told := putK k t p.told }) :
    ∃ w', (Instr.mapUpdate 104 (.map (some bt)) (.int .u64 (k : Int)) (tmV (t.node, t.bal, s))).run Try.prog w = .ok () w' ∧
      PPm w' (fun j => F j ∨ (slV s).ownBlock = some j) g bt bp A n c { p with told := putK k t p.told } (putK k (t, s) ts) ps ∧ Kp (fun j => j = bt) w w' := by
  obtain ⟨w', hrun, hm, hkp⟩ := h.tmap.put Try.underlying104 (by rw [onK_len, h.len.1]; exact hn) k hk (t.node, t.bal, s)
  have hT : OwnB tmE w' bt (putK k (t, s) ts).length (onK tlM (putK k (t, s) ts)) := by
    rw [putK_on]
    have e : (putK k (t, s) ts).length = (putK k (tlM (t, s)) (onK tlM ts)).length := by rw [← putK_on, onK_len]
    rw [e]
    exact hm
  refine ⟨w', hrun, ⟨h.bk.kp hkp h.gt.1, ?_, hT, h.pmap.kp hkp (fun e => h.tne e.symm), fun e he => ?_, fun e he => (h.peach e he).kp hkp (h.tmap.off_bk (h.peach e he)), fun e he => own_kp (h.pval e he) hkp (fun j e1 e2 => h.tmap.off (h.pval e he) j e1 e2), h.pinj, ?_, h.peq, hok, h.qi, .inl h.fg, .inl h.ft, .inl h.fp, h.tne, fun e he j hj => ?_, fun e he => .inl (h.pf e he), fun e he j hj => .inl (h.vf e he j hj), fun j hj => ?_⟩, hkp⟩
  · exact h.sit.keep hkp (fun hn j e1 e2 => h.tmap.off (h.sit.own hn) j e1 e2) (fun _ h => .inl h)
  · rcases putK_mem he with rfl | ⟨he, _⟩
    · exact own_kp ho hkp (fun j e1 e2 => h.tmap.off ho j e1 e2)
    · exact own_kp (h.teach e he) hkp (fun j e1 e2 => h.tmap.off (h.teach e he) j e1 e2)
  · rw [putK_on, h.teq]
  · rcases putK_mem he with rfl | ⟨he, _⟩
    · exact .inr hj
    · exact .inl (h.tf e he j hj)
  · rcases hj with hj | hj
    · exact Nat.lt_of_lt_of_le (h.lt j hj) hkp.size
    · exact Nat.lt_of_lt_of_le (ho.lt j hj).2 hkp.size
theorem PPm.pput (h : PPm w F g bt bp A n c p ts ps) {k : Nat} (hk : k < 18446744073709551616) {z : Pz} {gz : Nat} {s : Sl} (ho : w.ownsRow 0 5 1 (slV s) z.val.length (u8s z.val)) (hz : Bk w gz 122 (pzA (z, (gz, s)))) (hnew : ∀ e ∈ ps, e.2.2.1 ≠ gz)
    (hn : p.props.length < maxLen) (hok : Pp.Ok { p with props := putK k z p.props }) :
    ∃ w', (Instr.mapUpdate 105 (.map (some bp)) (.int .u64 (k : Int)) (.pointer (some ⟨gz, 0, none⟩))).run Try.prog w = .ok () w' ∧
      PPm w' (fun j => F j ∨ j = gz ∨ (slV s).ownBlock = some j) g bt bp A n c { p with props := putK k z p.props } ts (putK k (z, (gz, s)) ps) ∧ Kp (fun j => j = bp) w w' := by
  obtain ⟨w', hrun, hm, hkp⟩ := h.pmap.put Try.underlying105 (by rw [onK_len, h.len.2]; exact hn) k hk (some gz)
  have hT : OwnB prE w' bp (putK k (z, (gz, s)) ps).length (onK pzM (putK k (z, (gz, s)) ps)) := by
    rw [putK_on]
    have e : (putK k (z, (gz, s)) ps).length = (putK k (pzM (z, (gz, s))) (onK pzM ps)).length := by rw [← putK_on, onK_len]
    rw [e]
    exact hm
  refine ⟨w', hrun, ⟨h.bk.kp hkp h.gt.2, ?_, h.tmap.kp hkp h.tne, hT, fun e he => own_kp (h.teach e he) hkp (fun j e1 e2 => h.pmap.off (h.teach e he) j e1 e2), fun e he => ?_, fun e he => ?_, fun e he e' he' hee => ?_, h.teq, ?_, hok, h.qi, .inl h.fg, .inl h.ft, .inl h.fp, h.tne, fun e he j hj => .inl (h.tf e he j hj), fun e he => ?_, fun e he j hj => ?_, fun j hj => ?_⟩, hkp⟩
  · exact h.sit.keep hkp (fun hn j e1 e2 => h.pmap.off (h.sit.own hn) j e1 e2) (fun _ h => .inl h)
  · rcases putK_mem he with rfl | ⟨he, _⟩
    · exact hz.kp hkp (h.pmap.off_bk hz)
    · exact (h.peach e he).kp hkp (h.pmap.off_bk (h.peach e he))
  · rcases putK_mem he with rfl | ⟨he, _⟩
    · exact own_kp ho hkp (fun j e1 e2 => h.pmap.off ho j e1 e2)
    · exact own_kp (h.pval e he) hkp (fun j e1 e2 => h.pmap.off (h.pval e he) j e1 e2)
  · rcases putK_mem he with rfl | ⟨he, _⟩
    · rcases putK_mem he' with rfl | ⟨he', _⟩
      · rfl
      · exact absurd hee.symm (hnew e' he')
    · rcases putK_mem he' with rfl | ⟨he', _⟩
      · exact absurd hee (hnew e he)
      · exact h.pinj e he e' he' hee
  · rw [putK_on, h.peq]
  · rcases putK_mem he with rfl | ⟨he, _⟩
    · exact .inr (.inl rfl)
    · exact .inl (h.pf e he)
  · rcases putK_mem he with rfl | ⟨he, _⟩
    · exact .inr (.inr hj)
    · exact .inl (h.vf e he j hj)
  · rcases hj with hj | rfl | hj
    · exact Nat.lt_of_lt_of_le (h.lt j hj) hkp.size
    · exact Nat.lt_of_lt_of_le hz.lt hkp.size
    · exact Nat.lt_of_lt_of_le (ho.lt j hj).2 hkp.size
/-- Cells of the proposer's own block are written. -/
theorem PPm.turn (h : PPm w F g bt bp A n c p ts ps) {p' : Pp} (hb : Bk w' g 108 (ppA p' (.slice A n c) bt bp)) (hk : Kp (fun j => j = g) w w') (hq : p'.q = p.q) (ht : p'.told = p.told) (hp : p'.props = p.props) (hok : p'.Ok) : PPm w' F g bt bp A n c p' ts ps := by
  refine ⟨hb, ?_, h.tmap.kp hk (fun e => h.gt.1 e.symm), h.pmap.kp hk (fun e => h.gt.2 e.symm), fun e he => own_kp (h.teach e he) hk (bk_off h.bk (h.teach e he) (by decide)), fun e he => (h.peach e he).kp hk (bk_types (h.peach e he) h.bk (by decide)), fun e he => own_kp (h.pval e he) hk (bk_off h.bk (h.pval e he) (by decide)), h.pinj, by rw [ht]; exact h.teq, by rw [hp]; exact h.peq, hok, by rw [hq]; exact h.qi, h.fg, h.ft, h.fp, h.tne, h.tf, h.pf, h.vf, fun j hj => Nat.lt_of_lt_of_le (h.lt j hj) hk.size⟩
  rw [hq]
  exact h.sit.keep hk (fun hn => bk_off h.bk (h.sit.own hn) (by decide)) (fun _ h => h)
/-- A node more has accepted. -/
theorem PPm.aput (h : PPm w F g bt bp A n c p ts ps) {k : Nat} {x : Pz × (Nat × Sl)} (hx : (k, x) ∈ ps) (a : Nat) (hok : Pp.Ok { p with props := putK k ⟨x.1.val, a⟩ p.props }) :
    PPm (w.setCell ⟨x.2.1, 1, none⟩ (.int .u32 (a : Int))) F g bt bp A n c { p with props := putK k ⟨x.1.val, a⟩ p.props } ts (putK k (⟨x.1.val, a⟩, x.2) ps) := by
  have hkp : Kp (fun j => j = x.2.1) w (w.setCell ⟨x.2.1, 1, none⟩ (.int .u32 (a : Int))) := Kp.set_ (F := fun j => j = x.2.1) (p := ⟨x.2.1, 1, none⟩) rfl _
  have hb := h.peach _ hx
  have hs : SrtK ps := by have := h.ok.psrt; rw [← h.peq] at this; exact this.on
  have hget : getK ps k = some x := getK_of_mem hs hx
  have hpm : onK pzM (putK k (⟨x.1.val, a⟩, x.2) ps) = onK pzM ps := by
    rw [putK_on]
    refine putK_same (SrtK.on (f := fun _ => ()) ?_) (by rw [getK_on, hget]; rfl)
    unfold SrtK onK at *
    rw [List.map_map, List.pairwise_map]
    exact hs
  refine ⟨h.bk.kp hkp (bk_types h.bk hb (by decide)), h.sit.keep hkp (fun hn => bk_off hb (h.sit.own hn) (by decide)) (fun _ h => h), h.tmap.kp hkp (fun e => h.tmap.off_bk hb e.symm), ?_, fun e he => own_kp (h.teach e he) hkp (bk_off hb (h.teach e he) (by decide)), fun e he => ?_, fun e he => ?_, fun e he e' he' hee => ?_, h.teq, by rw [putK_on, h.peq], hok, h.qi, h.fg, h.ft, h.fp, h.tne, h.tf, fun e he => ?_, fun e he j hj => ?_, fun j hj => Nat.lt_of_lt_of_le (h.lt j hj) hkp.size⟩
  · rw [hpm]
    have := (h.pmap.kp hkp (fun e => h.pmap.off_bk hb e.symm)).tight
    have e2 : (putK k (⟨x.1.val, a⟩, x.2) ps).length = (onK pzM ps).length := by rw [← hpm, onK_len]
    rw [e2]
    exact this
  · rcases putK_mem he with rfl | ⟨he, hne⟩
    · exact hb.set_ 1 _
    · exact (h.peach e he).kp hkp (fun e2 => hne (by have := h.pinj e he (k, x) hx e2; rw [this]))
  · rcases putK_mem he with rfl | ⟨he, _⟩
    · have hv := own_kp (h.pval (k, x) hx) hkp (bk_off hb (h.pval (k, x) hx) (by decide))
      exact hv
    · exact own_kp (h.pval e he) hkp (bk_off hb (h.pval e he) (by decide))
  · rcases putK_mem he with rfl | ⟨he, hne⟩
    · rcases putK_mem he' with rfl | ⟨he', hne'⟩
      · rfl
      · exact absurd (h.pinj _ hx e' he' hee) (fun e2 => hne' (by rw [← e2]))
    · rcases putK_mem he' with rfl | ⟨he', hne'⟩
      · exact absurd (h.pinj e he _ hx hee) (fun e2 => hne (by rw [e2]))
      · exact h.pinj e he e' he' hee
  · rcases putK_mem he with rfl | ⟨he, _⟩
    · exact h.pf (k, x) hx
    · exact h.pf e he
  · rcases putK_mem he with rfl | ⟨he, _⟩
    · exact h.vf (k, x) hx j hj
    · exact h.vf e he j hj
end
end Go.Proofs.Ytjapmolmgfaocaa
