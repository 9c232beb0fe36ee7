/- The program's proposer: isNode, Top, Prefix, Ready, isChosen. -/
import Derived.Test.YthkkkldkpdkabaaProM
import Derived.Test.YthkkkldkpdkabaaQuY
import Derived.Test.YthkkkldkpdkabaaClone
import Derived.StillTailTactics
import Derived.BigQuiet
import Derived.Deep.QuietTactic
import Derived.Deep.RegionHeld3
namespace Go.Proofs.Ythkkkldkpdkabaa
open Go.RowKit Go.Maps

theorem slV_slP (x : Sl) : ∃ A n c, slV x = .slice A n c := by
  obtain ⟨a, n, c⟩ := x
  cases a <;> exact ⟨_, _, _, rfl⟩
theorem bel_of_drewN {w w2 : World} {q : Nat} (h : Below (w.drewN q).heap.size (w.drewN q) w2) : Below w.heap.size w w2 := ⟨h.os, h.tape, h.output, h.size, h.block⟩
section
variable {w : World} {F : Nat → Prop} {g bt bp n c : Nat} {A : Option Addr} {p : Pp} {ts : List Tle} {ps : List Pze}
set_option maxRecDepth 100000 in
set_option maxHeartbeats 1000000 in
theorem isNode_any (h : PPm w F g bt bp A n c p ts ps) (x : Int) : Calls Try.prog 48 #[.pointer (some ⟨g, 0, none⟩), .int .i64 x] w fun e w' => e = .returned (.bool (p.isNode x)) ∧ w = w' := by
  have c1 := h.cells.2.1
  unfold Pp.isNode
  generalize p.q.nodes = nd at *
  clear h
  by_cases h1 : 0 ≤ x
  · by_cases h2 : x < nd
    · rw [decide_eq_true h1, decide_eq_true h2]
      go_enter Try.func48, Try.ntmps48
      go_wp2
      go_ret
      exact ⟨rfl, rfl⟩
    · rw [decide_eq_true h1, decide_eq_false h2]
      go_enter Try.func48, Try.ntmps48
      go_wp2
      go_ret
      exact ⟨rfl, rfl⟩
  · rw [decide_eq_false h1]
    go_enter Try.func48, Try.ntmps48
    go_wp2
    go_ret
    exact ⟨rfl, rfl⟩
set_option maxRecDepth 100000 in
set_option maxHeartbeats 1000000 in
theorem ptop_any (h : PPm w F g bt bp A n c p ts ps) : Calls Try.prog 30 #[.pointer (some ⟨g, 0, none⟩)] w fun e w' => e = .returned (.int .u64 (p.top : Int)) ∧ w = w' := by
  have c1 := h.cells.2.2.2.2.2.2.2.2.2.2.1
  clear h
  go_enter Try.func30, Try.ntmps30
  go_wp2
  go_ret
  exact ⟨rfl, rfl⟩
set_option maxRecDepth 100000 in
set_option maxHeartbeats 1000000 in
theorem pprefix_any (h : PPm w F g bt bp A n c p ts ps) : Calls Try.prog 29 #[.pointer (some ⟨g, 0, none⟩)] w fun e w' => e = .returned (.int .u64 (p.pre : Int)) ∧ w = w' := by
  have c1 := h.cells.2.2.2.2.2.2.2.2.2.2.2.2
  clear h
  go_enter Try.func29, Try.ntmps29
  go_wp2
  go_ret
  exact ⟨rfl, rfl⟩
theorem acc_lt (h : PPm w F g bt bp A n c p ts ps) {a : Nat} (ha : a < 2 ^ p.q.n) : a < 4294967296 := by have := pow_n p.q h.ok.right; omega
set_option maxRecDepth 100000 in
set_option maxHeartbeats 2000000 in
theorem pready_any (h : PPm w F g bt bp A n c p ts ps) : Calls Try.prog 19 #[.pointer (some ⟨g, 0, none⟩)] w fun e w' => e = .returned (.bool p.ready) ∧ Below w.heap.size w w' := by
  obtain ⟨c0, c1, c2, c3, c4, _, _, _, c8, _⟩ := h.cells
  have HF := Lib.hid (fun q => first_any p.q p.prom (acc_lt h h.ok.prom) A n c (w.drewN q) (h.drewN q).q)
  unfold Pp.ready
  generalize p.q.isQ false p.prom = r at *
  unfold qV at HF
  generalize p.prom = pm at *
  clear h
  generalize p.q = q at *
  obtain ⟨kd, nd, on, tw, l⟩ := q
  dsimp only at c0 c1 c2 c3 HF
  have HF0 := Lib.hid (HF.out 1)
  go_enter Try.func19, Try.ntmps19
  go_wp2_with fail
  go_still_tail 11, (by kernel_rfl)
  change wpList _ _ _ _ _ w.drew
  go_wp2_with fail
  refine HF0.out.mono ?_
  rintro e w2 ⟨rfl, hb2⟩
  have HB := Lib.hid hb2
  clear hb2
  go_wp2
  go_ret
  exact ⟨rfl, bel_of_drewN HB.out⟩
theorem PPm.acc (h : PPm w F g bt bp A n c p ts ps) {k : Nat} {x : Pz × (Nat × Sl)} (hm : (k, x) ∈ ps) : x.1.acc < 2 ^ p.q.n ∧ x.1.val.length ≤ 100 ∧ p.base ≤ k ∧ k < 18446744073709551616 := by
  have : (k, x.1) ∈ p.props := by rw [← h.peq]; exact List.mem_map.2 ⟨(k, x), hm, rfl⟩
  have := h.ok.props _ this
  exact ⟨this.2.2.1, this.2.2.2, this.1, this.2.1⟩
set_option maxRecDepth 100000 in
set_option maxHeartbeats 2000000 in
theorem isChosen_any (h : PPm w F g bt bp A n c p ts ps) (k : Nat) (hk : k < 18446744073709551616) : Calls Try.prog 53 #[.pointer (some ⟨g, 0, none⟩), .int .u64 (k : Int)] w fun e w' => e = .returned (.bool (p.isChosen k)) ∧ Below w.heap.size w w' := by
  obtain ⟨c0, c1, c2, c3, c4, _, _, _, _, _, _, c11, _⟩ := h.cells
  have hl := h.plook k hk
  unfold Pp.isChosen
  rcases h.pget k with ⟨e1, e2⟩ | ⟨x, hm, e1, e2⟩
  · rw [e1] at hl
    rw [e2]
    replace hl : (Instr.lookup 79 (.map (some bp)) (.int .u64 (k : Int)) false).run Try.prog w = .ok (.pointer none) w := hl
    clear h e1 e2 hk c0 c1 c2 c3 c4
    dsimp only
    go_enter Try.func53, Try.ntmps53
    go_wp2_with fail
    go_quiet (fail)
    go_wp2
    go_ret
    exact ⟨rfl, bel_drewN (Below.refl _ _) _⟩
  · rw [e1] at hl
    rw [e2]
    replace hl : (Instr.lookup 79 (.map (some bp)) (.int .u64 (k : Int)) false).run Try.prog w = .ok (.pointer (some ⟨x.2.1, 0, none⟩)) w := hl
    have a1 : w.cell? ⟨x.2.1, 1, none⟩ = some (.int .u32 (x.1.acc : Int)) := (h.peach _ hm).cell 1
    have HF := Lib.hid (second_any p.q x.1.acc (acc_lt h (h.acc hm).1) A n c (w.drewN 1) (h.drewN 1).q)
    dsimp only
    generalize p.q.isQ true x.1.acc = r at *
    generalize x.1.acc = ac at *
    generalize x.2.1 = gx at *
    unfold qV at HF
    clear h e1 e2 hk hm
    generalize p.q = q at *
    obtain ⟨kd, nd, on, tw, l⟩ := q
    dsimp only at c0 c1 c2 c3 HF
    go_enter Try.func53, Try.ntmps53
    go_wp2_with fail
    go_still_tail 11, (by kernel_rfl)
    change wpList _ _ _ _ _ w.drew
    go_wp2_with fail
    refine HF.out.mono ?_
    rintro e w2 ⟨rfl, hb2⟩
    have HB := Lib.hid hb2
    clear hb2
    go_wp2
    go_ret
    exact ⟨rfl, bel_of_drewN HB.out⟩
/-- What Must and Chosen give: a copy, and whether there is one. -/
def GiveR (o : Option (List UInt8)) (w : World) (e : Ending) (w' : World) : Prop := ∃ v, e = .returned (.tuple #[v, .bool o.isSome]) ∧ w'.ownsRow w.heap.size 5 1 v (o.getD []).length (u8s (o.getD [])) ∧ Below w.heap.size w w'
set_option maxRecDepth 100000 in
set_option maxHeartbeats 2000000 in
theorem pmust_any (h : PPm w F g bt bp A n c p ts ps) (k : Nat) (hk : k < 18446744073709551616) : Calls Try.prog 17 #[.pointer (some ⟨g, 0, none⟩), .int .u64 (k : Int)] w (GiveR (p.must k) w) := by
  obtain ⟨_, _, _, _, _, _, _, _, _, c9, _⟩ := h.cells
  have hl := h.tlook k hk
  unfold Pp.must
  rcases h.tget k with ⟨e1, e2⟩ | ⟨x, hm, e1, e2⟩
  · rw [e1] at hl
    rw [e2]
    replace hl : (Instr.lookup 78 (.map (some bt)) (.int .u64 (k : Int)) true).run Try.prog w = .ok (.tuple #[.agg #[.int .i64 0, .int .u64 0, .int .i64 0, .slice none 0 0], .bool false]) w := hl
    have HC := Lib.hid (fun W => cloneB_any none 0 0 0 [] W (by omega) (Nat.zero_le _) (Rd.nil _ _ _))
    have HB1 : Hid (∀ o, Below w.heap.size w (w.alloc o)) := Lib.hid fun o => (Below.refl _ _).alloc (Nat.le_refl _) o
    clear h e1 e2 hk
    go_enter Try.func17, Try.ntmps17
    go_wp2_with fail
    refine (HC.out _).mono ?_
    rintro e w2 ⟨v, rfl, ho, hb2⟩
    have HD : Hid (GiveR (Option.map (fun x => x.val) (none : Option Tl)) w (.returned (.tuple #[v, .bool false])) w2) := Lib.hid ⟨v, rfl, own_mono ho (HB1.out _).size, below_then (HB1.out _) hb2⟩
    clear ho hb2 hl
    go_wp2
    go_ret2
    exact HD.out
  · rw [e1] at hl
    rw [e2]
    obtain ⟨⟨nd, ⟨bn, bd⟩, l⟩, s⟩ := x
    obtain ⟨xA, xn, xc, hsv⟩ := slV_slP s
    have ho := h.teach _ hm
    dsimp only at ho
    rw [hsv] at ho
    have hl2 : l.length ≤ 100 := by
      have : (k, (⟨nd, ⟨bn, bd⟩, l⟩ : Tl)) ∈ p.told := by rw [← h.teq]; exact List.mem_map.2 ⟨_, hm, rfl⟩
      exact (h.ok.told _ this).2.2.2.2.2
    obtain rfl : l.length = xn := by
      have := own_shape ho
      obtain ⟨_, _, e, _⟩ := this
      injection e with _ e _
      exact e.symm
    have hrd := Rd.of_own ho
    replace hl : (Instr.lookup 78 (.map (some bt)) (.int .u64 (k : Int)) true).run Try.prog w = .ok (.tuple #[.agg #[.int .i64 (nd : Int), .int .u64 (bn : Int), .int .i64 bd, .slice xA l.length xc], .bool true]) w := by rw [← hsv]; exact hl
    have HC := Lib.hid (fun W (hb : Below w.heap.size w W) => cloneB_any xA l.length xc w.heap.size l W (by omega) hb.size (hrd.below hb))
    have HB1 : Hid (∀ o, Below w.heap.size w (w.alloc o)) := Lib.hid fun o => (Below.refl _ _).alloc (Nat.le_refl _) o
    clear h e1 e2 hk hm hrd ho hsv hl2
    go_enter Try.func17, Try.ntmps17
    go_wp2_with fail
    refine (HC.out _ (HB1.out _)).mono ?_
    rintro e w2 ⟨v, rfl, ho, hb2⟩
    have HD : Hid (GiveR (Option.map (fun x => x.val) (some (⟨nd, ⟨bn, bd⟩, l⟩ : Tl))) w (.returned (.tuple #[v, .bool true])) w2) := Lib.hid ⟨v, rfl, own_mono ho (HB1.out _).size, below_then (HB1.out _) hb2⟩
    clear ho hb2 hl
    go_wp2
    go_ret2
    exact HD.out
set_option maxRecDepth 100000 in
set_option maxHeartbeats 2000000 in
theorem pchosen_any (h : PPm w F g bt bp A n c p ts ps) (k : Nat) (hk : k < 18446744073709551616) : Calls Try.prog 25 #[.pointer (some ⟨g, 0, none⟩), .int .u64 (k : Int)] w (GiveR (p.chosen k) w) := by
  have HI := Lib.hid (isChosen_any h k hk)
  have he : p.isChosen k = (p.chosen k).isSome := by
    unfold Pp.isChosen Pp.chosen
    split
    · rfl
    · split <;> simp_all
  cases hch : p.chosen k with
  | none =>
    rw [hch] at he
    rw [he] at HI
    clear h he hch hk
    go_enter Try.func25, Try.ntmps25
    go_wp2_with fail
    refine HI.out.mono ?_
    rintro e w2 ⟨rfl, hb2⟩
    have HD : Hid (GiveR none w (.returned (.tuple #[.slice none 0 0, .bool false])) w2) := Lib.hid ⟨_, rfl, World.ownsRow_nil _ _ _ _, hb2⟩
    clear hb2
    go_wp2
    go_ret2
    exact HD.out
  | some v0 =>
    rw [hch] at he
    rw [he] at HI
    obtain ⟨x, hm, e1, e2⟩ : ∃ x, (k, x) ∈ ps ∧ getK (onK pzM ps) k = some (some x.2.1) ∧ x.1.val = v0 := by
      rcases h.pget k with ⟨e1, e2⟩ | ⟨x, hm, e1, e2⟩
      · unfold Pp.chosen at hch
        rw [e2] at hch
        cases hch
      · refine ⟨x, hm, e1, ?_⟩
        unfold Pp.chosen at hch
        rw [e2] at hch
        dsimp only at hch
        split at hch
        · injection hch
        · cases hch
    obtain ⟨xA, xn, xc, hsv⟩ := slV_slP x.2.2
    have ho := h.pval _ hm
    dsimp only at ho
    rw [hsv, e2] at ho
    have hl2 := (h.acc hm).2.1
    rw [e2] at hl2
    obtain rfl : v0.length = xn := by
      have := own_shape ho
      obtain ⟨_, _, e, _⟩ := this
      injection e with _ e _
      exact e.symm
    have hrd := Rd.of_own ho
    have HC := Lib.hid (fun W (hb : Below w.heap.size w W) => cloneB_any xA v0.length xc w.heap.size v0 W (by omega) hb.size (hrd.below hb))
    have HX : Hid (∀ W, Below w.heap.size w W → W.cell? ⟨g, 11, none⟩ = some (.map (some bp)) ∧ (Instr.lookup 79 (.map (some bp)) (.int .u64 (k : Int)) false).run Try.prog W = .ok (.pointer (some ⟨x.2.1, 0, none⟩)) W ∧ W.cell? ⟨x.2.1, 0, none⟩ = some (.slice xA v0.length xc)) := Lib.hid fun W hb => by
      have h2 := h.below hb
      refine ⟨h2.bk.cell 11, ?_, ?_⟩
      · have := h2.plook k hk
        rw [e1] at this
        exact this
      · have := (h2.peach _ hm).cell 0
        rw [← hsv]
        exact this
    generalize x.2.1 = gx at *
    clear h he hch hk hm hrd ho hsv hl2 e1 e2
    go_enter Try.func25, Try.ntmps25
    go_wp2_with fail
    refine HI.out.mono ?_
    rintro e w2 ⟨rfl, hb2⟩
    obtain ⟨k1, k2, k3⟩ := HX.out w2 hb2
    have HB2 := Lib.hid hb2
    clear hb2
    go_wp2_with fail
    refine (HC.out _ HB2.out).mono ?_
    rintro e w3 ⟨v, rfl, ho, hb3⟩
    have HD : Hid (GiveR (some v0) w (.returned (.tuple #[v, .bool true])) w3) := Lib.hid ⟨v, rfl, own_mono ho HB2.out.size, below_then HB2.out hb3⟩
    clear ho hb3 k1 k2 k3
    go_wp2
    go_ret2
    exact HD.out
end
end Go.Proofs.Ythkkkldkpdkabaa
