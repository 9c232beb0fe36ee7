/- Layer 14, plain: a view, who is up, the order. No program is named here. -/
import Derived.Test.YtmdjdnibblebcaaDoorBtB
namespace Go.Proofs.YtmdjdnibblebcaaDoor

/-- A view: its nodes' sites, and since when each was heard. -/
structure Vw where
  n : Nat
  site : Nat → Nat
  since : Nat → Nat
  me : Nat
  pat : Nat
  calm : Nat
def updN (f : Nat → Nat) (k v : Nat) : Nat → Nat := fun i => if i = k then v else f i
namespace Vw
def up (v : Vw) : Nat := upS v.pat v.since v.n
def hear0 (v : Vw) (k : Nat) : Vw := { v with since := updN v.since k 0 }
def hear (v : Vw) (k : Nat) : Vw := { v with since := updN v.since k 0, calm := if (v.hear0 k).up = v.up then v.calm else 0 }
/-- Hear of any number. -/
def hearI (v : Vw) (a : Int) : Vw := if 0 ≤ a ∧ a < v.n then v.hear a.toNat else v
def tickT (v : Vw) (k : Nat) : Nat → Nat := fun i => if i < k ∧ i ≠ v.me then min (v.since i + 1) v.pat else v.since i
def tick0 (v : Vw) : Vw := { v with since := v.tickT v.n }
def tick (v : Vw) : Vw := { v with since := v.tickT v.n, calm := if v.tick0.up = v.up then min (v.calm + 1) 1000 else 0 }
/-- A number below 0 is a tick. -/
def act (v : Vw) (a : Int) : Vw := if a < 0 then v.tick else v.hearI a
def sinceI (v : Vw) (a : Int) : Int := if 0 ≤ a ∧ a < v.n then v.since a.toNat else -1
structure Ok (v : Vw) : Prop where
  n1 : 1 ≤ v.n
  n12 : v.n ≤ 12
  site : ∀ i, i < v.n → v.site i < 12
  me : v.me < v.n
  own : v.since v.me = 0
  p1 : 1 ≤ v.pat
  p2 : v.pat ≤ 1000
  since : ∀ i, i < v.n → v.since i ≤ v.pat
  calm : v.calm ≤ 1000
theorem up_lt {v : Vw} (h : v.Ok) : v.up < 4096 := Nat.lt_of_lt_of_le (upS_lt _ _ _) (Nat.pow_le_pow_right (by omega) h.n12)
theorem up_bit (v : Vw) (i : Nat) : v.up.testBit i = (decide (i < v.n) && decide (v.since i < v.pat)) := upS_bit _ _ _ _
theorem up_me {v : Vw} (h : v.Ok) : v.up.testBit v.me = true := by rw [up_bit, h.own]; simp; exact ⟨h.me, h.p1⟩
theorem up_ne {v : Vw} (h : v.Ok) : v.up ≠ 0 := fun e => by have := up_me h; rw [e] at this; simp at this
theorem Ok.hear0 {v : Vw} (h : v.Ok) (k : Nat) : (v.hear0 k).Ok := by
  refine ⟨h.n1, h.n12, h.site, h.me, ?_, h.p1, h.p2, fun i hi => ?_, h.calm⟩
  · show updN v.since k 0 v.me = 0
    unfold updN; split
    · rfl
    · exact h.own
  · show updN v.since k 0 i ≤ v.pat
    unfold updN; split
    · omega
    · exact h.since i hi
theorem Ok.hear {v : Vw} (h : v.Ok) (k : Nat) : (v.hear k).Ok := by
  have h0 := h.hear0 k
  refine ⟨h.n1, h.n12, h.site, h.me, h0.own, h.p1, h.p2, h0.since, ?_⟩
  show (if _ then v.calm else 0) ≤ 1000
  split
  · exact h.calm
  · omega
theorem Ok.hearI {v : Vw} (h : v.Ok) (a : Int) : (v.hearI a).Ok := by
  unfold Vw.hearI; split
  · exact h.hear _
  · exact h
theorem tickT_succ (v : Vw) (i : Nat) (h : i ≠ v.me) : v.tickT (i + 1) = updN (v.tickT i) i (min (v.since i + 1) v.pat) := by
  funext j
  unfold tickT updN
  dsimp only
  by_cases e : j = i
  · subst e; rw [if_pos ⟨by omega, h⟩, if_pos rfl]
  · rw [if_neg e]
    by_cases e2 : j < i ∧ j ≠ v.me
    · rw [if_pos e2, if_pos ⟨by omega, e2.2⟩]
    · rw [if_neg e2, if_neg (by omega)]
theorem tickT_me (v : Vw) : v.tickT (v.me + 1) = v.tickT v.me := by
  funext j
  unfold tickT
  by_cases e2 : j < v.me ∧ j ≠ v.me
  · rw [if_pos e2, if_pos ⟨by omega, e2.2⟩]
  · rw [if_neg e2, if_neg (by omega)]
theorem tickT_zero (v : Vw) : v.tickT 0 = v.since := by funext i; unfold tickT; rw [if_neg (by omega)]
theorem tickT_at (v : Vw) (i : Nat) : v.tickT i i = v.since i := by unfold tickT; rw [if_neg (by omega)]
theorem Ok.tickT {v : Vw} (h : v.Ok) (k : Nat) : ({ v with since := v.tickT k } : Vw).Ok := by
  refine ⟨h.n1, h.n12, h.site, h.me, ?_, h.p1, h.p2, fun i hi => ?_, h.calm⟩
  · show v.tickT k v.me = 0
    unfold Vw.tickT
    rw [if_neg (by simp)]; exact h.own
  · show v.tickT k i ≤ v.pat
    unfold Vw.tickT
    split
    · exact Nat.min_le_right _ _
    · exact h.since i hi
theorem Ok.tick0 {v : Vw} (h : v.Ok) : v.tick0.Ok := by
  refine ⟨h.n1, h.n12, h.site, h.me, ?_, h.p1, h.p2, fun i hi => ?_, h.calm⟩
  · show v.tickT v.n v.me = 0
    unfold Vw.tickT
    rw [if_neg (by simp)]; exact h.own
  · show v.tickT v.n i ≤ v.pat
    unfold Vw.tickT
    split
    · exact Nat.min_le_right _ _
    · exact h.since i hi
theorem Ok.tick {v : Vw} (h : v.Ok) : v.tick.Ok := by
  have h0 := h.tick0
  refine ⟨h.n1, h.n12, h.site, h.me, h0.own, h.p1, h.p2, h0.since, ?_⟩
  show (if _ then _ else 0) ≤ 1000
  split
  · exact Nat.min_le_right _ _
  · omega
theorem Ok.act {v : Vw} (h : v.Ok) (a : Int) : (v.act a).Ok := by
  unfold Vw.act; split
  · exact h.tick
  · exact h.hearI a
/-- What stays: how many nodes, their sites, whose view, the patience. -/
structure Like (v u : Vw) : Prop where
  n : u.n = v.n
  site : u.site = v.site
  me : u.me = v.me
  pat : u.pat = v.pat
theorem Like.refl (v : Vw) : v.Like v := ⟨rfl, rfl, rfl, rfl⟩
theorem Like.trans {a b c : Vw} (h : a.Like b) (k : b.Like c) : a.Like c := ⟨k.n.trans h.n, k.site.trans h.site, k.me.trans h.me, k.pat.trans h.pat⟩
theorem Like.hear (v : Vw) (k : Nat) : v.Like (v.hear k) := ⟨rfl, rfl, rfl, rfl⟩
theorem Like.hearI (v : Vw) (a : Int) : v.Like (v.hearI a) := by unfold Vw.hearI; split <;> exact ⟨rfl, rfl, rfl, rfl⟩
theorem Like.tick (v : Vw) : v.Like v.tick := ⟨rfl, rfl, rfl, rfl⟩
theorem Like.act (v : Vw) (a : Int) : v.Like (v.act a) := by
  unfold Vw.act; split
  · exact Like.tick v
  · exact Like.hearI v a

/-- Those of a row of numbers by sites, the home one first. -/
def ordL (site : Nat → Nat) (home : Int) (l : List Nat) : List Nat :=
  l.filter (fun i => decide ((site i : Int) = home)) ++ (List.range 12).flatMap fun (k : Nat) => if (k : Int) = home then [] else l.filter fun i => site i == k
def order (v : Vw) (home : Int) : List Nat := ordL v.site home (lstU v.up)
end Vw
/-- The order's key: is it away, its site, its number. -/
def ordLe (site : Nat → Nat) (home : Int) (a b : Nat) : Prop :=
  let x := if (site a : Int) = home then 0 else 1
  let y := if (site b : Int) = home then 0 else 1
  x < y ∨ (x = y ∧ (site a < site b ∨ (site a = site b ∧ a ≤ b)))
theorem ordLe_antisymm {site : Nat → Nat} {home : Int} {a b : Nat} (h : ordLe site home a b) (k : ordLe site home b a) : a = b := by
  unfold ordLe at h k
  dsimp only at h k
  omega
theorem mem_ordL {site : Nat → Nat} {home : Int} {l : List Nat} (hs : ∀ i ∈ l, site i < 12) (i : Nat) : i ∈ Vw.ordL site home l ↔ i ∈ l := by
  unfold Vw.ordL
  rw [List.mem_append, List.mem_filter, List.mem_flatMap]
  constructor
  · rintro (⟨h, _⟩ | ⟨k, _, h⟩)
    · exact h
    · split at h
      · exact absurd h List.not_mem_nil
      · exact (List.mem_filter.1 h).1
  · intro h
    by_cases e : (site i : Int) = home
    · exact .inl ⟨h, by simpa using e⟩
    · refine .inr ⟨site i, List.mem_range.2 (hs i h), ?_⟩
      rw [if_neg e]
      exact List.mem_filter.2 ⟨h, by simp⟩
theorem ordL_sorted {site : Nat → Nat} {home : Int} {l : List Nat} (hl : l.Pairwise (· < ·)) : (Vw.ordL site home l).Pairwise (fun a b => ordLe site home a b ∧ a ≠ b) := by
  unfold Vw.ordL
  rw [List.pairwise_append]
  refine ⟨?_, ?_, ?_⟩
  · refine List.Pairwise.imp_of_mem ?_ (List.Pairwise.filter _ hl)
    intro a b ha hb hab
    have ha' := of_decide_eq_true (List.mem_filter.1 ha).2
    have hb' := of_decide_eq_true (List.mem_filter.1 hb).2
    refine ⟨.inr ⟨by rw [if_pos ha', if_pos hb'], .inr ⟨by omega, by omega⟩⟩, by omega⟩
  · rw [List.pairwise_flatMap]
    refine ⟨fun k _ => ?_, ?_⟩
    · split
      · exact List.Pairwise.nil
      · rename_i hk
        refine List.Pairwise.imp_of_mem ?_ (List.Pairwise.filter _ hl)
        intro a b ha hb hab
        have ha' := beq_iff_eq.1 (List.mem_filter.1 ha).2
        have hb' := beq_iff_eq.1 (List.mem_filter.1 hb).2
        refine ⟨.inr ⟨by rw [ha', hb'], .inr ⟨by omega, by omega⟩⟩, by omega⟩
    · refine List.Pairwise.imp ?_ (List.pairwise_lt_range (n := 12))
      intro k m hkm a ha b hb
      split at ha
      · exact absurd ha List.not_mem_nil
      split at hb
      · exact absurd hb List.not_mem_nil
      have ha' := beq_iff_eq.1 (List.mem_filter.1 ha).2
      have hb' := beq_iff_eq.1 (List.mem_filter.1 hb).2
      refine ⟨.inr ⟨by rw [ha', hb', if_neg (by assumption), if_neg (by assumption)], .inl (by omega)⟩, fun e => by subst e; omega⟩
  · intro a ha b hb
    obtain ⟨k, _, hb⟩ := List.mem_flatMap.1 hb
    split at hb
    · exact absurd hb List.not_mem_nil
    have ha' := of_decide_eq_true (List.mem_filter.1 ha).2
    have hb' := beq_iff_eq.1 (List.mem_filter.1 hb).2
    refine ⟨.inl (by rw [if_pos ha', if_neg (by rw [hb']; assumption)]; decide), fun e => by subst e; rw [hb'] at ha'; contradiction⟩
theorem ordL_nodup {site : Nat → Nat} {home : Int} {l : List Nat} (hl : l.Pairwise (· < ·)) : (Vw.ordL site home l).Nodup := (ordL_sorted hl).imp fun h => h.2
/-- Whatever is sorted and has just these is the order. -/
theorem ordL_unique {site : Nat → Nat} {home : Int} {l r : List Nat} (hl : l.Pairwise (· < ·)) (hs : ∀ i ∈ l, site i < 12) (hp : r.Perm l) (hr : r.Pairwise (ordLe site home)) : r = Vw.ordL site home l := by
  have hn : r.Nodup := (hp.nodup_iff).2 (hl.imp fun h => by omega)
  have hp2 : r.Perm (Vw.ordL site home l) := (List.perm_ext_iff_of_nodup hn (ordL_nodup hl)).2 fun i => by rw [hp.mem_iff, mem_ordL hs]
  exact List.Perm.eq_of_pairwise (fun a b _ _ h k => ordLe_antisymm h k) hr ((ordL_sorted hl).imp fun h => h.1) hp2
theorem nodup_len : ∀ (n : Nat) (l : List Nat), l.Nodup → (∀ i ∈ l, i < n) → l.length ≤ n
  | 0, l, _, h => by
    cases l with
    | nil => exact Nat.le_refl _
    | cons a r => exact absurd (h a List.mem_cons_self) (by omega)
  | n + 1, l, hn, h => by
    have ih := nodup_len n (l.filter (fun i => i != n)) (List.Pairwise.filter _ hn) (fun i hi => by
      have h1 := List.mem_filter.1 hi
      have h2 := h i h1.1
      have h3 : i ≠ n := by simpa using h1.2
      omega)
    have h2 : l.length ≤ (l.filter (fun i => i != n)).length + 1 := by
      clear ih h
      induction l with
      | nil => simp
      | cons a r ih =>
        have hr := (List.nodup_cons.1 hn)
        by_cases e : a = n
        · subst e
          have : r.filter (fun i => i != a) = r := List.filter_eq_self.2 fun i hi => by
            have : i ≠ a := fun e => hr.1 (e ▸ hi)
            simpa using this
          rw [List.filter_cons, this]; simp
        · have ih := ih hr.2
          rw [List.filter_cons, if_pos (by simpa using e)]
          simp only [List.length_cons]
          omega
    omega
namespace Vw
theorem mem_order {v : Vw} (h : v.Ok) (home : Int) (i : Nat) : i ∈ v.order home ↔ i < v.n ∧ v.since i < v.pat := by
  unfold order
  rw [mem_ordL (fun i hi => h.site i (by have := ((mem_lst _ _).1 hi).2; rw [up_bit] at this; simp at this; exact this.1)), mem_lst, up_bit]
  have := h.n12
  simp
  omega
theorem order_nodup (v : Vw) (home : Int) : (v.order home).Nodup := ordL_nodup (lst_sorted _)
theorem order_ne {v : Vw} (h : v.Ok) (home : Int) : v.order home ≠ [] := fun e => by
  have := (mem_order h home v.me).2 ⟨h.me, by rw [h.own]; exact h.p1⟩
  rw [e] at this
  exact absurd this List.not_mem_nil
theorem order_len {v : Vw} (h : v.Ok) (home : Int) : (v.order home).length ≤ v.n := nodup_len _ _ (order_nodup v home) fun i hi => ((mem_order h home i).1 hi).1
end Vw
end Go.Proofs.YtmdjdnibblebcaaDoor
