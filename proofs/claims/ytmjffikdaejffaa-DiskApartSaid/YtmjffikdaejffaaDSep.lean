/- A clone beside the two disks: what becomes of it leaves them. -/
import Derived.Test.YtmjffikdaejffaaDPlay2
import Derived.Test.YtmjffikdaejffaaLawDiskPlays
import Derived.Test.YtmjffikdaejffaaDTold
import Derived.Test.YtmjffikdaejffaaFam
namespace Go.Proofs.Ytmjffikdaejffaa
open Go.RowKit

def Sep (W w : World) (g M i : Nat) (d : Dk) (gc j : Nat) : Prop := ∃ H F dc, Both w H g M d ∧ (∀ k, H k → W.heap.size ≤ k) ∧ Below W.heap.size W w ∧ d.waits.length ≤ i ∧ PD w F gc dc ∧ (∀ k, F k → ¬ H k) ∧ (∀ k, F k → W.heap.size ≤ k) ∧ dc.waits.length ≤ j
def SepM (W w : World) (g M i : Nat) (d : Dk) (gc j M2 : Nat) : Prop := ∃ H F G dc, Both w H g M d ∧ (∀ k, H k → W.heap.size ≤ k) ∧ Below W.heap.size W w ∧ d.waits.length ≤ i ∧ PD w F gc dc ∧ (∀ k, F k → ¬ H k) ∧ (∀ k, F k → W.heap.size ≤ k) ∧ dc.waits.length ≤ j ∧
  RD w G M2 d ∧ (∀ k, G k → ¬ H k) ∧ (∀ k, F k → ¬ G k) ∧ (∀ k, G k → W.heap.size ≤ k)
theorem Sep.run {W w : World} {g M i gc j : Nat} {d : Dk} (h : Sep W w g M i d gc j) : Run W w g M i d := by
  obtain ⟨H, F, dc, h1, h2, h3, h4, _⟩ := h
  exact ⟨H, h1, h2, h3, h4⟩
theorem Run.clone {W w : World} {g M i : Nat} {d : Dk} (h : Run W w g M i d) (hi : i ≤ 1000000) :
    Calls Try.prog 24 #[.pointer (some ⟨g, 0, none⟩)] w fun e w' => ∃ gc, e = .returned (.pointer (some ⟨gc, 0, none⟩)) ∧ Sep W w' g M i d gc i := by
  obtain ⟨H, h1, h2, h3, h4⟩ := h
  have h1' := h1
  obtain ⟨F, G, hp, hr, hFG, hFH, hGH, hH⟩ := h1
  refine (clone_meth g d F w (by omega) hp).mono ?_
  rintro e w' ⟨gc, F', rfl, k1, k2, k3⟩
  exact ⟨gc, rfl, H, F', d, h1'.below k3, h2, h3.trans (k3.mono h3.size), h4, k1, fun k hf hh => by have := k2 k hf; have := hH k hh; omega, fun k hf => Nat.le_trans h3.size (k2 k hf), h4⟩
theorem Sep.clone {W w : World} {g M i gc j : Nat} {d : Dk} (h : Sep W w g M i d gc j) (hi : i ≤ 1000000) :
    Calls Try.prog 25 #[.pointer (some ⟨M, 0, none⟩)] w fun e w' => ∃ M2, e = .returned (.pointer (some ⟨M2, 0, none⟩)) ∧ SepM W w' g M i d gc j M2 := by
  obtain ⟨H, F, dc, h1, h2, h3, h4, h5, h6, h7, h8⟩ := h
  have h1' := h1
  obtain ⟨F0, G0, hp, hr, hFG, hFH, hGH, hH⟩ := h1
  refine (rclone_meth M d G0 w (by omega) hr).mono ?_
  rintro e w' ⟨M2, G, rfl, k1, k2, k3⟩
  exact ⟨M2, rfl, H, F, G, dc, h1'.below k3, h2, h3.trans (k3.mono h3.size), h4, h5.below k3, h6, h7, h8, k1, fun k hf hh => by have := k2 k hf; have := hH k hh; omega, fun k hf hh => by have := k2 k hh; have := h5.lt k hf; omega, fun k hf => Nat.le_trans h3.size (k2 k hf)⟩
theorem SepM.play {W w : World} {g M i gc j M2 : Nat} {d : Dk} (h : SepM W w g M i d gc j M2) (hi : i ≤ 1000000) (hj : j ≤ 1000000) (x : Ac) (hx : x.Ok W W.heap.size) :
    Calls Try.prog 12 #[.pointer (some ⟨gc, 0, none⟩), .pointer (some ⟨M2, 0, none⟩), .agg #[.int .i64 x.kind, .int .i64 x.at_, .int .u8 (x.fill.toNat : Int), .int .i64 x.n, .slice x.ka x.kn x.kc]] w fun e w' => ∃ b, e = .returned (.bool b) ∧ Sep W w' g M i d gc (j + 1) := by
  obtain ⟨H, F, G, dc, h1, h2, h3, h4, h5, h6, h7, h8, h9, h10, h11, h12⟩ := h
  have hH : ∀ k, H k → k < w.heap.size := by
    obtain ⟨_, _, _, _, _, _, _, hH⟩ := h1
    exact hH
  have hb2 : Both2 w (fun k => F k ∨ G k) gc M2 dc d := ⟨F, G, h5, h9, h11, fun k h => .inl h, fun k h => .inr h, by
    rintro k (h | h)
    · exact h5.lt k h
    · exact h9.lt k h⟩
  have hge : ∀ k, (F k ∨ G k) → W.heap.size ≤ k := by
    rintro k (h | h)
    · exact h7 k h
    · exact h12 k h
  refine (play2_any gc M2 dc d (fun k => F k ∨ G k) x w W.heap.size (by omega) (by omega) (hx.below h3) h3.size hge hb2).mono ?_
  rintro e w' ⟨b, rfl, H2, ⟨F2, G2, k1, k2, k3, k4, k5, k6⟩, hm⟩
  have hnew : ∀ k, F2 k → (F k ∨ G k) ∨ w.heap.size ≤ k := fun k h => hm.new k (k4 k h)
  refine ⟨b, rfl, H, F2, dc.play x, h1.kp hm.kp ?_, h2, h3.trans (hm.kp.below hge h3.size), h4, k1, ?_, ?_, by have := play_waits dc x; omega⟩
  · rintro k hh (h | h)
    · exact h6 k h hh
    · exact h10 k h hh
  · intro k hf hh
    rcases hnew k hf with (h | h) | h
    · exact h6 k h hh
    · exact h10 k h hh
    · have := hH k hh; omega
  · intro k hf
    rcases hnew k hf with h | h
    · exact hge k h
    · have := h3.size; omega

theorem seen_le (i : Nat) (ws : List (Nat × List UInt8)) : ∀ x : List UInt8, x.length ≤ 32 → (∀ w ∈ ws, w.2.length = 32) → (ws.foldl (fun x w => if w.1 = i then w.2 else x) x).length ≤ 32 := by
  induction ws with
  | nil => intro x h _; exact h
  | cons w ws ih =>
    intro x h hw
    refine ih _ ?_ fun u hu => hw u (List.mem_cons_of_mem _ hu)
    show (if w.1 = i then w.2 else x).length ≤ 32
    split
    · have := hw w List.mem_cons_self; omega
    · exact h
theorem read_le {d : Dk} (h : d.Ok) (a : Int) : (d.read a).1.length ≤ 32 := by
  unfold Dk.read
  split
  · simp
  split
  · simp
  · refine seen_le _ _ _ ?_ fun w hw => (h.waits w hw).2
    by_cases hi : a.toNat < d.safe.length
    · exact Nat.le_of_eq (rows_getD h.rows hi)
    · simp [List.getD, List.getElem?_eq_none (Nat.le_of_not_lt hi)]
/-- Read, whatever it answers. -/
def ReadR (w : World) (e : Ending) (w' : World) : Prop := ∃ A c z l, e = .returned (.tuple #[.slice A l.length c, .int .i64 z]) ∧ w'.ownsRow w.heap.size 5 1 (.slice A l.length c) l.length (u8s l) ∧ Below w.heap.size w w' ∧ l.length ≤ 32
theorem Run.read {W w : World} {g M i : Nat} {d : Dk} (h : Run W w g M i d) (a : Int) : Calls Try.prog 18 #[.pointer (some ⟨g, 0, none⟩), .int .i64 a] w (ReadR w) := by
  obtain ⟨H, ⟨F, G, hp, _⟩, _⟩ := h
  refine (read_meth g d F a w hp).mono ?_
  rintro e w' ⟨A, c, rfl, h1, h2⟩
  exact ⟨A, c, _, _, rfl, h1, h2, read_le hp.ok a⟩

/-- What was told so far: lists, each its own, made since the world w0. -/
structure Told2 (w0 w : World) (v : Value) (vals : List Value) (ls : List (List UInt8)) : Prop where
  row : w.ownsRow w0.heap.size 37 1 v vals.length vals
  fam : Fam w w0.heap.size vals ls
  bel : Below w0.heap.size w0 w
  small : ∀ l ∈ ls, l.length ≤ 32
theorem Told2.nil (w : World) : Told2 w w (.slice none 0 0) [] [] := ⟨World.ownsRow_nil _ _ _ _, Fam.nil _ _, Below.refl _ _, by simp⟩
theorem Told2.push {w0 w w1 w2 w3 : World} {v v' : Value} {vals : List Value} {ls : List (List UInt8)} {A : Option Addr} {c : Nat} {l : List UInt8} (h : Told2 w0 w v vals ls) (ho : w1.ownsRow w.heap.size 5 1 (.slice A l.length c) l.length (u8s l)) (hb : Below w.heap.size w w1) (hl : l.length ≤ 32)
    (hb2 : Below w1.heap.size w1 w2) (ha : App w2 w3 w0.heap.size 37 1 v v' vals.length 1 vals [.slice A l.length c]) : Told2 w0 w3 v' (vals ++ [.slice A l.length c]) (ls ++ [l]) := by
  have hsz := h.bel.size
  have hf := (h.fam.push hb ho hsz).up hb2
  have hrow2 : w2.ownsRow w0.heap.size 37 1 v vals.length vals := own_below (own_below h.row hb fun k e => (h.row.lt k e).2) hb2 fun k e => Nat.lt_of_lt_of_le (h.row.lt k e).2 hb.size
  refine ⟨by rw [List.length_append]; exact ha.own, ⟨hf.len, fun i u hu => ?_, hf.apart⟩, ?_, ?_⟩
  · have h2 := hf.each i u hu
    exact ha.other h2 (by
      by_cases e : u.ownBlock = none
      · exact .inl e
      · refine .inr fun e2 => ?_
        obtain ⟨k, hk⟩ := Option.ne_none_iff_exists'.1 e
        exact own_ne h2 hrow2 (by decide) k hk (e2 ▸ hk))
  · have h4 : Below w0.heap.size w0 w2 := (h.bel.trans (hb.mono hsz)).trans (hb2.mono (Nat.le_trans hsz hb.size))
    exact ha.below h4 h4.size (own_block_ge hrow2)
  · intro x hx
    rcases List.mem_append.1 hx with hx | hx
    · exact h.small x hx
    · simp at hx; subst hx; exact hl
theorem Told2.own {w0 w : World} {v : Value} {vals : List Value} {ls : List (List UInt8)} (h : Told2 w0 w v vals ls) {K : Nat} (hK : vals.length = K) (hs : K ≤ 1000) :
    ∃ A c, v = .slice A K c ∧ Calls Try.prog 26 #[.slice A K c] w fun e w' => e = .returned (.bool true) ∧ Below w0.heap.size w w' := by
  subst hK
  obtain ⟨A, c, rfl, _⟩ := own_shape h.row
  exact ⟨A, c, rfl, h.fam.own h.row rfl h.bel.size (by omega) fun l hl => by have := h.small l hl; omega⟩
end Go.Proofs.Ytmjffikdaejffaa
