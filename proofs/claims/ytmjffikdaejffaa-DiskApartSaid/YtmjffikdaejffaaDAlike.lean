/- Layer 3's law: alike, both tell the same. -/
import Derived.Test.YtmjffikdaejffaaDPlay
import Derived.Test.YtmjffikdaejffaaSame
import Derived.BigQuiet
import Derived.Deep.QuietTactic
namespace Go.Proofs.Ytmjffikdaejffaa
open Go.RowKit

theorem PD.drewN {w : World} {F : Nat → Prop} {g : Nat} {d : Dk} (h : PD w F g d) (q : Nat) : PD (w.drewN q) F g d := h.kp (G := fun _ => False) (Kp.drewN _ w q) fun _ _ h => h
theorem flip_same {P : Program} {f : FuncId} {args : Array Value} {w : World} {v : Value} (h : Calls P f args w fun e w' => e = .returned v ∧ w = w') : Calls P f args w fun e w' => e = .returned v ∧ w' = w := h.mono fun _ _ ⟨a, b⟩ => ⟨a, b.symm⟩

set_option maxRecDepth 100000 in
set_option maxHeartbeats 4000000 in
theorem alike_any (g M : Nat) (d : Dk) (H : Nat → Prop) (a : Int) (w : World) (hwl : d.waits.length ≤ 1000000) (h : Both w H g M d) :
    Calls Try.prog 13 #[.pointer (some ⟨g, 0, none⟩), .pointer (some ⟨M, 0, none⟩), .int .i64 a] w fun e w' => e = .returned (.bool true) ∧ Below w.heap.size w w' := by
  obtain ⟨F, G, hp, hr, hFG, hFH, hGH, hH1⟩ := h
  have HP := Lib.hid hp
  have HR := Lib.hid hr
  have HC1 := Lib.hid (read_meth g d F a w hp)
  have HC2 : Hid (∀ w1, Below w.heap.size w w1 → Calls Try.prog 34 #[.pointer (some ⟨M, 0, none⟩), .int .i64 a] w1 _) := fun w1 hb => rread_any M d G a w1 (by omega) (hr.below hb)
  clear hp hr hFG hFH hGH hH1
  go_enter Try.func13, Try.ntmps13
  go_wp2_with fail
  refine HC1.out.mono ?_
  rintro e w1 ⟨A, c, rfl, ho, hb1⟩
  have HC3 := Lib.hid (HC2.out w1 hb1)
  have Ho := Lib.hid ho
  have Hb1 := Lib.hid hb1
  clear ho hb1 HC1 HC2
  go_wp2_with fail
  refine HC3.out.mono ?_
  rintro e w2 ⟨A2, c2, rfl, hrd, hle, hb2⟩
  have Hb2 := Lib.hid (below_then Hb1.out hb2)
  have hs := (Rd.of_own Ho.out).up hb2
  have q1 : Hid (∀ q, Calls Try.prog 21 #[.slice A (d.read a).1.length c, .slice A2 (d.read a).1.length c2] (w2.drewN q) fun e w' => e = .returned (.bool true) ∧ w' = w2.drewN q) := fun q => by
    have := same_any A A2 _ _ c c2 _ _ _ _ (w2.drewN q) (hs.drewN q) (hrd.drewN q)
    rw [beq_self_eq_true] at this
    exact flip_same this
  have hp2 := HP.out.below Hb2.out
  have hr2 := HR.out.below Hb2.out
  have q2 : Hid (∀ q, Calls Try.prog 23 #[.pointer (some ⟨g, 0, none⟩)] (w2.drewN q) fun e w' => e = .returned (.bool (!d.down)) ∧ w' = w2.drewN q) := fun q => flip_same (up_meth g d F _ (hp2.drewN q))
  have q3 : Hid (∀ q, Calls Try.prog 19 #[.pointer (some ⟨g, 0, none⟩)] (w2.drewN q) fun e w' => e = .returned (.int .i64 d.waits.length) ∧ w' = w2.drewN q) := fun q => flip_same (waiting_meth g d F _ (hp2.drewN q))
  have q4 : Hid (∀ q, Calls Try.prog 27 #[.pointer (some ⟨g, 0, none⟩)] (w2.drewN q) fun e w' => e = .returned (.int .i64 d.safe.length) ∧ w' = w2.drewN q) := fun q => flip_same (sectors_meth g d F _ (hp2.drewN q))
  have m3 := hr2.downCell
  obtain ⟨ms, cs, m0⟩ := hr2.safeCell
  obtain ⟨Aw, cw, m1⟩ := hr2.waitCell
  clear hrd hle hb2 hs hp2 hr2 HC3 HP HR Hb1 Ho
  generalize (d.read a).1.length = n1 at *
  generalize (d.read a).2 = r at *
  generalize d.waits.length = n2 at *
  generalize d.safe.length = n3 at *
  generalize d.down = dn at *
  go_wp2_with fail
  cases dn with
  | true =>
    go_quiet ((first
      | (go_at_call 21; exact Calls.quiet_of_same (q1.out _))
      | (go_at_call 23; exact Calls.quiet_of_same (q2.out _))
      | (go_at_call 19; exact Calls.quiet_of_same (q3.out _))
      | (go_at_call 27; exact Calls.quiet_of_same (q4.out _))))
    go_wp2
    go_ret
    exact ⟨rfl, bel_drewN Hb2.out _⟩
  | false =>
    go_quiet ((first
      | (go_at_call 21; exact Calls.quiet_of_same (q1.out _))
      | (go_at_call 23; exact Calls.quiet_of_same (q2.out _))
      | (go_at_call 19; exact Calls.quiet_of_same (q3.out _))
      | (go_at_call 27; exact Calls.quiet_of_same (q4.out _))))
    go_wp2
    go_ret
    exact ⟨rfl, bel_drewN Hb2.out _⟩
end Go.Proofs.Ytmjffikdaejffaa
