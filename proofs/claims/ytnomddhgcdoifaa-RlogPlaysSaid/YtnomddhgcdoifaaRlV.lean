/- Layer 12's laws: long, rest. -/
import Derived.Test.YtnomddhgcdoifaaRlU
import Derived.Test.YtnomddhgcdoifaaRlGv
namespace Go.Proofs.Ytnomddhgcdoifaa
open Go.RowKit

def Long12 (f : Nat → Gl) (n : Nat) (w : World) (e : Ending) (w' : World) : Prop := ∃ b, e = .returned (.bool b) ∧ w = w' ∧ (b = false → ∀ k, k < n → k < 400 → (f k).n ≤ 1000)
set_option maxRecDepth 100000 in
set_option maxHeartbeats 2000000 in
theorem long12_any {w : World} {B n c : Nat} {A : Option Addr} {f : Nat → Gl} (hA : As12 w B A n f) (hc : n ≤ c ∧ c ≤ 9223372036854775807) : Calls Try.prog 4 #[.slice A n c] w (Long12 f n w) := by
  obtain ⟨h1, h2⟩ := hc
  have HA := Lib.hid hA
  clear hA
  go_enter Try.func4, Try.ntmps4
  go_wp2_with fail
  go_loopg [3] n (fun gk i wr => ∃ k : Nat, i = .int .i64 (k : Int) ∧ k + gk = n ∧ w = wr ∧ Hid (∀ j, j < k → (f j).n ≤ 1000))
  case atStart => exact ⟨0, rfl, by omega, rfl, Lib.hid fun j hj => by omega⟩
  case round =>
    obtain ⟨k, rfl, hkg, rfl, HP⟩ := hrel
    by_cases hk : k < n
    · by_cases h200 : k < 400
      · have hkI : (k : Int) < (n : Int) := by omega
        have hk2 : (k : Int) < 400 := by omega
        obtain ⟨b, o, rfl, _, hi⟩ := HA.out (by omega)
        obtain ⟨_, _, _, q2⟩ := hi k hk
        clear hi
        by_cases hl : 1000 < (f k).n
        · have hlI : (1000 : Int) < ((f k).n : Int) := by omega
          go_wp2
          go_ret
          exact ⟨true, rfl, rfl, fun h => by cases h⟩
        · have hlI : ¬ (1000 : Int) < ((f k).n : Int) := by omega
          have HP2 : Hid (∀ j, j < k + 1 → (f j).n ≤ 1000) := Lib.hid fun j hj => by
            by_cases e : j = k
            · subst e; omega
            · exact HP.out j (by omega)
          go_wp2
          go_roundg (gk - 1)
          case measure => omega
          case rel => exact ⟨k + 1, by go_num, by omega, rfl, HP2⟩
      · have hkI : (k : Int) < (n : Int) := by omega
        have hk2 : ¬ (k : Int) < 400 := by omega
        go_wp2
        go_ret
        exact ⟨false, rfl, rfl, fun _ j _ hj => HP.out j (by omega)⟩
    · have hkI : ¬ (k : Int) < (n : Int) := by omega
      go_wp2
      go_ret
      exact ⟨false, rfl, rfl, fun _ j hj _ => HP.out j (by omega)⟩

theorem Fam.pushK {w w' : World} {base : Nat} {vals : List Value} {ls : List (List UInt8)} {v : Value} {l : List UInt8} {F : Nat → Prop} (h : Fam w base vals ls) (hk : Kp F w w') (hF : ∀ k, F k → k < base) (hv : w'.ownsRow w.heap.size 5 1 v l.length (u8s l)) (hbase : base ≤ w.heap.size) : Fam w' base (vals ++ [v]) (ls ++ [l]) := by
  have h' : Fam w' base vals ls := h.kpE hk fun i u hu k e hf => by
    have := ((h.each i u hu).lt k e).1
    have := hF k hf
    omega
  have hl := h.len
  have hap : ∀ (i : Nat) (u : Value), vals[i]? = some u → Apart u v := by
    intro i u hu g hg hvg
    have h1 := ((h.each i u hu).lt g hg).2
    have h2 := (hv.lt g hvg).1
    omega
  refine ⟨by simp [hl], fun i u hu => ?_, fun i j u x hij hu hx => ?_⟩
  · rcases append_get hu with ⟨hi, hu⟩ | ⟨rfl, rfl⟩
    · have := h'.each i u hu
      have e : (ls ++ [l]).getD i [] = ls.getD i [] := by simp [List.getD, List.getElem?_append_left (show i < ls.length by omega)]
      rw [e]
      exact this
    · have e : (ls ++ [l]).getD vals.length [] = l := by simp [List.getD, hl]
      rw [e]
      exact own_mono hv hbase
  · rcases append_get hu with ⟨_, hu'⟩ | ⟨rfl, rfl⟩
    · rcases append_get hx with ⟨_, hx'⟩ | ⟨rfl, rfl⟩
      · exact h.apart i j u x hij hu' hx'
      · exact hap i u hu'
    · rcases append_get hx with ⟨_, hx'⟩ | ⟨rfl, rfl⟩
      · exact (hap j x hx').symm
      · exact absurd rfl hij
/-- What may be applied, so many. -/
def Rl.outs (p : Rl) (i : Nat) : List En := (List.range i).map fun j => p.at_ (p.ap + 1 + j)
structure RestS (W w : World) (F : Nat → Prop) (g : Nat) (p : Rl) (i : Nat) (v : Value) (wr : World) (es : List Ene) : Prop where
  cat : CatR wr w.heap.size v i es
  vals : es.map (·.1) = p.outs i
  ol : OL W wr F g ⟨p.ap + i, p.row⟩
  kp : Kp F w wr
def RestE (W w : World) (F : Nat → Prop) (g : Nat) (p : Rl) (e : Ending) (w' : World) : Prop :=
  ∃ A c i, e = .returned (.slice A i c) ∧ i ≤ 300 ∧ Hid ((∀ j, j < i → p.has (p.ap + 1 + j) = true) ∧ (i < 300 → p.has (p.ap + 1 + i) = false)) ∧ Hid (∃ es, RestS W w F g p i (.slice A i c) w' es)
end Go.Proofs.Ytnomddhgcdoifaa
