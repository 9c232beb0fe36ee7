/- Int, the program's and the document's: the number with a sign that stands at a place, or the error. -/
import Derived.Test.YtlnbebeghfhfdaaBinUint
import Derived.Test.YtlnbebeghfhfdaaRefUint
import Derived.Laws.DeepNot64
namespace Go.Proofs.Ytlnbebeghfhfdaa
open Go.RowKit

/-- The number with a sign. -/
def unzig (u : Nat) : Int := if u % 2 = 1 then -((u / 2 : Nat) : Int) - 1 else ((u / 2 : Nat) : Int)

/-- What uintAt tells: a number that 64 bits hold, a place that an int holds, one of four errors. -/
theorem uintAt_form (l : List UInt8) (a : Int) (hl : l.length ≤ 9223372036854775807) : ∃ (v to e : Nat), uintAt l a = ((v : Int), (to : Int), (e : Int)) ∧ v < 18446744073709551616 ∧ to ≤ l.length ∧ (e = 0 ∧ 0 ≤ a ∧ a < to ∨ (e = 2 ∨ e = 10 ∨ e = 11) ∧ v = 0 ∧ to = 0) := by
  by_cases h1 : a < 0 ∨ (l.length : Int) < a
  · exact ⟨0, 0, 2, by rw [uintAt_out l a h1]; rfl, by omega, by omega, by omega⟩
  · obtain ⟨k, rfl⟩ := Int.eq_ofNat_of_zero_le (show 0 ≤ a by omega)
    rw [uintAt_in l k (by omega)]
    cases hu : uu 0 (l.drop k) with
    | ok x =>
      obtain ⟨v, m⟩ := x
      have := uu_pos hu
      rw [List.length_drop] at this
      exact ⟨v, k + m, 0, rfl, uu0_lt hu, by omega, by omega⟩
    | error e =>
      have he : e = 10 ∨ e = 11 := by
        have : ∀ (s : List UInt8) (i : Nat), uu i s = .error e → e = 10 ∨ e = 11 := by
          intro s
          induction s with
          | nil => intro i h; simp [uu] at h; omega
          | cons c r ih =>
            intro i h
            rw [uu] at h
            split at h
            · simp at h; omega
            · split at h
              · simp at h
              · cases h3 : uu (i + 1) r with
                | ok x => rw [h3] at h; simp at h
                | error e' => rw [h3] at h; simp at h; subst h; exact ih _ h3
        exact this _ _ hu
      exact ⟨0, 0, e, rfl, by omega, by omega, by omega⟩

def intAt (l : List UInt8) (a : Int) : Int × Int × Int := (unzig (uintAt l a).1.toNat, (uintAt l a).2.1, (uintAt l a).2.2)

theorem u64_and_one (n : Nat) (h : n < 18446744073709551616) : bits .and .u64 (n : Int) 1 = ((n % 2 : Nat) : Int) := by
  have h1 := u64_and_nat n 1 h (by decide)
  have e : ((1 : Nat) : Int) = 1 := rfl
  rw [e] at h1
  rw [h1, Nat.and_one_is_mod]

set_option maxHeartbeats 4000000 in
set_option maxRecDepth 100000 in
theorem binInt_any (A : Option Addr) (n c B : Nat) (at_ : Int) (l : List UInt8) (w : World) (hc : n ≤ c) (hm : c ≤ 9223372036854775807) (h : Rd w B A n l) :
    Calls Try.prog 21 #[.slice A n c, .int .i64 at_] w fun e w' => e = .returned (.tuple #[.int .i64 (intAt l at_).1, .int .i64 (intAt l at_).2.1, .int .i64 (intAt l at_).2.2]) ∧ w = w' := by
  have c1 := binUint_any A n c B at_ l w hc hm h
  obtain ⟨v, to, e, hu, hv, hto, _⟩ := uintAt_form l at_ (by rw [h.1]; omega)
  unfold intAt
  rw [hu] at c1 ⊢
  rw [Int.toNat_natCast]
  have Hc := Lib.hid c1
  have hand := u64_and_one v hv
  have hz : unzig v = if v % 2 = 1 then -((v / 2 : Nat) : Int) - 1 else ((v / 2 : Nat) : Int) := rfl
  have hl := h.1
  have Hh := Lib.hid hl
  clear c1 hl hu h
  have hv2 : v / 2 < 9223372036854775808 := by omega
  have hnot := i64_not (v / 2) hv2
  by_cases ho : v % 2 = 1
  · rw [if_pos ho] at hz
    rw [hz]
    have e2 : bits .xor .i64 (-1) ((v : Int) / 2) = -((v / 2 : Nat) : Int) - 1 := by
      have e3 : ((v / 2 : Nat) : Int) = (v : Int) / 2 := by omega
      rw [e3] at hnot ⊢
      rw [hnot]
      omega
    have E2 := Lib.hid e2
    rw [ho] at hand
    clear hnot hz ho hv2 e2
    go_enter Try.func21, Try.ntmps21
    go_wp2_with fail
    refine Hc.out.mono ?_
    rintro e' w' ⟨rfl, rfl⟩
    go_wp2
    go_ret3
    rw [E2.out]
    exact ⟨rfl, rfl⟩
  · rw [if_neg ho] at hz
    rw [hz]
    have ho' : v % 2 = 0 := by omega
    have e3 : ((v / 2 : Nat) : Int) = (v : Int) / 2 := by omega
    rw [e3]
    rw [ho'] at hand
    clear hnot hz ho ho' hv2 e3
    go_enter Try.func21, Try.ntmps21
    go_wp2_with fail
    refine Hc.out.mono ?_
    rintro e' w' ⟨rfl, rfl⟩
    go_wp2
    go_ret3
    exact ⟨rfl, rfl⟩

set_option maxHeartbeats 4000000 in
set_option maxRecDepth 100000 in
theorem refInt_any (A : Option Addr) (n c B : Nat) (at_ : Int) (l : List UInt8) (w : World) (hc : n ≤ c) (hm : c ≤ 9223372036854775807) (h : Rd w B A n l) :
    Calls Try.prog 24 #[.slice A n c, .int .i64 at_] w fun e w' => e = .returned (.tuple #[.int .i64 (intAt l at_).1, .int .i64 (intAt l at_).2.1, .int .i64 (intAt l at_).2.2]) ∧ w = w' := by
  have c1 := refUint_any A n c B at_ l w hc hm h
  obtain ⟨v, to, e, hu, hv, hto, he⟩ := uintAt_form l at_ (by rw [h.1]; omega)
  unfold intAt
  rw [hu] at c1 ⊢
  rw [Int.toNat_natCast]
  have Hc := Lib.hid c1
  have hz : unzig v = if v % 2 = 1 then -((v / 2 : Nat) : Int) - 1 else ((v / 2 : Nat) : Int) := rfl
  clear c1 hu h
  by_cases he0 : e = 0
  · have hne : ((e : Int) != 0) = false := by simp [he0]
    have e3 : ((v / 2 : Nat) : Int) = (v : Int) / 2 := by omega
    rw [e3] at hz
    by_cases ho : v % 2 = 1
    · rw [if_pos ho] at hz
      rw [hz]
      have ho2 : ((v : Int) % 2 == 1) = true := by simp; omega
      have He := Lib.hid he0
      clear hz ho he e3 he0
      go_enter Try.func24, Try.ntmps24
      go_wp2_with fail
      refine Hc.out.mono ?_
      rintro e' w' ⟨rfl, rfl⟩
      go_wp2
      go_ret3
      rw [He.out]
      exact ⟨rfl, rfl⟩
    · rw [if_neg ho] at hz
      rw [hz]
      have ho2 : ((v : Int) % 2 == 1) = false := by simp; omega
      have He := Lib.hid he0
      clear hz ho he e3 he0
      go_enter Try.func24, Try.ntmps24
      go_wp2_with fail
      refine Hc.out.mono ?_
      rintro e' w' ⟨rfl, rfl⟩
      go_wp2
      go_ret3
      rw [He.out]
      exact ⟨rfl, rfl⟩
  · have hv0 : v = 0 ∧ to = 0 := by omega
    obtain ⟨rfl, rfl⟩ := hv0
    have hne : ((e : Int) != 0) = true := by simp; omega
    clear he he0
    go_enter Try.func24, Try.ntmps24
    go_wp2_with fail
    refine Hc.out.mono ?_
    rintro e' w' ⟨rfl, rfl⟩
    go_wp2
    go_ret3
    exact ⟨rfl, rfl⟩
end Go.Proofs.Ytlnbebeghfhfdaa
