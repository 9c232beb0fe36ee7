/- Plain: what was put behind other bytes is read again. -/
import Derived.Test.YtgippbbbfpkhhaaLent2
import Derived.Lib.Zigzag
namespace Go.Proofs.Ytgippbbbfpkhhaa
theorem unzig_zigzag (i : Int) : unzig (Lib.zigzag i) = i := by
  unfold unzig Lib.zigzag
  by_cases h : 0 ≤ i
  · rw [if_pos h]
    rw [if_neg (by omega)]
    omega
  · rw [if_neg h]
    rw [if_pos (by omega)]
    omega
theorem uintAt_back (pre rest : List UInt8) (n : Nat) (hn : n < 18446744073709551616) : uintAt (pre ++ (Lib.uvarint n ++ rest)) (pre.length : Int) = ((n : Int), (pre.length : Int) + ((Lib.uvarint n).length : Int), 0) := by
  rw [uintAt_in _ _ (by simp), List.drop_left, uu0_back n rest hn]
  rfl
theorem intAt_back (pre rest : List UInt8) (i : Int) (h1 : -9223372036854775808 ≤ i) (h2 : i ≤ 9223372036854775807) : intAt (pre ++ (Lib.uvarint (Lib.zigzag i) ++ rest)) (pre.length : Int) = (i, (pre.length : Int) + ((Lib.uvarint (Lib.zigzag i)).length : Int), 0) := by
  unfold intAt
  rw [uintAt_back _ _ _ (Lib.zigzag_lt h1 h2), Int.toNat_natCast, unzig_zigzag]
theorem txtAt_back (pre s rest : List UInt8) (most : Int) (hs : (s.length : Int) ≤ most) (hb : s.length < 18446744073709551616) : txtAt (pre ++ (putB s ++ rest)) (pre.length : Int) most = (s, (pre.length : Int) + ((putB s).length : Int), 0) := by
  unfold txtAt putB
  rw [List.append_assoc, uintAt_back _ _ _ hb]
  simp only [ne_eq, not_true_eq_false, if_false]
  rw [if_neg (by omega), if_neg (by simp; omega)]
  have e1 : ((pre.length : Int) + ((Lib.uvarint s.length).length : Int)).toNat = (pre ++ Lib.uvarint s.length).length := by rw [List.length_append]; omega
  rw [e1, Int.toNat_natCast, ← List.append_assoc, List.drop_left, List.take_left]
  refine Prod.ext rfl (Prod.ext ?_ rfl)
  show (pre.length : Int) + ((Lib.uvarint s.length).length : Int) + (s.length : Int) = (pre.length : Int) + ((Lib.uvarint s.length ++ s).length : Int)
  rw [List.length_append]
  omega
end Go.Proofs.Ytgippbbbfpkhhaa
