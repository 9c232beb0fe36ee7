/- ref01.Fixed. -/
import Derived.Test.YtgippbbbfpkhhaaFixed
namespace Go.Proofs.Ytgippbbbfpkhhaa
open Go.RowKit

theorem be4 (a b c d : UInt8) : (be [a, b, c, d] : Int) = (a.toNat : Int) * 16777216 + (b.toNat : Int) * 65536 + (c.toNat : Int) * 256 + (d.toNat : Int) := by
  simp only [be, List.foldl_cons, List.foldl_nil]
  omega
theorem take4 (s : List UInt8) (h : 4 ≤ s.length) : s.take 4 = [s[0], s[1], s[2], s[3]] := by
  match s, h with
  | a :: b :: c :: d :: r, _ => rfl
  | [], h => simp at h
  | [_], h => simp at h
  | [_, _], h => simp at h
  | [_, _, _], h => simp at h

end Go.Proofs.Ytgippbbbfpkhhaa
