/-
  NARROWER THAN 'FOR EVERY INPUT', by the rows' own cells (each row's printed sentence says how): BeatPlays: laid · BeatUp: laid · BeatOrder: laid · BeatAgree: laid · BeatCalm: laid · BeatLeads: laid · BeatNil: laid.
  DERIVED. THE GIVEN ROWS OF THIS SEAT. 7 by the template 'for every input the law returns true; each argument reads behind the call as it read before'; 0 by the template 'total and deterministic' (their statements: YtmdjdnibblebcaaDoorTotals.lean).
  GIVEN WITH THE SEED: the statements are not yours to turn. If you find one false, say at which input.
  Laid BY PROGRAM, IN A SANDBOX (cutbox-rows.mjs): the forced cells as the released guide's own fill.sh prints them over the translation 0892871bbb481bfd… (all of the seat's roots in one cut). By AI agents, Wed Nov 11 2026. No macro, syntax, notation, axiom, sorry.
-/
import Derived.Test.YtmdjdnibblebcaaDoorChecked
import GoSem.Claim
import GoSem.ClaimJoined
import GoSem.ClaimMapViews
import Derived.JoinedTies
import Derived.KernelRfl
namespace Go.Proofs.YtmdjdnibblebcaaDoor
/- THE CELL 'sum', in the pinned program and in every row, IS THE sha256 OF THE DUMP (.gsa) THAT YtmdjdnibblebcaaDoorProg.lean LOADS. Nothing in Lean hashes anything: it is a label: what it is worth is what the hold of that sum in a sandbox is worth. -/
noncomputable def Tryd.pinned : Pinned := { name := "ytmdjdnibblebcaadoor", sum := "0892871bbb481bfd9f945585b3c3795087cdf661d92f38971ce5999c3c6f2f44", checked := Tryd.checked }
namespace Rows
def none {H : Type} : Left H := { results := [], args := [] }

/- WHAT THE LISTED PACKAGE-LEVEL VARIABLES READ AS WHEN THE CALL BEGINS. Each datum BY PROGRAM (the guide's laid-datum.mjs) off the statement by which the dump's own 'gosem.cut.vars' lays the variable. In a bare row this is a premise. The card (YtmdjdnibblebcaaDoorCards.lean) ties it to the program's text. -/
def laid_math_bits_deBruijn32tab {H : Type} : DataW H := .agg [.lit (.int .u8 0), .lit (.int .u8 1), .lit (.int .u8 28), .lit (.int .u8 2), .lit (.int .u8 29), .lit (.int .u8 14), .lit (.int .u8 24), .lit (.int .u8 3), .lit (.int .u8 30), .lit (.int .u8 22), .lit (.int .u8 20), .lit (.int .u8 15), .lit (.int .u8 25), .lit (.int .u8 17), .lit (.int .u8 4), .lit (.int .u8 8), .lit (.int .u8 31), .lit (.int .u8 27), .lit (.int .u8 13), .lit (.int .u8 23), .lit (.int .u8 21), .lit (.int .u8 19), .lit (.int .u8 16), .lit (.int .u8 7), .lit (.int .u8 26), .lit (.int .u8 12), .lit (.int .u8 18), .lit (.int .u8 6), .lit (.int .u8 11), .lit (.int .u8 5), .lit (.int .u8 10), .lit (.int .u8 9)]

/-- 'seawalllaw14.BeatPlays': WHATEVER THE INPUT: true; the input reads as it did. -/
def beatPlaysSpec : ChangeSpec := { name := "beatPlays", fn := fun _ => fun
  | [d1, d2, d3, d4, d5] => { results := [.lit (.bool true)], args := [d1, d2, d3, d4, d5] }
  | _ => none }
def beatPlaysRow : OpenClaim := { program := "ytmdjdnibblebcaadoor", sum := "0892871bbb481bfd9f945585b3c3795087cdf661d92f38971ce5999c3c6f2f44", func := "seawall/seawalllaw14.BeatPlays", spec := "beatPlays", unfollowed := true, recurses := true, named := ["math/bits.deBruijn32tab"], apart := false, laid := [("math/bits.deBruijn32tab", laid_math_bits_deBruijn32tab)] }
def BeatPlaysSaid : Prop := beatPlaysRow.holds Tryd.pinned (OpenSpec.ofChange beatPlaysSpec)

/-- ITS FALSE NEIGHBOUR: 'it returns false'. Refute it at one input. -/
def beatPlaysWrong : ChangeSpec := { name := "beatPlays", fn := fun _ => fun
  | [d1, d2, d3, d4, d5] => { results := [.lit (.bool false)], args := [d1, d2, d3, d4, d5] }
  | _ => none }
def BeatPlaysWrongFalsely : Prop := beatPlaysRow.holds Tryd.pinned (OpenSpec.ofChange beatPlaysWrong)

/-- 'seawalllaw14.BeatUp': WHATEVER THE INPUT: true; the input reads as it did. -/
def beatUpSpec : ChangeSpec := { name := "beatUp", fn := fun _ => fun
  | [d1, d2] => { results := [.lit (.bool true)], args := [d1, d2] }
  | _ => none }
def beatUpRow : OpenClaim := { program := "ytmdjdnibblebcaadoor", sum := "0892871bbb481bfd9f945585b3c3795087cdf661d92f38971ce5999c3c6f2f44", func := "seawall/seawalllaw14.BeatUp", spec := "beatUp", unfollowed := true, recurses := true, named := ["math/bits.deBruijn32tab"], apart := false, laid := [("math/bits.deBruijn32tab", laid_math_bits_deBruijn32tab)] }
def BeatUpSaid : Prop := beatUpRow.holds Tryd.pinned (OpenSpec.ofChange beatUpSpec)

/-- ITS FALSE NEIGHBOUR: 'it returns false'. Refute it at one input. -/
def beatUpWrong : ChangeSpec := { name := "beatUp", fn := fun _ => fun
  | [d1, d2] => { results := [.lit (.bool false)], args := [d1, d2] }
  | _ => none }
def BeatUpWrongFalsely : Prop := beatUpRow.holds Tryd.pinned (OpenSpec.ofChange beatUpWrong)

/-- 'seawalllaw14.BeatOrder': WHATEVER THE INPUT: true; the input reads as it did. -/
def beatOrderSpec : ChangeSpec := { name := "beatOrder", fn := fun _ => fun
  | [d1, d2, d3, d4] => { results := [.lit (.bool true)], args := [d1, d2, d3, d4] }
  | _ => none }
def beatOrderRow : OpenClaim := { program := "ytmdjdnibblebcaadoor", sum := "0892871bbb481bfd9f945585b3c3795087cdf661d92f38971ce5999c3c6f2f44", func := "seawall/seawalllaw14.BeatOrder", spec := "beatOrder", unfollowed := true, recurses := true, named := ["math/bits.deBruijn32tab"], apart := false, laid := [("math/bits.deBruijn32tab", laid_math_bits_deBruijn32tab)] }
def BeatOrderSaid : Prop := beatOrderRow.holds Tryd.pinned (OpenSpec.ofChange beatOrderSpec)

/-- ITS FALSE NEIGHBOUR: 'it returns false'. Refute it at one input. -/
def beatOrderWrong : ChangeSpec := { name := "beatOrder", fn := fun _ => fun
  | [d1, d2, d3, d4] => { results := [.lit (.bool false)], args := [d1, d2, d3, d4] }
  | _ => none }
def BeatOrderWrongFalsely : Prop := beatOrderRow.holds Tryd.pinned (OpenSpec.ofChange beatOrderWrong)

/-- 'seawalllaw14.BeatAgree': WHATEVER THE INPUT: true; the input reads as it did. -/
def beatAgreeSpec : ChangeSpec := { name := "beatAgree", fn := fun _ => fun
  | [d1, d2, d3, d4, d5] => { results := [.lit (.bool true)], args := [d1, d2, d3, d4, d5] }
  | _ => none }
def beatAgreeRow : OpenClaim := { program := "ytmdjdnibblebcaadoor", sum := "0892871bbb481bfd9f945585b3c3795087cdf661d92f38971ce5999c3c6f2f44", func := "seawall/seawalllaw14.BeatAgree", spec := "beatAgree", unfollowed := true, recurses := true, named := ["math/bits.deBruijn32tab"], apart := false, laid := [("math/bits.deBruijn32tab", laid_math_bits_deBruijn32tab)] }
def BeatAgreeSaid : Prop := beatAgreeRow.holds Tryd.pinned (OpenSpec.ofChange beatAgreeSpec)

/-- ITS FALSE NEIGHBOUR: 'it returns false'. Refute it at one input. -/
def beatAgreeWrong : ChangeSpec := { name := "beatAgree", fn := fun _ => fun
  | [d1, d2, d3, d4, d5] => { results := [.lit (.bool false)], args := [d1, d2, d3, d4, d5] }
  | _ => none }
def BeatAgreeWrongFalsely : Prop := beatAgreeRow.holds Tryd.pinned (OpenSpec.ofChange beatAgreeWrong)

/-- 'seawalllaw14.BeatCalm': WHATEVER THE INPUT: true; the input reads as it did. -/
def beatCalmSpec : ChangeSpec := { name := "beatCalm", fn := fun _ => fun
  | [d1, d2, d3, d4, d5] => { results := [.lit (.bool true)], args := [d1, d2, d3, d4, d5] }
  | _ => none }
def beatCalmRow : OpenClaim := { program := "ytmdjdnibblebcaadoor", sum := "0892871bbb481bfd9f945585b3c3795087cdf661d92f38971ce5999c3c6f2f44", func := "seawall/seawalllaw14.BeatCalm", spec := "beatCalm", unfollowed := true, recurses := true, named := ["math/bits.deBruijn32tab"], apart := false, laid := [("math/bits.deBruijn32tab", laid_math_bits_deBruijn32tab)] }
def BeatCalmSaid : Prop := beatCalmRow.holds Tryd.pinned (OpenSpec.ofChange beatCalmSpec)

/-- ITS FALSE NEIGHBOUR: 'it returns false'. Refute it at one input. -/
def beatCalmWrong : ChangeSpec := { name := "beatCalm", fn := fun _ => fun
  | [d1, d2, d3, d4, d5] => { results := [.lit (.bool false)], args := [d1, d2, d3, d4, d5] }
  | _ => none }
def BeatCalmWrongFalsely : Prop := beatCalmRow.holds Tryd.pinned (OpenSpec.ofChange beatCalmWrong)

/-- 'seawalllaw14.BeatLeads': WHATEVER THE INPUT: true; the input reads as it did. -/
def beatLeadsSpec : ChangeSpec := { name := "beatLeads", fn := fun _ => fun
  | [d1, d2, d3, d4] => { results := [.lit (.bool true)], args := [d1, d2, d3, d4] }
  | _ => none }
def beatLeadsRow : OpenClaim := { program := "ytmdjdnibblebcaadoor", sum := "0892871bbb481bfd9f945585b3c3795087cdf661d92f38971ce5999c3c6f2f44", func := "seawall/seawalllaw14.BeatLeads", spec := "beatLeads", unfollowed := true, recurses := true, named := ["math/bits.deBruijn32tab"], apart := false, laid := [("math/bits.deBruijn32tab", laid_math_bits_deBruijn32tab)] }
def BeatLeadsSaid : Prop := beatLeadsRow.holds Tryd.pinned (OpenSpec.ofChange beatLeadsSpec)

/-- ITS FALSE NEIGHBOUR: 'it returns false'. Refute it at one input. -/
def beatLeadsWrong : ChangeSpec := { name := "beatLeads", fn := fun _ => fun
  | [d1, d2, d3, d4] => { results := [.lit (.bool false)], args := [d1, d2, d3, d4] }
  | _ => none }
def BeatLeadsWrongFalsely : Prop := beatLeadsRow.holds Tryd.pinned (OpenSpec.ofChange beatLeadsWrong)

/-- 'seawalllaw14.BeatNil': WHATEVER THE INPUT: true; the input reads as it did. -/
def beatNilSpec : ChangeSpec := { name := "beatNil", fn := fun _ => fun
  | [d1, d2, d3] => { results := [.lit (.bool true)], args := [d1, d2, d3] }
  | _ => none }
def beatNilRow : OpenClaim := { program := "ytmdjdnibblebcaadoor", sum := "0892871bbb481bfd9f945585b3c3795087cdf661d92f38971ce5999c3c6f2f44", func := "seawall/seawalllaw14.BeatNil", spec := "beatNil", unfollowed := true, recurses := true, named := ["math/bits.deBruijn32tab"], apart := false, laid := [("math/bits.deBruijn32tab", laid_math_bits_deBruijn32tab)] }
def BeatNilSaid : Prop := beatNilRow.holds Tryd.pinned (OpenSpec.ofChange beatNilSpec)

/-- ITS FALSE NEIGHBOUR: 'it returns false'. Refute it at one input. -/
def beatNilWrong : ChangeSpec := { name := "beatNil", fn := fun _ => fun
  | [d1, d2, d3] => { results := [.lit (.bool false)], args := [d1, d2, d3] }
  | _ => none }
def BeatNilWrongFalsely : Prop := beatNilRow.holds Tryd.pinned (OpenSpec.ofChange beatNilWrong)

/- THE SECOND FORM. 'bulk': how many values and letters a reading holds, each counted each time it is reached (what is shared counts as often as it is met; a slice's spare places count too). A statement '..UptoSaid' is the law's where the arguments, and the package variables that the reading takes, are together of bulk at most 1048576: NARROWER than '..Said'. Prove '..Said' where nothing that the law and all that it calls make is longer than what came in: it says more and counts as full. Else prove '..UptoSaid'. A law counts once. -/
mutual
def uptoBulk {H : Type} : DataW H → Nat
  | .lit (.string bytes) => bytes.length + 1
  | .lit _ => 1
  | .nil => 1
  | .ptr d => uptoBulk d + 1
  | .slice elems spare => uptoBulkAll elems + uptoBulkAll spare + 1
  | .agg parts => uptoBulkAll parts + 1
  | .iface _ d => uptoBulk d + 1
  | .map entries => uptoBulkEntries entries + 1
  | .held _ => 1
def uptoBulkAll {H : Type} : List (DataW H) → Nat
  | [] => 0
  | d :: r => uptoBulk d + uptoBulkAll r
def uptoBulkEntries {H : Type} : List (Lit × DataW H) → Nat
  | [] => 0
  | x :: r => uptoBulkEntry x + uptoBulkEntries r
def uptoBulkEntry {H : Type} : Lit × DataW H → Nat
  | (.string bytes, d) => bytes.length + uptoBulk d + 1
  | (_, d) => uptoBulk d + 1
 end
def uptoSmall : (H : Type) → List (DataW H) → Bool := fun _ ds => decide (uptoBulkAll ds ≤ 1048576)
def OpenSpec.upto (s : _root_.Go.ChangeSpec) : _root_.Go.OpenSpec := { _root_.Go.OpenSpec.ofChange s with cond := some uptoSmall }

/-- 'seawalllaw14.BeatPlays', WHERE WHAT IT READS IS OF BULK AT MOST 1048576: true; the input reads as it did. -/
def beatPlaysUptoRow : OpenClaim := { program := "ytmdjdnibblebcaadoor", sum := "0892871bbb481bfd9f945585b3c3795087cdf661d92f38971ce5999c3c6f2f44", func := "seawall/seawalllaw14.BeatPlays", spec := "beatPlays", unfollowed := true, recurses := true, named := ["math/bits.deBruijn32tab"], apart := false, laid := [("math/bits.deBruijn32tab", laid_math_bits_deBruijn32tab)], narrowed := true }
def BeatPlaysUptoSaid : Prop := beatPlaysUptoRow.holds Tryd.pinned (OpenSpec.upto beatPlaysSpec)

/-- 'seawalllaw14.BeatUp', WHERE WHAT IT READS IS OF BULK AT MOST 1048576: true; the input reads as it did. -/
def beatUpUptoRow : OpenClaim := { program := "ytmdjdnibblebcaadoor", sum := "0892871bbb481bfd9f945585b3c3795087cdf661d92f38971ce5999c3c6f2f44", func := "seawall/seawalllaw14.BeatUp", spec := "beatUp", unfollowed := true, recurses := true, named := ["math/bits.deBruijn32tab"], apart := false, laid := [("math/bits.deBruijn32tab", laid_math_bits_deBruijn32tab)], narrowed := true }
def BeatUpUptoSaid : Prop := beatUpUptoRow.holds Tryd.pinned (OpenSpec.upto beatUpSpec)

/-- 'seawalllaw14.BeatOrder', WHERE WHAT IT READS IS OF BULK AT MOST 1048576: true; the input reads as it did. -/
def beatOrderUptoRow : OpenClaim := { program := "ytmdjdnibblebcaadoor", sum := "0892871bbb481bfd9f945585b3c3795087cdf661d92f38971ce5999c3c6f2f44", func := "seawall/seawalllaw14.BeatOrder", spec := "beatOrder", unfollowed := true, recurses := true, named := ["math/bits.deBruijn32tab"], apart := false, laid := [("math/bits.deBruijn32tab", laid_math_bits_deBruijn32tab)], narrowed := true }
def BeatOrderUptoSaid : Prop := beatOrderUptoRow.holds Tryd.pinned (OpenSpec.upto beatOrderSpec)

/-- 'seawalllaw14.BeatAgree', WHERE WHAT IT READS IS OF BULK AT MOST 1048576: true; the input reads as it did. -/
def beatAgreeUptoRow : OpenClaim := { program := "ytmdjdnibblebcaadoor", sum := "0892871bbb481bfd9f945585b3c3795087cdf661d92f38971ce5999c3c6f2f44", func := "seawall/seawalllaw14.BeatAgree", spec := "beatAgree", unfollowed := true, recurses := true, named := ["math/bits.deBruijn32tab"], apart := false, laid := [("math/bits.deBruijn32tab", laid_math_bits_deBruijn32tab)], narrowed := true }
def BeatAgreeUptoSaid : Prop := beatAgreeUptoRow.holds Tryd.pinned (OpenSpec.upto beatAgreeSpec)

/-- 'seawalllaw14.BeatCalm', WHERE WHAT IT READS IS OF BULK AT MOST 1048576: true; the input reads as it did. -/
def beatCalmUptoRow : OpenClaim := { program := "ytmdjdnibblebcaadoor", sum := "0892871bbb481bfd9f945585b3c3795087cdf661d92f38971ce5999c3c6f2f44", func := "seawall/seawalllaw14.BeatCalm", spec := "beatCalm", unfollowed := true, recurses := true, named := ["math/bits.deBruijn32tab"], apart := false, laid := [("math/bits.deBruijn32tab", laid_math_bits_deBruijn32tab)], narrowed := true }
def BeatCalmUptoSaid : Prop := beatCalmUptoRow.holds Tryd.pinned (OpenSpec.upto beatCalmSpec)

/-- 'seawalllaw14.BeatLeads', WHERE WHAT IT READS IS OF BULK AT MOST 1048576: true; the input reads as it did. -/
def beatLeadsUptoRow : OpenClaim := { program := "ytmdjdnibblebcaadoor", sum := "0892871bbb481bfd9f945585b3c3795087cdf661d92f38971ce5999c3c6f2f44", func := "seawall/seawalllaw14.BeatLeads", spec := "beatLeads", unfollowed := true, recurses := true, named := ["math/bits.deBruijn32tab"], apart := false, laid := [("math/bits.deBruijn32tab", laid_math_bits_deBruijn32tab)], narrowed := true }
def BeatLeadsUptoSaid : Prop := beatLeadsUptoRow.holds Tryd.pinned (OpenSpec.upto beatLeadsSpec)

/-- 'seawalllaw14.BeatNil', WHERE WHAT IT READS IS OF BULK AT MOST 1048576: true; the input reads as it did. -/
def beatNilUptoRow : OpenClaim := { program := "ytmdjdnibblebcaadoor", sum := "0892871bbb481bfd9f945585b3c3795087cdf661d92f38971ce5999c3c6f2f44", func := "seawall/seawalllaw14.BeatNil", spec := "beatNil", unfollowed := true, recurses := true, named := ["math/bits.deBruijn32tab"], apart := false, laid := [("math/bits.deBruijn32tab", laid_math_bits_deBruijn32tab)], narrowed := true }
def BeatNilUptoSaid : Prop := beatNilUptoRow.holds Tryd.pinned (OpenSpec.upto beatNilSpec)

end Rows
end Go.Proofs.YtmdjdnibblebcaaDoor
