/-
  No cell of these rows narrows 'for every input' (looked for: loops, veiled, ifaces, maps, wideKeys, modest, calm, conditions, laid).
  DERIVED. THE GIVEN ROWS OF THIS SEAT. 7 by the template 'for every input the law returns true; each argument reads behind the call as it read before'; 0 by the template 'total and deterministic' (their statements: YtpgjilpalhclcaaTotals.lean).
  GIVEN WITH THE SEED: the statements are not yours to turn. If you find one false, say at which input.
  Laid BY PROGRAM, IN A SANDBOX (cutbox-rows.mjs): the forced cells as the released guide's own fill.sh prints them over the translation 5da7b58460920713… (all of the seat's roots in one cut). By AI agents, Wed Nov 11 2026. No macro, syntax, notation, axiom, sorry.
-/
import Derived.Test.YtpgjilpalhclcaaChecked
import GoSem.Claim
import GoSem.ClaimJoined
import GoSem.ClaimMapViews
import Derived.JoinedTies
import Derived.KernelRfl
namespace Go.Proofs.Ytpgjilpalhclcaa
/- THE CELL 'sum', in the pinned program and in every row, IS THE sha256 OF THE DUMP (.gsa) THAT YtpgjilpalhclcaaProg.lean LOADS. Nothing in Lean hashes anything: it is a label: what it is worth is what the hold of that sum in a sandbox is worth. -/
noncomputable def Try.pinned : Pinned := { name := "ytpgjilpalhclcaa", sum := "5da7b5846092071358d92263b2279b49b54bfafad0dc2ae98fcac6bfe6752def", checked := Try.checked }
namespace Rows
def none {H : Type} : Left H := { results := [], args := [] }

/-- 'seawalllaw12.RlogPlays': WHATEVER THE INPUT: true; the input reads as it did. -/
def rlogPlaysSpec : ChangeSpec := { name := "rlogPlays", fn := fun _ => fun
  | [d1, d2, d3] => { results := [.lit (.bool true)], args := [d1, d2, d3] }
  | _ => none }
def rlogPlaysRow : OpenClaim := { program := "ytpgjilpalhclcaa", sum := "5da7b5846092071358d92263b2279b49b54bfafad0dc2ae98fcac6bfe6752def", func := "seawall/seawalllaw12.RlogPlays", spec := "rlogPlays", inPlace := ["slices.overlaps[seawall/api.Entry]"], unfollowed := true, recurses := true, apart := false }
def RlogPlaysSaid : Prop := rlogPlaysRow.holds Try.pinned (OpenSpec.ofChange rlogPlaysSpec)

/-- ITS FALSE NEIGHBOUR: 'it returns false'. Refute it at one input. -/
def rlogPlaysWrong : ChangeSpec := { name := "rlogPlays", fn := fun _ => fun
  | [d1, d2, d3] => { results := [.lit (.bool false)], args := [d1, d2, d3] }
  | _ => none }
def RlogPlaysWrongFalsely : Prop := rlogPlaysRow.holds Try.pinned (OpenSpec.ofChange rlogPlaysWrong)

/-- 'seawalllaw12.RlogOrder': WHATEVER THE INPUT: true; the input reads as it did. -/
def rlogOrderSpec : ChangeSpec := { name := "rlogOrder", fn := fun _ => fun
  | [d] => { results := [.lit (.bool true)], args := [d] }
  | _ => none }
def rlogOrderRow : OpenClaim := { program := "ytpgjilpalhclcaa", sum := "5da7b5846092071358d92263b2279b49b54bfafad0dc2ae98fcac6bfe6752def", func := "seawall/seawalllaw12.RlogOrder", spec := "rlogOrder", inPlace := ["slices.overlaps[seawall/api.Entry]"], unfollowed := true, recurses := true, apart := false }
def RlogOrderSaid : Prop := rlogOrderRow.holds Try.pinned (OpenSpec.ofChange rlogOrderSpec)

/-- ITS FALSE NEIGHBOUR: 'it returns false'. Refute it at one input. -/
def rlogOrderWrong : ChangeSpec := { name := "rlogOrder", fn := fun _ => fun
  | [d] => { results := [.lit (.bool false)], args := [d] }
  | _ => none }
def RlogOrderWrongFalsely : Prop := rlogOrderRow.holds Try.pinned (OpenSpec.ofChange rlogOrderWrong)

/-- 'seawalllaw12.RlogSame': WHATEVER THE INPUT: true; the input reads as it did. -/
def rlogSameSpec : ChangeSpec := { name := "rlogSame", fn := fun _ => fun
  | [d1, d2, d3] => { results := [.lit (.bool true)], args := [d1, d2, d3] }
  | _ => none }
def rlogSameRow : OpenClaim := { program := "ytpgjilpalhclcaa", sum := "5da7b5846092071358d92263b2279b49b54bfafad0dc2ae98fcac6bfe6752def", func := "seawall/seawalllaw12.RlogSame", spec := "rlogSame", inPlace := ["slices.overlaps[seawall/api.Entry]"], unfollowed := true, recurses := true, apart := false }
def RlogSameSaid : Prop := rlogSameRow.holds Try.pinned (OpenSpec.ofChange rlogSameSpec)

/-- ITS FALSE NEIGHBOUR: 'it returns false'. Refute it at one input. -/
def rlogSameWrong : ChangeSpec := { name := "rlogSame", fn := fun _ => fun
  | [d1, d2, d3] => { results := [.lit (.bool false)], args := [d1, d2, d3] }
  | _ => none }
def RlogSameWrongFalsely : Prop := rlogSameRow.holds Try.pinned (OpenSpec.ofChange rlogSameWrong)

/-- 'seawalllaw12.RlogCatches': WHATEVER THE INPUT: true; the input reads as it did. -/
def rlogCatchesSpec : ChangeSpec := { name := "rlogCatches", fn := fun _ => fun
  | [d1, d2, d3] => { results := [.lit (.bool true)], args := [d1, d2, d3] }
  | _ => none }
def rlogCatchesRow : OpenClaim := { program := "ytpgjilpalhclcaa", sum := "5da7b5846092071358d92263b2279b49b54bfafad0dc2ae98fcac6bfe6752def", func := "seawall/seawalllaw12.RlogCatches", spec := "rlogCatches", inPlace := ["slices.overlaps[seawall/api.Entry]"], unfollowed := true, recurses := true, apart := false }
def RlogCatchesSaid : Prop := rlogCatchesRow.holds Try.pinned (OpenSpec.ofChange rlogCatchesSpec)

/-- ITS FALSE NEIGHBOUR: 'it returns false'. Refute it at one input. -/
def rlogCatchesWrong : ChangeSpec := { name := "rlogCatches", fn := fun _ => fun
  | [d1, d2, d3] => { results := [.lit (.bool false)], args := [d1, d2, d3] }
  | _ => none }
def RlogCatchesWrongFalsely : Prop := rlogCatchesRow.holds Try.pinned (OpenSpec.ofChange rlogCatchesWrong)

/-- 'seawalllaw12.RlogHoles': WHATEVER THE INPUT: true; the input reads as it did. -/
def rlogHolesSpec : ChangeSpec := { name := "rlogHoles", fn := fun _ => fun
  | [d] => { results := [.lit (.bool true)], args := [d] }
  | _ => none }
def rlogHolesRow : OpenClaim := { program := "ytpgjilpalhclcaa", sum := "5da7b5846092071358d92263b2279b49b54bfafad0dc2ae98fcac6bfe6752def", func := "seawall/seawalllaw12.RlogHoles", spec := "rlogHoles", inPlace := ["slices.overlaps[seawall/api.Entry]"], unfollowed := true, recurses := true, apart := false }
def RlogHolesSaid : Prop := rlogHolesRow.holds Try.pinned (OpenSpec.ofChange rlogHolesSpec)

/-- ITS FALSE NEIGHBOUR: 'it returns false'. Refute it at one input. -/
def rlogHolesWrong : ChangeSpec := { name := "rlogHoles", fn := fun _ => fun
  | [d] => { results := [.lit (.bool false)], args := [d] }
  | _ => none }
def RlogHolesWrongFalsely : Prop := rlogHolesRow.holds Try.pinned (OpenSpec.ofChange rlogHolesWrong)

/-- 'seawalllaw12.RlogInstalls': WHATEVER THE INPUT: true; the input reads as it did. -/
def rlogInstallsSpec : ChangeSpec := { name := "rlogInstalls", fn := fun _ => fun
  | [d1, d2, d3] => { results := [.lit (.bool true)], args := [d1, d2, d3] }
  | _ => none }
def rlogInstallsRow : OpenClaim := { program := "ytpgjilpalhclcaa", sum := "5da7b5846092071358d92263b2279b49b54bfafad0dc2ae98fcac6bfe6752def", func := "seawall/seawalllaw12.RlogInstalls", spec := "rlogInstalls", inPlace := ["slices.overlaps[seawall/api.Entry]"], unfollowed := true, recurses := true, apart := false }
def RlogInstallsSaid : Prop := rlogInstallsRow.holds Try.pinned (OpenSpec.ofChange rlogInstallsSpec)

/-- ITS FALSE NEIGHBOUR: 'it returns false'. Refute it at one input. -/
def rlogInstallsWrong : ChangeSpec := { name := "rlogInstalls", fn := fun _ => fun
  | [d1, d2, d3] => { results := [.lit (.bool false)], args := [d1, d2, d3] }
  | _ => none }
def RlogInstallsWrongFalsely : Prop := rlogInstallsRow.holds Try.pinned (OpenSpec.ofChange rlogInstallsWrong)

/-- 'seawalllaw12.RlogOwn': WHATEVER THE INPUT: true; the input reads as it did. -/
def rlogOwnSpec : ChangeSpec := { name := "rlogOwn", fn := fun _ => fun
  | [d] => { results := [.lit (.bool true)], args := [d] }
  | _ => none }
def rlogOwnRow : OpenClaim := { program := "ytpgjilpalhclcaa", sum := "5da7b5846092071358d92263b2279b49b54bfafad0dc2ae98fcac6bfe6752def", func := "seawall/seawalllaw12.RlogOwn", spec := "rlogOwn", inPlace := ["slices.overlaps[seawall/api.Entry]"], unfollowed := true, recurses := true, apart := false }
def RlogOwnSaid : Prop := rlogOwnRow.holds Try.pinned (OpenSpec.ofChange rlogOwnSpec)

/-- ITS FALSE NEIGHBOUR: 'it returns false'. Refute it at one input. -/
def rlogOwnWrong : ChangeSpec := { name := "rlogOwn", fn := fun _ => fun
  | [d] => { results := [.lit (.bool false)], args := [d] }
  | _ => none }
def RlogOwnWrongFalsely : Prop := rlogOwnRow.holds Try.pinned (OpenSpec.ofChange rlogOwnWrong)

/- THE SECOND FORM. 'bulk': how many values and letters a reading holds, each counted each time it is reached (what is shared counts as often as it is met; a slice's spare places count too). A statement '..UptoSaid' is the law's where the arguments, and the package variables that the reading takes, are together of bulk at most 1048576: NARROWER than '..Said'. Prove '..Said' where nothing that the law and all that it calls make is longer than what came in: it says more and counts as full. Else prove '..UptoSaid'. A law counts once. -/
mutual
def uptoBulk {H : Type} : DataW H → Nat
  | .lit (.string bytes) => bytes.length + 1
  | .lit _ => 1
  | .nil => 1
  | .ptr d => uptoBulk d + 1
  | .slice elems spare => uptoBulkAll elems + uptoBulkAll spare + 1
  | .agg parts => uptoBulkAll parts + 1
  | .iface _ d => uptoBulk d + 1
  | .map entries => uptoBulkEntries entries + 1
  | .held _ => 1
def uptoBulkAll {H : Type} : List (DataW H) → Nat
  | [] => 0
  | d :: r => uptoBulk d + uptoBulkAll r
def uptoBulkEntries {H : Type} : List (Lit × DataW H) → Nat
  | [] => 0
  | x :: r => uptoBulkEntry x + uptoBulkEntries r
def uptoBulkEntry {H : Type} : Lit × DataW H → Nat
  | (.string bytes, d) => bytes.length + uptoBulk d + 1
  | (_, d) => uptoBulk d + 1
 end
def uptoSmall : (H : Type) → List (DataW H) → Bool := fun _ ds => decide (uptoBulkAll ds ≤ 1048576)
def OpenSpec.upto (s : _root_.Go.ChangeSpec) : _root_.Go.OpenSpec := { _root_.Go.OpenSpec.ofChange s with cond := some uptoSmall }

/-- 'seawalllaw12.RlogPlays', WHERE WHAT IT READS IS OF BULK AT MOST 1048576: true; the input reads as it did. -/
def rlogPlaysUptoRow : OpenClaim := { program := "ytpgjilpalhclcaa", sum := "5da7b5846092071358d92263b2279b49b54bfafad0dc2ae98fcac6bfe6752def", func := "seawall/seawalllaw12.RlogPlays", spec := "rlogPlays", inPlace := ["slices.overlaps[seawall/api.Entry]"], unfollowed := true, recurses := true, apart := false, narrowed := true }
def RlogPlaysUptoSaid : Prop := rlogPlaysUptoRow.holds Try.pinned (OpenSpec.upto rlogPlaysSpec)

/-- 'seawalllaw12.RlogOrder', WHERE WHAT IT READS IS OF BULK AT MOST 1048576: true; the input reads as it did. -/
def rlogOrderUptoRow : OpenClaim := { program := "ytpgjilpalhclcaa", sum := "5da7b5846092071358d92263b2279b49b54bfafad0dc2ae98fcac6bfe6752def", func := "seawall/seawalllaw12.RlogOrder", spec := "rlogOrder", inPlace := ["slices.overlaps[seawall/api.Entry]"], unfollowed := true, recurses := true, apart := false, narrowed := true }
def RlogOrderUptoSaid : Prop := rlogOrderUptoRow.holds Try.pinned (OpenSpec.upto rlogOrderSpec)

/-- 'seawalllaw12.RlogSame', WHERE WHAT IT READS IS OF BULK AT MOST 1048576: true; the input reads as it did. -/
def rlogSameUptoRow : OpenClaim := { program := "ytpgjilpalhclcaa", sum := "5da7b5846092071358d92263b2279b49b54bfafad0dc2ae98fcac6bfe6752def", func := "seawall/seawalllaw12.RlogSame", spec := "rlogSame", inPlace := ["slices.overlaps[seawall/api.Entry]"], unfollowed := true, recurses := true, apart := false, narrowed := true }
def RlogSameUptoSaid : Prop := rlogSameUptoRow.holds Try.pinned (OpenSpec.upto rlogSameSpec)

/-- 'seawalllaw12.RlogCatches', WHERE WHAT IT READS IS OF BULK AT MOST 1048576: true; the input reads as it did. -/
def rlogCatchesUptoRow : OpenClaim := { program := "ytpgjilpalhclcaa", sum := "5da7b5846092071358d92263b2279b49b54bfafad0dc2ae98fcac6bfe6752def", func := "seawall/seawalllaw12.RlogCatches", spec := "rlogCatches", inPlace := ["slices.overlaps[seawall/api.Entry]"], unfollowed := true, recurses := true, apart := false, narrowed := true }
def RlogCatchesUptoSaid : Prop := rlogCatchesUptoRow.holds Try.pinned (OpenSpec.upto rlogCatchesSpec)

/-- 'seawalllaw12.RlogHoles', WHERE WHAT IT READS IS OF BULK AT MOST 1048576: true; the input reads as it did. -/
def rlogHolesUptoRow : OpenClaim := { program := "ytpgjilpalhclcaa", sum := "5da7b5846092071358d92263b2279b49b54bfafad0dc2ae98fcac6bfe6752def", func := "seawall/seawalllaw12.RlogHoles", spec := "rlogHoles", inPlace := ["slices.overlaps[seawall/api.Entry]"], unfollowed := true, recurses := true, apart := false, narrowed := true }
def RlogHolesUptoSaid : Prop := rlogHolesUptoRow.holds Try.pinned (OpenSpec.upto rlogHolesSpec)

/-- 'seawalllaw12.RlogInstalls', WHERE WHAT IT READS IS OF BULK AT MOST 1048576: true; the input reads as it did. -/
def rlogInstallsUptoRow : OpenClaim := { program := "ytpgjilpalhclcaa", sum := "5da7b5846092071358d92263b2279b49b54bfafad0dc2ae98fcac6bfe6752def", func := "seawall/seawalllaw12.RlogInstalls", spec := "rlogInstalls", inPlace := ["slices.overlaps[seawall/api.Entry]"], unfollowed := true, recurses := true, apart := false, narrowed := true }
def RlogInstallsUptoSaid : Prop := rlogInstallsUptoRow.holds Try.pinned (OpenSpec.upto rlogInstallsSpec)

/-- 'seawalllaw12.RlogOwn', WHERE WHAT IT READS IS OF BULK AT MOST 1048576: true; the input reads as it did. -/
def rlogOwnUptoRow : OpenClaim := { program := "ytpgjilpalhclcaa", sum := "5da7b5846092071358d92263b2279b49b54bfafad0dc2ae98fcac6bfe6752def", func := "seawall/seawalllaw12.RlogOwn", spec := "rlogOwn", inPlace := ["slices.overlaps[seawall/api.Entry]"], unfollowed := true, recurses := true, apart := false, narrowed := true }
def RlogOwnUptoSaid : Prop := rlogOwnUptoRow.holds Try.pinned (OpenSpec.upto rlogOwnSpec)

end Rows
end Go.Proofs.Ytpgjilpalhclcaa
