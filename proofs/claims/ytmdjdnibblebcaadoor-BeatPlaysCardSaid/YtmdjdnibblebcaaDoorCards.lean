/-
  DERIVED. GIVEN WITH THE SEED: THE CARDS: each row of YtmdjdnibblebcaaDoorRows.lean that lists a variable, with what it lists TIED to the program's text (the seventh form; the later family's looks); each row that meets fmt, with fmt's text TOLD by the authors' own Lean function (tested against real Go, not proved from fmt's source: count such statements apart). THE CARD IS WHAT COUNTS. Prove the row's statement (the work); the ties are given (YtmdjdnibblebcaaDoorTie.lean); close each card by the builder's one call (the guide's Derived/Test/ToyasCard.lean, 'card_holds'). Laid BY PROGRAM, IN A SANDBOX (cutbox-door.mjs). By AI agents, Wed Nov 11 2026. No macro, syntax, notation, axiom, sorry.
-/
import Derived.Test.YtmdjdnibblebcaaDoorRows
import GoSem.ClaimSeven
namespace Go.Proofs.YtmdjdnibblebcaaDoor
namespace Rows

/-- THE TIED CARD OF 'seawalllaw14.BeatPlays'. -/
def beatPlaysCard : Claim7 := { stood := { row := beatPlaysRow, standIns := [], harness := (true, "e30e3e0fc4742ea4baea0d03aefec0522e10e14a5bfbcbce9887d7b90857bfa2"), looks := false }, kinds := [], alts := [], laidByText := true, laidKinds := [.data], laidTests := true, laidLooks := .later }
def BeatPlaysCardSaid : Prop := Claim7.holds Tryd.pinned (.plain (OpenSpec.ofChange beatPlaysSpec)) beatPlaysCard

/-- THE TIED CARD OF 'seawalllaw14.BeatUp'. -/
def beatUpCard : Claim7 := { stood := { row := beatUpRow, standIns := [], harness := (true, "e30e3e0fc4742ea4baea0d03aefec0522e10e14a5bfbcbce9887d7b90857bfa2"), looks := false }, kinds := [], alts := [], laidByText := true, laidKinds := [.data], laidTests := true, laidLooks := .later }
def BeatUpCardSaid : Prop := Claim7.holds Tryd.pinned (.plain (OpenSpec.ofChange beatUpSpec)) beatUpCard

/-- THE TIED CARD OF 'seawalllaw14.BeatOrder'. -/
def beatOrderCard : Claim7 := { stood := { row := beatOrderRow, standIns := [], harness := (true, "e30e3e0fc4742ea4baea0d03aefec0522e10e14a5bfbcbce9887d7b90857bfa2"), looks := false }, kinds := [], alts := [], laidByText := true, laidKinds := [.data], laidTests := true, laidLooks := .later }
def BeatOrderCardSaid : Prop := Claim7.holds Tryd.pinned (.plain (OpenSpec.ofChange beatOrderSpec)) beatOrderCard

/-- THE TIED CARD OF 'seawalllaw14.BeatAgree'. -/
def beatAgreeCard : Claim7 := { stood := { row := beatAgreeRow, standIns := [], harness := (true, "e30e3e0fc4742ea4baea0d03aefec0522e10e14a5bfbcbce9887d7b90857bfa2"), looks := false }, kinds := [], alts := [], laidByText := true, laidKinds := [.data], laidTests := true, laidLooks := .later }
def BeatAgreeCardSaid : Prop := Claim7.holds Tryd.pinned (.plain (OpenSpec.ofChange beatAgreeSpec)) beatAgreeCard

/-- THE TIED CARD OF 'seawalllaw14.BeatCalm'. -/
def beatCalmCard : Claim7 := { stood := { row := beatCalmRow, standIns := [], harness := (true, "e30e3e0fc4742ea4baea0d03aefec0522e10e14a5bfbcbce9887d7b90857bfa2"), looks := false }, kinds := [], alts := [], laidByText := true, laidKinds := [.data], laidTests := true, laidLooks := .later }
def BeatCalmCardSaid : Prop := Claim7.holds Tryd.pinned (.plain (OpenSpec.ofChange beatCalmSpec)) beatCalmCard

/-- THE TIED CARD OF 'seawalllaw14.BeatLeads'. -/
def beatLeadsCard : Claim7 := { stood := { row := beatLeadsRow, standIns := [], harness := (true, "e30e3e0fc4742ea4baea0d03aefec0522e10e14a5bfbcbce9887d7b90857bfa2"), looks := false }, kinds := [], alts := [], laidByText := true, laidKinds := [.data], laidTests := true, laidLooks := .later }
def BeatLeadsCardSaid : Prop := Claim7.holds Tryd.pinned (.plain (OpenSpec.ofChange beatLeadsSpec)) beatLeadsCard

/-- THE TIED CARD OF 'seawalllaw14.BeatNil'. -/
def beatNilCard : Claim7 := { stood := { row := beatNilRow, standIns := [], harness := (true, "e30e3e0fc4742ea4baea0d03aefec0522e10e14a5bfbcbce9887d7b90857bfa2"), looks := false }, kinds := [], alts := [], laidByText := true, laidKinds := [.data], laidTests := true, laidLooks := .later }
def BeatNilCardSaid : Prop := Claim7.holds Tryd.pinned (.plain (OpenSpec.ofChange beatNilSpec)) beatNilCard

/-- THE SECOND FORM's CARD OF 'seawalllaw14.BeatPlays'. -/
def beatPlaysUptoCard : Claim7 := { stood := { row := beatPlaysUptoRow, standIns := [], harness := (true, "e30e3e0fc4742ea4baea0d03aefec0522e10e14a5bfbcbce9887d7b90857bfa2"), looks := false }, kinds := [], alts := [], laidByText := true, laidKinds := [.data], laidTests := true, laidLooks := .later }
def BeatPlaysUptoCardSaid : Prop := Claim7.holds Tryd.pinned (.plain (OpenSpec.upto beatPlaysSpec)) beatPlaysUptoCard

/-- THE SECOND FORM's CARD OF 'seawalllaw14.BeatUp'. -/
def beatUpUptoCard : Claim7 := { stood := { row := beatUpUptoRow, standIns := [], harness := (true, "e30e3e0fc4742ea4baea0d03aefec0522e10e14a5bfbcbce9887d7b90857bfa2"), looks := false }, kinds := [], alts := [], laidByText := true, laidKinds := [.data], laidTests := true, laidLooks := .later }
def BeatUpUptoCardSaid : Prop := Claim7.holds Tryd.pinned (.plain (OpenSpec.upto beatUpSpec)) beatUpUptoCard

/-- THE SECOND FORM's CARD OF 'seawalllaw14.BeatOrder'. -/
def beatOrderUptoCard : Claim7 := { stood := { row := beatOrderUptoRow, standIns := [], harness := (true, "e30e3e0fc4742ea4baea0d03aefec0522e10e14a5bfbcbce9887d7b90857bfa2"), looks := false }, kinds := [], alts := [], laidByText := true, laidKinds := [.data], laidTests := true, laidLooks := .later }
def BeatOrderUptoCardSaid : Prop := Claim7.holds Tryd.pinned (.plain (OpenSpec.upto beatOrderSpec)) beatOrderUptoCard

/-- THE SECOND FORM's CARD OF 'seawalllaw14.BeatAgree'. -/
def beatAgreeUptoCard : Claim7 := { stood := { row := beatAgreeUptoRow, standIns := [], harness := (true, "e30e3e0fc4742ea4baea0d03aefec0522e10e14a5bfbcbce9887d7b90857bfa2"), looks := false }, kinds := [], alts := [], laidByText := true, laidKinds := [.data], laidTests := true, laidLooks := .later }
def BeatAgreeUptoCardSaid : Prop := Claim7.holds Tryd.pinned (.plain (OpenSpec.upto beatAgreeSpec)) beatAgreeUptoCard

/-- THE SECOND FORM's CARD OF 'seawalllaw14.BeatCalm'. -/
def beatCalmUptoCard : Claim7 := { stood := { row := beatCalmUptoRow, standIns := [], harness := (true, "e30e3e0fc4742ea4baea0d03aefec0522e10e14a5bfbcbce9887d7b90857bfa2"), looks := false }, kinds := [], alts := [], laidByText := true, laidKinds := [.data], laidTests := true, laidLooks := .later }
def BeatCalmUptoCardSaid : Prop := Claim7.holds Tryd.pinned (.plain (OpenSpec.upto beatCalmSpec)) beatCalmUptoCard

/-- THE SECOND FORM's CARD OF 'seawalllaw14.BeatLeads'. -/
def beatLeadsUptoCard : Claim7 := { stood := { row := beatLeadsUptoRow, standIns := [], harness := (true, "e30e3e0fc4742ea4baea0d03aefec0522e10e14a5bfbcbce9887d7b90857bfa2"), looks := false }, kinds := [], alts := [], laidByText := true, laidKinds := [.data], laidTests := true, laidLooks := .later }
def BeatLeadsUptoCardSaid : Prop := Claim7.holds Tryd.pinned (.plain (OpenSpec.upto beatLeadsSpec)) beatLeadsUptoCard

/-- THE SECOND FORM's CARD OF 'seawalllaw14.BeatNil'. -/
def beatNilUptoCard : Claim7 := { stood := { row := beatNilUptoRow, standIns := [], harness := (true, "e30e3e0fc4742ea4baea0d03aefec0522e10e14a5bfbcbce9887d7b90857bfa2"), looks := false }, kinds := [], alts := [], laidByText := true, laidKinds := [.data], laidTests := true, laidLooks := .later }
def BeatNilUptoCardSaid : Prop := Claim7.holds Tryd.pinned (.plain (OpenSpec.upto beatNilSpec)) beatNilUptoCard
end Rows
end Go.Proofs.YtmdjdnibblebcaaDoor
