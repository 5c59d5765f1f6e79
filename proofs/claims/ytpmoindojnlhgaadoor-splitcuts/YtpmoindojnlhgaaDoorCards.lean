/-
  DERIVED. GIVEN WITH THE SEED: THE CARDS: each row of YtpmoindojnlhgaaDoorRows.lean that lists a variable, with what it lists TIED to the program's text (the seventh form; the later family's looks); each row that meets fmt, with fmt's text TOLD by the authors' own Lean function (tested against real Go, not proved from fmt's source: count such statements apart). THE CARD IS WHAT COUNTS. Prove the row's statement (the work); the ties are given (YtpmoindojnlhgaaDoorTie.lean); close each card by the builder's one call (the guide's Derived/Test/ToyasCard.lean, 'card_holds'). Laid BY PROGRAM, IN A SANDBOX (cutbox-door.mjs). By AI agents, Wed Nov 11 2026. No macro, syntax, notation, axiom, sorry.
-/
import Derived.Test.YtpmoindojnlhgaaDoorRows
import GoSem.ClaimSeven
namespace Go.Proofs.YtpmoindojnlhgaaDoor
namespace Rows

/-- THE TIED CARD OF 'pleachlaw07.SplitCuts'. -/
def splitCutsCard : Claim7 := { stood := { row := splitCutsRow, standIns := [], harness := (true, "7ed3ca2089cefb1cd6008c2f18ec5fc9c1acc20f0329269ca2071071eb4d52dd"), looks := false }, kinds := [], alts := [], laidByText := true, laidKinds := [.data], laidTests := true, laidLooks := .later }
def SplitCutsCardSaid : Prop := Claim7.holds Tryd.pinned (.plain (OpenSpec.ofChange splitCutsSpec)) splitCutsCard

/-- THE TIED CARD OF 'pleachlaw07.SplitParts'. -/
def splitPartsCard : Claim7 := { stood := { row := splitPartsRow, standIns := [], harness := (true, "7ed3ca2089cefb1cd6008c2f18ec5fc9c1acc20f0329269ca2071071eb4d52dd"), looks := false }, kinds := [], alts := [], laidByText := true, laidKinds := [.data], laidTests := true, laidLooks := .later }
def SplitPartsCardSaid : Prop := Claim7.holds Tryd.pinned (.plain (OpenSpec.ofChange splitPartsSpec)) splitPartsCard

/-- THE TIED CARD OF 'pleachlaw07.SplitBehind'. -/
def splitBehindCard : Claim7 := { stood := { row := splitBehindRow, standIns := [], harness := (true, "7ed3ca2089cefb1cd6008c2f18ec5fc9c1acc20f0329269ca2071071eb4d52dd"), looks := false }, kinds := [], alts := [], laidByText := true, laidKinds := [.data], laidTests := true, laidLooks := .later }
def SplitBehindCardSaid : Prop := Claim7.holds Tryd.pinned (.plain (OpenSpec.ofChange splitBehindSpec)) splitBehindCard

/-- THE SECOND FORM's CARD OF 'pleachlaw07.SplitCuts'. -/
def splitCutsUptoCard : Claim7 := { stood := { row := splitCutsUptoRow, standIns := [], harness := (true, "7ed3ca2089cefb1cd6008c2f18ec5fc9c1acc20f0329269ca2071071eb4d52dd"), looks := false }, kinds := [], alts := [], laidByText := true, laidKinds := [.data], laidTests := true, laidLooks := .later }
def SplitCutsUptoCardSaid : Prop := Claim7.holds Tryd.pinned (.plain (OpenSpec.upto splitCutsSpec)) splitCutsUptoCard

/-- THE SECOND FORM's CARD OF 'pleachlaw07.SplitParts'. -/
def splitPartsUptoCard : Claim7 := { stood := { row := splitPartsUptoRow, standIns := [], harness := (true, "7ed3ca2089cefb1cd6008c2f18ec5fc9c1acc20f0329269ca2071071eb4d52dd"), looks := false }, kinds := [], alts := [], laidByText := true, laidKinds := [.data], laidTests := true, laidLooks := .later }
def SplitPartsUptoCardSaid : Prop := Claim7.holds Tryd.pinned (.plain (OpenSpec.upto splitPartsSpec)) splitPartsUptoCard

/-- THE SECOND FORM's CARD OF 'pleachlaw07.SplitBehind'. -/
def splitBehindUptoCard : Claim7 := { stood := { row := splitBehindUptoRow, standIns := [], harness := (true, "7ed3ca2089cefb1cd6008c2f18ec5fc9c1acc20f0329269ca2071071eb4d52dd"), looks := false }, kinds := [], alts := [], laidByText := true, laidKinds := [.data], laidTests := true, laidLooks := .later }
def SplitBehindUptoCardSaid : Prop := Claim7.holds Tryd.pinned (.plain (OpenSpec.upto splitBehindSpec)) splitBehindUptoCard
end Rows
end Go.Proofs.YtpmoindojnlhgaaDoor
