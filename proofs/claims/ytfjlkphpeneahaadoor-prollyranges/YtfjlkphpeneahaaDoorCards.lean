/-
  DERIVED. GIVEN WITH THE SEED: THE CARDS: each row of YtfjlkphpeneahaaDoorRows.lean that lists a variable, with what it lists TIED to the program's text (the seventh form; the later family's looks); each row that meets fmt, with fmt's text TOLD by the authors' own Lean function (tested against real Go, not proved from fmt's source: count such statements apart). THE CARD IS WHAT COUNTS. Prove the row's statement (the work); the ties are given (YtfjlkphpeneahaaDoorTie.lean); close each card by the builder's one call (the guide's Derived/Test/ToyasCard.lean, 'card_holds'). Laid BY PROGRAM, IN A SANDBOX (cutbox-door.mjs). By AI agents, Wed Nov 11 2026. No macro, syntax, notation, axiom, sorry.
-/
import Derived.Test.YtfjlkphpeneahaaDoorRows
import GoSem.ClaimSeven
namespace Go.Proofs.YtfjlkphpeneahaaDoor
namespace Rows

/-- THE TIED CARD OF 'pleachlaw08.ProllyBuilds'. -/
def prollyBuildsCard : Claim7 := { stood := { row := prollyBuildsRow, standIns := [], harness := (true, "0c8ce8de7b31ba94bd198023ed434548440a966040c55da097e3d71cef34b3bd"), looks := false }, kinds := [], alts := [], laidByText := true, laidKinds := [.data], laidTests := true, laidLooks := .later }
def ProllyBuildsCardSaid : Prop := Claim7.holds Tryd.pinned (.plain (OpenSpec.ofChange prollyBuildsSpec)) prollyBuildsCard

/-- THE TIED CARD OF 'pleachlaw08.ProllyFinds'. -/
def prollyFindsCard : Claim7 := { stood := { row := prollyFindsRow, standIns := [], harness := (true, "0c8ce8de7b31ba94bd198023ed434548440a966040c55da097e3d71cef34b3bd"), looks := false }, kinds := [], alts := [], laidByText := true, laidKinds := [.data], laidTests := true, laidLooks := .later }
def ProllyFindsCardSaid : Prop := Claim7.holds Tryd.pinned (.plain (OpenSpec.ofChange prollyFindsSpec)) prollyFindsCard

/-- THE TIED CARD OF 'pleachlaw08.ProllyReads'. -/
def prollyReadsCard : Claim7 := { stood := { row := prollyReadsRow, standIns := [], harness := (true, "0c8ce8de7b31ba94bd198023ed434548440a966040c55da097e3d71cef34b3bd"), looks := false }, kinds := [], alts := [], laidByText := true, laidKinds := [.data], laidTests := true, laidLooks := .later }
def ProllyReadsCardSaid : Prop := Claim7.holds Tryd.pinned (.plain (OpenSpec.ofChange prollyReadsSpec)) prollyReadsCard

/-- THE TIED CARD OF 'pleachlaw08.ProllyOne'. -/
def prollyOneCard : Claim7 := { stood := { row := prollyOneRow, standIns := [], harness := (true, "0c8ce8de7b31ba94bd198023ed434548440a966040c55da097e3d71cef34b3bd"), looks := false }, kinds := [], alts := [], laidByText := true, laidKinds := [.data], laidTests := true, laidLooks := .later }
def ProllyOneCardSaid : Prop := Claim7.holds Tryd.pinned (.plain (OpenSpec.ofChange prollyOneSpec)) prollyOneCard

/-- THE TIED CARD OF 'pleachlaw08.ProllyRanges'. -/
def prollyRangesCard : Claim7 := { stood := { row := prollyRangesRow, standIns := [], harness := (true, "0c8ce8de7b31ba94bd198023ed434548440a966040c55da097e3d71cef34b3bd"), looks := false }, kinds := [], alts := [], laidByText := true, laidKinds := [.data], laidTests := true, laidLooks := .later }
def ProllyRangesCardSaid : Prop := Claim7.holds Tryd.pinned (.plain (OpenSpec.ofChange prollyRangesSpec)) prollyRangesCard

/-- THE TIED CARD OF 'pleachlaw08.ProllyNear'. -/
def prollyNearCard : Claim7 := { stood := { row := prollyNearRow, standIns := [], harness := (true, "0c8ce8de7b31ba94bd198023ed434548440a966040c55da097e3d71cef34b3bd"), looks := false }, kinds := [], alts := [], laidByText := true, laidKinds := [.data], laidTests := true, laidLooks := .later }
def ProllyNearCardSaid : Prop := Claim7.holds Tryd.pinned (.plain (OpenSpec.ofChange prollyNearSpec)) prollyNearCard

/-- THE SECOND FORM's CARD OF 'pleachlaw08.ProllyBuilds'. -/
def prollyBuildsUptoCard : Claim7 := { stood := { row := prollyBuildsUptoRow, standIns := [], harness := (true, "0c8ce8de7b31ba94bd198023ed434548440a966040c55da097e3d71cef34b3bd"), looks := false }, kinds := [], alts := [], laidByText := true, laidKinds := [.data], laidTests := true, laidLooks := .later }
def ProllyBuildsUptoCardSaid : Prop := Claim7.holds Tryd.pinned (.plain (OpenSpec.upto prollyBuildsSpec)) prollyBuildsUptoCard

/-- THE SECOND FORM's CARD OF 'pleachlaw08.ProllyFinds'. -/
def prollyFindsUptoCard : Claim7 := { stood := { row := prollyFindsUptoRow, standIns := [], harness := (true, "0c8ce8de7b31ba94bd198023ed434548440a966040c55da097e3d71cef34b3bd"), looks := false }, kinds := [], alts := [], laidByText := true, laidKinds := [.data], laidTests := true, laidLooks := .later }
def ProllyFindsUptoCardSaid : Prop := Claim7.holds Tryd.pinned (.plain (OpenSpec.upto prollyFindsSpec)) prollyFindsUptoCard

/-- THE SECOND FORM's CARD OF 'pleachlaw08.ProllyReads'. -/
def prollyReadsUptoCard : Claim7 := { stood := { row := prollyReadsUptoRow, standIns := [], harness := (true, "0c8ce8de7b31ba94bd198023ed434548440a966040c55da097e3d71cef34b3bd"), looks := false }, kinds := [], alts := [], laidByText := true, laidKinds := [.data], laidTests := true, laidLooks := .later }
def ProllyReadsUptoCardSaid : Prop := Claim7.holds Tryd.pinned (.plain (OpenSpec.upto prollyReadsSpec)) prollyReadsUptoCard

/-- THE SECOND FORM's CARD OF 'pleachlaw08.ProllyOne'. -/
def prollyOneUptoCard : Claim7 := { stood := { row := prollyOneUptoRow, standIns := [], harness := (true, "0c8ce8de7b31ba94bd198023ed434548440a966040c55da097e3d71cef34b3bd"), looks := false }, kinds := [], alts := [], laidByText := true, laidKinds := [.data], laidTests := true, laidLooks := .later }
def ProllyOneUptoCardSaid : Prop := Claim7.holds Tryd.pinned (.plain (OpenSpec.upto prollyOneSpec)) prollyOneUptoCard

/-- THE SECOND FORM's CARD OF 'pleachlaw08.ProllyRanges'. -/
def prollyRangesUptoCard : Claim7 := { stood := { row := prollyRangesUptoRow, standIns := [], harness := (true, "0c8ce8de7b31ba94bd198023ed434548440a966040c55da097e3d71cef34b3bd"), looks := false }, kinds := [], alts := [], laidByText := true, laidKinds := [.data], laidTests := true, laidLooks := .later }
def ProllyRangesUptoCardSaid : Prop := Claim7.holds Tryd.pinned (.plain (OpenSpec.upto prollyRangesSpec)) prollyRangesUptoCard

/-- THE SECOND FORM's CARD OF 'pleachlaw08.ProllyNear'. -/
def prollyNearUptoCard : Claim7 := { stood := { row := prollyNearUptoRow, standIns := [], harness := (true, "0c8ce8de7b31ba94bd198023ed434548440a966040c55da097e3d71cef34b3bd"), looks := false }, kinds := [], alts := [], laidByText := true, laidKinds := [.data], laidTests := true, laidLooks := .later }
def ProllyNearUptoCardSaid : Prop := Claim7.holds Tryd.pinned (.plain (OpenSpec.upto prollyNearSpec)) prollyNearUptoCard
end Rows
end Go.Proofs.YtfjlkphpeneahaaDoor
