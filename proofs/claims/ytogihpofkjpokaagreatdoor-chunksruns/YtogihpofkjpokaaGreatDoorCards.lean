/-
  DERIVED. GIVEN WITH THE SEED: THE CARDS: each row of YtogihpofkjpokaaGreatDoorRows.lean that lists a variable, with what it lists TIED to the program's text (the seventh form; the later family's looks); each row that meets fmt, with fmt's text TOLD by the authors' own Lean function (tested against real Go, not proved from fmt's source: count such statements apart). THE CARD IS WHAT COUNTS. Prove the row's statement (the work); the ties are given (YtogihpofkjpokaaGreatDoorTie.lean); close each card by the builder's one call (the guide's Derived/Test/ToyasCard.lean, 'card_holds'). Laid BY PROGRAM, IN A SANDBOX (cutbox-door.mjs). By AI agents, Wed Nov 11 2026. No macro, syntax, notation, axiom, sorry.
-/
import Derived.Test.YtogihpofkjpokaaGreatDoorRows
import GoSem.ClaimSeven
namespace Go.Proofs.YtogihpofkjpokaaGreatDoor
namespace Rows

/-- THE TIED CARD OF 'pleachlaw06.ChunksRuns'. -/
def chunksRunsCard : Claim7 := { stood := { row := chunksRunsRow, standIns := [], harness := (true, "4fb39967700713d2ad060919d790917ee2545b6ef768aca7721dc822b8ecb7cb"), looks := false }, kinds := [], alts := [], laidByText := true, laidKinds := [.data], laidTests := true, laidLooks := .later }
def ChunksRunsCardSaid : Prop := Claim7.holds Tryz.pinned (.plain (OpenSpec.ofChange chunksRunsSpec)) chunksRunsCard

/-- THE TIED CARD OF 'pleachlaw06.ChunksAgain'. -/
def chunksAgainCard : Claim7 := { stood := { row := chunksAgainRow, standIns := [], harness := (true, "4fb39967700713d2ad060919d790917ee2545b6ef768aca7721dc822b8ecb7cb"), looks := false }, kinds := [], alts := [], laidByText := true, laidKinds := [.data], laidTests := true, laidLooks := .later }
def ChunksAgainCardSaid : Prop := Claim7.holds Tryz.pinned (.plain (OpenSpec.ofChange chunksAgainSpec)) chunksAgainCard

/-- THE TIED CARD OF 'pleachlaw06.ChunksFull'. -/
def chunksFullCard : Claim7 := { stood := { row := chunksFullRow, standIns := [], harness := (true, "4fb39967700713d2ad060919d790917ee2545b6ef768aca7721dc822b8ecb7cb"), looks := false }, kinds := [], alts := [], laidByText := true, laidKinds := [.data], laidTests := true, laidLooks := .later }
def ChunksFullCardSaid : Prop := Claim7.holds Tryz.pinned (.plain (OpenSpec.ofChange chunksFullSpec)) chunksFullCard

/-- THE SECOND FORM's CARD OF 'pleachlaw06.ChunksRuns'. -/
def chunksRunsUptoCard : Claim7 := { stood := { row := chunksRunsUptoRow, standIns := [], harness := (true, "4fb39967700713d2ad060919d790917ee2545b6ef768aca7721dc822b8ecb7cb"), looks := false }, kinds := [], alts := [], laidByText := true, laidKinds := [.data], laidTests := true, laidLooks := .later }
def ChunksRunsUptoCardSaid : Prop := Claim7.holds Tryz.pinned (.plain (OpenSpec.upto chunksRunsSpec)) chunksRunsUptoCard

/-- THE SECOND FORM's CARD OF 'pleachlaw06.ChunksAgain'. -/
def chunksAgainUptoCard : Claim7 := { stood := { row := chunksAgainUptoRow, standIns := [], harness := (true, "4fb39967700713d2ad060919d790917ee2545b6ef768aca7721dc822b8ecb7cb"), looks := false }, kinds := [], alts := [], laidByText := true, laidKinds := [.data], laidTests := true, laidLooks := .later }
def ChunksAgainUptoCardSaid : Prop := Claim7.holds Tryz.pinned (.plain (OpenSpec.upto chunksAgainSpec)) chunksAgainUptoCard

/-- THE SECOND FORM's CARD OF 'pleachlaw06.ChunksFull'. -/
def chunksFullUptoCard : Claim7 := { stood := { row := chunksFullUptoRow, standIns := [], harness := (true, "4fb39967700713d2ad060919d790917ee2545b6ef768aca7721dc822b8ecb7cb"), looks := false }, kinds := [], alts := [], laidByText := true, laidKinds := [.data], laidTests := true, laidLooks := .later }
def ChunksFullUptoCardSaid : Prop := Claim7.holds Tryz.pinned (.plain (OpenSpec.upto chunksFullSpec)) chunksFullUptoCard
end Rows
end Go.Proofs.YtogihpofkjpokaaGreatDoor
