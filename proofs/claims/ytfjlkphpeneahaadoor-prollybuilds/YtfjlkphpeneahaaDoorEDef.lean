/- Fingerprints, and which items end a part. -/
import Derived.Test.YtfjlkphpeneahaaDoorAWalkR
namespace Go.Proofs.YtfjlkphpeneahaaDoor
open Go Go.RowKit
abbrev sha : List UInt8 → List UInt8 := S1.shaL
theorem sha_len (x : List UInt8) : (sha x).length = 32 := rfl
/-- Does an item end a part? -/
def E (x : List UInt8) : Bool := decide (((sha x).getD 0 0).toNat < 64)
end Go.Proofs.YtfjlkphpeneahaaDoor
