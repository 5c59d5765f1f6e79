/- The walk of Clone. -/
import Derived.Test.YtogihpofkjpokaaGreatDoorBase
import Derived.Test.YtogihpofkjpokaaGreatDoorShelf
namespace Go.Proofs.YtogihpofkjpokaaGreatDoor.F5
open Go Go.RowKit

theorem clone_any (s : ByteArray) (w : World) (hs : s.size ≤ 281474976710656) :
    Calls Tryz.prog 39 #[.string s] w fun e w' => e = .returned (.string s) ∧ Below w.heap.size w w' := by
  have P := Lib.hid (Tryz.stringslite_Clone s w hs)
  go_enter Tryz.func39, Tryz.ntmps39
  go_wp2_with (go_at_call 65; (with_reducible refine P.out.mono ?_); rintro e w1 ⟨rfl, hb⟩)
  go_ret
  exact ⟨rfl, hb⟩
end Go.Proofs.YtogihpofkjpokaaGreatDoor.F5
