/- The body of the loop of runs. -/
import Derived.Test.YtogihpofkjpokaaGreatDoorRAll
import Derived.Deep.RegionHeld3
import Derived.BigRegion
namespace Go.Proofs.YtogihpofkjpokaaGreatDoor
open Go Go.RowKit Go.Maps
open D4 (put Asc Lg Dk dp More RdI)
open F5 (txt txt_size data_txt RdT OwT)
attribute [-go_sem] Builtin.append_

/-- The first loop of a text. -/
def firstLoop : Code → Option Code
  | .loop c => some c
  | .seq a b => match firstLoop a with
    | some c => some c
    | none => firstLoop b
  | .block _ c => firstLoop c
  | .scope c => firstLoop c
  | .cond _ a b => match firstLoop a with
    | some c => some c
    | none => firstLoop b
  | _ => none
/-- The body of the loop of runs. -/
noncomputable def runsBody : Code := ((Tryz.f7.body.bind firstLoop).getD .skip)
end Go.Proofs.YtogihpofkjpokaaGreatDoor
