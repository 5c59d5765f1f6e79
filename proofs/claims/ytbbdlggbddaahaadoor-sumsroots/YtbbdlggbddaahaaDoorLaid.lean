/- What the listed variable gives a walk: the table of the rounds' numbers. -/
import Derived.Test.YtbbdlggbddaahaaDoorAlive
import Derived.Test.YtbbdlggbddaahaaDoorCards
import Derived.Test.YtbbdlggbddaahaaDoorTie
import Derived.ProofKit
import Derived.LaidMore
import Derived.OpenShut
import Derived.ShutString
import Derived.Stop.Joined
import Derived.Lib.LaidTab
namespace Go.Proofs.YtbbdlggbddaahaaDoor
open Go.ChangeShapes Go.WideShapes Go.ChangeAt Go.WideMaps Go.WideElems Go.RowKit

theorem own : ownKnob Tryd.prog.godebug = none := by kernel_rfl
theorem gK : Tryd.prog.globalNamed "pleach/sums.roundConst" = some 0 := by kernel_rfl
theorem tK : (Tryd.prog.globals[0]?).map (·.type) = some 54 := by kernel_rfl

/-- The door's own heap meets the condition. -/
theorem door_met (os : Os) (args : Array Value) : laidMetH Tryd.prog Rows.sumsPrintsRow.laid ((World.doorLaid Tryd.prog 400 os).forCall (fun _ _ => 0) ⟨#[], args, []⟩).memory :=
  laidMetH_of_parts3 (fuel := 8) (laidMet_of_run' 8 (by kernel_rfl) (by kernel_rfl)) (by kernel_rfl) (by kernel_rfl)

theorem kl_data {H : Type} : (Rows.laid_pleach_sums_roundConst : DataW H) = Lib.tabData .u32 (kl.map u) := rfl

/-- What the condition gives a walk. -/
theorem of_laid {W : World} (h : laidMetH Tryd.prog Rows.sumsPrintsRow.laid W) : KR W := by
  rw [MakeChecks.laidMetH_plain _ _ _ (by kernel_rfl)] at h
  obtain ⟨ps, ⟨g0, t0, cs0, f0, p0, q0, hg0, ht0, hv0, hd0, _⟩, _, _⟩ := h
  obtain rfl := Option.some.inj (gK.symm.trans hg0)
  obtain rfl := Option.some.inj (tK.symm.trans ht0)
  have hc := Lib.cells_of_tab (zs := kl.map u) Tryd.underlying54 Tryd.underlying28 (by kernel_rfl) (by kernel_rfl) (by rw [← kl_data]; exact hd0)
  intro j hj
  have hl : kl.length = 64 := rfl
  rw [World.var?_cell hg0 hv0 j, ← Array.getElem?_toList, hc]
  unfold kc
  simp [List.getElem?_eq_getElem (show j < kl.length by omega)]

end Go.Proofs.YtbbdlggbddaahaaDoor
