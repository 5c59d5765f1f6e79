/- Walks of the document's H and K. -/
import Derived.Test.YtogihpofkjpokaaGreatDoorAByBase
import Derived.Great.BuildSlice
namespace Go.Proofs.YtogihpofkjpokaaGreatDoor.S1
open Go.RowKit

theorem WC.of_row {w : World} {g : Nat} {l : List (BitVec 32)} (h : w.heap[g]? = some (.cells (wvs l) 101 (0, 0))) : WC w g l := by
  have hr : Row w g 101 l := h
  exact ⟨hr.lt, fun j hj => ⟨hr.cell j hj, hr.frozen j⟩⟩
set_option maxRecDepth 100000 in
set_option maxHeartbeats 400000 in
theorem h_any (w : World) : Calls Tryz.prog 45 #[] w fun e w' => e = .returned (.slice (some ⟨w.heap.size, 0, none⟩) 8 8) ∧ WC w' w.heap.size st0.l ∧ Kp w.heap.size w w' := by
  go_enter Tryz.func45, Tryz.ntmps45
  go_wp2
  go_ret
  refine ⟨rfl, WC.of_row (heap_alloc_new w _), (Kp.refl _ _).alloc (Nat.le_refl _) _⟩
set_option maxRecDepth 100000 in
set_option maxHeartbeats 400000 in
theorem k_any (w : World) : Calls Tryz.prog 46 #[] w fun e w' => e = .returned (.slice (some ⟨w.heap.size, 0, none⟩) 64 64) ∧ WC w' w.heap.size kl ∧ Kp w.heap.size w w' := by
  go_enter Tryz.func46, Tryz.ntmps46
  go_wp2
  go_ret
  refine ⟨rfl, WC.of_row (heap_alloc_new w _), (Kp.refl _ _).alloc (Nat.le_refl _) _⟩
end Go.Proofs.YtogihpofkjpokaaGreatDoor.S1
