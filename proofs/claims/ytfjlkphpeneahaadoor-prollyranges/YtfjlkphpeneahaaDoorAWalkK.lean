/- Walks of the document's H and K. -/
import Derived.Test.YtfjlkphpeneahaaDoorAByBase
import Derived.Great.BuildSlice
namespace Go.Proofs.YtfjlkphpeneahaaDoor.S1
open Go.RowKit

theorem WC.of_row {w : World} {g : Nat} {l : List (BitVec 32)} (h : w.heap[g]? = some (.cells (wvs l) 110 (0, 0))) : WC w g l := by
  have hr : Row w g 110 l := h
  exact ⟨hr.lt, fun j hj => ⟨hr.cell j hj, hr.frozen j⟩⟩
set_option maxRecDepth 100000 in
set_option maxHeartbeats 400000 in
theorem h_any (w : World) : Calls Tryd.prog 63 #[] w fun e w' => e = .returned (.slice (some ⟨w.heap.size, 0, none⟩) 8 8) ∧ WC w' w.heap.size st0.l ∧ Kp w.heap.size w w' := by
  go_enter Tryd.func63, Tryd.ntmps63
  go_wp2
  go_ret
  refine ⟨rfl, WC.of_row (heap_alloc_new w _), (Kp.refl _ _).alloc (Nat.le_refl _) _⟩
set_option maxRecDepth 100000 in
set_option maxHeartbeats 400000 in
theorem k_any (w : World) : Calls Tryd.prog 64 #[] w fun e w' => e = .returned (.slice (some ⟨w.heap.size, 0, none⟩) 64 64) ∧ WC w' w.heap.size kl ∧ Kp w.heap.size w w' := by
  go_enter Tryd.func64, Tryd.ntmps64
  go_wp2
  go_ret
  refine ⟨rfl, WC.of_row (heap_alloc_new w _), (Kp.refl _ _).alloc (Nat.le_refl _) _⟩
end Go.Proofs.YtfjlkphpeneahaaDoor.S1
