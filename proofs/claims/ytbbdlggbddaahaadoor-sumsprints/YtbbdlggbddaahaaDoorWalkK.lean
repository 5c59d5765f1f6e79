/- Walks of the document's H and K. -/
import Derived.Test.YtbbdlggbddaahaaDoorByBase
import Derived.Great.BuildSlice
namespace Go.Proofs.YtbbdlggbddaahaaDoor
open Go.RowKit

theorem WC.of_row {w : World} {g : Nat} {l : List (BitVec 32)} (h : w.heap[g]? = some (.cells (wvs l) 28 (0, 0))) : WC w g l := by
  have hr : Row w g 28 l := h
  exact ⟨hr.lt, fun j hj => ⟨hr.cell j hj, hr.frozen j⟩⟩
set_option maxRecDepth 100000 in
set_option maxHeartbeats 400000 in
theorem h_any (w : World) : Calls Tryd.prog 23 #[] w fun e w' => e = .returned (.slice (some ⟨w.heap.size, 0, none⟩) 8 8) ∧ WC w' w.heap.size st0.l ∧ Kp w.heap.size w w' := by
  go_enter Tryd.func23, Tryd.ntmps23
  go_wp2
  go_ret
  refine ⟨rfl, WC.of_row (heap_alloc_new w _), (Kp.refl _ _).alloc (Nat.le_refl _) _⟩
set_option maxRecDepth 100000 in
set_option maxHeartbeats 400000 in
theorem k_any (w : World) : Calls Tryd.prog 24 #[] w fun e w' => e = .returned (.slice (some ⟨w.heap.size, 0, none⟩) 64 64) ∧ WC w' w.heap.size kl ∧ Kp w.heap.size w w' := by
  go_enter Tryd.func24, Tryd.ntmps24
  go_wp2
  go_ret
  refine ⟨rfl, WC.of_row (heap_alloc_new w _), (Kp.refl _ _).alloc (Nat.le_refl _) _⟩
end Go.Proofs.YtbbdlggbddaahaaDoor
