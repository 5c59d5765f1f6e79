/- The walk of the document's Print. -/
import Derived.Test.YtfjlkphpeneahaaDoorAWalkBy
import Derived.Test.YtfjlkphpeneahaaDoorAWalkK
namespace Go.Proofs.YtfjlkphpeneahaaDoor.S1
open Go Go.RowKit

theorem Kp.below {B : Nat} {w w' : World} (h : Kp B w w') : Below B w w' := ⟨h.os, h.tape, h.output, h.size, h.block⟩
set_option maxRecDepth 100000 in
set_option maxHeartbeats 400000 in
theorem rprint_any (s : ByteArray) (hs : s.size ≤ 100000) (w : World) :
    Calls Tryd.prog 33 #[.string s] w fun e w' => e = .returned (.string ⟨(shaL s.data.toList).toArray⟩) ∧ Below w.heap.size w w' := by
  go_enter Tryd.func33, Tryd.ntmps33
  go_wp2_with fail
  refine (h_any w).mono ?_
  rintro e w1 ⟨rfl, h1, k1⟩
  have z1 := h1.lt
  go_wp2_with fail
  refine (k_any w1).mono ?_
  rintro e w2 ⟨rfl, h2, k2⟩
  have h1' := h1.kp k2 z1
  go_wp2_with fail
  refine (by_any s hs st0 kl rfl _ _ _ _ w2 h1' h2).mono ?_
  rintro e w3 ⟨rfl, k3⟩
  have z2 := k1.size
  have z3 := k2.size
  go_wp2_with fail
  go_ret
  exact ⟨rfl, ((k1.trans (k2.mono z2)).trans (k3.mono (by omega))).below⟩
end Go.Proofs.YtfjlkphpeneahaaDoor.S1
