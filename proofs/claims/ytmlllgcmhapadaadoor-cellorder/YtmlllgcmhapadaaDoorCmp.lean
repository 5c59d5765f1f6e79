/- Walks of compareVals and of what it calls. -/
import Derived.Test.YtmlllgcmhapadaaDoorOrd
import Derived.Deep.RegionWith
namespace Go.Proofs.YtmlllgcmhapadaaDoor
open Go Go.RowKit

set_option maxHeartbeats 1000000 in
theorem isNaN64 (x : Int) (w : World) : Calls Tryd.prog 65 #[.int .i64 x] w fun e w' => e = .returned (.bool false) ∧ w' = w := by
  go_enter Tryd.func65, Tryd.ntmps65
  go_wp2
  go_ret
  exact ⟨by simp, rfl⟩
set_option maxHeartbeats 1000000 in
theorem cmp64_any (x y : Int) (w : World) : Calls Tryd.prog 50 #[.int .i64 x, .int .i64 y] w fun e w' => e = .returned (.int .i64 (cmpI x y)) ∧ w' = w := by
  rcases Int.lt_trichotomy x y with h | h | h
  · rw [cmpI_lt h]
    go_enter Tryd.func50, Tryd.ntmps50
    go_wp2_with (go_at_call 65; refine (isNaN64 _ _).mono ?_; rintro e w' ⟨rfl, rfl⟩)
    go_ret
    exact ⟨rfl, rfl⟩
  · subst h
    rw [cmpI_eq rfl]
    go_enter Tryd.func50, Tryd.ntmps50
    go_wp2_with (go_at_call 65; refine (isNaN64 _ _).mono ?_; rintro e w' ⟨rfl, rfl⟩)
    go_ret
    exact ⟨rfl, rfl⟩
  · rw [cmpI_gt h]
    have h' : ¬ x < y := by omega
    go_enter Tryd.func50, Tryd.ntmps50
    go_wp2_with (go_at_call 65; refine (isNaN64 _ _).mono ?_; rintro e w' ⟨rfl, rfl⟩)
    go_ret
    exact ⟨rfl, rfl⟩
set_option maxRecDepth 100000 in
set_option maxHeartbeats 1000000 in
theorem or_any (g : Nat) (x y z : Int) (w : World) (h : w.heap[g]? = some (.cells #[.int .i64 x, .int .i64 y, .int .i64 z] 3 (0, 0))) :
    Calls Tryd.prog 48 #[.slice (some ⟨g, 0, none⟩) 3 3] w fun e w' => e = .returned (.int .i64 (orI x (orI y z))) ∧ w = w' := by
  have c0 : w.cell? ⟨g, 0, none⟩ = some (.int .i64 x) := cell_of_row _ _ _ _ _ _ h
  have c1 : w.cell? ⟨g, 1, none⟩ = some (.int .i64 y) := cell_of_row _ _ _ _ _ _ h
  have c2 : w.cell? ⟨g, 2, none⟩ = some (.int .i64 z) := cell_of_row _ _ _ _ _ _ h
  obtain ⟨R, hR⟩ : ∃ R, orI x (orI y z) = R := ⟨_, rfl⟩
  rw [hR]
  have HR := Lib.hid hR
  clear h hR
  go_enter Tryd.func48, Tryd.ntmps48
  go_wp2
  go_loop [8] (fun i => ∃ (ii : Nat), i = .int .i64 (ii : Int) ∧ ii ≤ 3 ∧ Hid ((1 ≤ ii → x = 0) ∧ (2 ≤ ii → y = 0) ∧ (3 ≤ ii → z = 0))) (fun i => 3 - (intOf i).toNat)
  case atStart => exact ⟨0, rfl, by omega, Lib.hid ⟨fun h => by omega, fun h => by omega, fun h => by omega⟩⟩
  case round =>
    obtain ⟨ii, rfl, hi, HI⟩ := hrel
    rcases (show ii = 0 ∨ ii = 1 ∨ ii = 2 ∨ ii = 3 by omega) with rfl | rfl | rfl | rfl
    · by_cases hx : x = 0
      · have hx' : (x == 0) = true := by simpa using hx
        have hx2 : (x != 0) = false := by simpa using hx
        go_wp2
        go_round
        case rel => exact ⟨1, by go_num, by omega, Lib.hid ⟨fun _ => hx, fun h => by omega, fun h => by omega⟩⟩
        case measure => simp [intOf]
      · have hx2 : (x != 0) = true := by simpa using hx
        have HX := Lib.hid (show R = x by rw [← HR.out, orI_ne _ hx])
        go_wp2
        go_ret
        exact ⟨by rw [HX.out]; rfl, rfl⟩
    · have hx0 := HI.out.1 (by omega)
      by_cases hx : y = 0
      · have hx2 : (y != 0) = false := by simpa using hx
        have HX := Lib.hid hx0
        clear hx0
        go_wp2
        go_round
        case rel => exact ⟨2, by go_num, by omega, Lib.hid ⟨fun _ => HX.out, fun _ => hx, fun h => by omega⟩⟩
        case measure => simp [intOf]
      · have hx2 : (y != 0) = true := by simpa using hx
        have HX := Lib.hid (show R = y by rw [← HR.out, hx0, orI_nil, orI_ne _ hx])
        clear hx0
        go_wp2
        go_ret
        exact ⟨by rw [HX.out]; rfl, rfl⟩
    · have hx0 := HI.out.1 (by omega)
      have hy0 := HI.out.2.1 (by omega)
      have HXY := Lib.hid (And.intro hx0 hy0)
      have HX := Lib.hid (show R = z by rw [← HR.out, hx0, hy0, orI_nil, orI_nil])
      clear hx0 hy0
      by_cases hx : z = 0
      · have hx2 : (z != 0) = false := by simpa using hx
        go_wp2
        go_round
        case rel => exact ⟨3, by go_num, by omega, Lib.hid ⟨fun _ => HXY.out.1, fun _ => HXY.out.2, fun _ => hx⟩⟩
        case measure => simp [intOf]
      · have hx2 : (z != 0) = true := by simpa using hx
        go_wp2
        go_ret
        exact ⟨by rw [HX.out]; rfl, rfl⟩
    · have HX := Lib.hid (show R = 0 by rw [← HR.out, HI.out.1 (by omega), HI.out.2.1 (by omega), HI.out.2.2 (by omega)]; rfl)
      go_wp2
      go_ret
      exact ⟨by rw [HX.out]; rfl, rfl⟩
end Go.Proofs.YtmlllgcmhapadaaDoor
