/- The walks of Down, useFuel, Used, Room, Fuel, New. -/
import Derived.Test.YtogihpofkjpokaaGreatDoorDDisk
import Derived.BigRegion
namespace Go.Proofs.YtogihpofkjpokaaGreatDoor.D4
open Go Go.RowKit Go.Maps

section
variable {w : World} {d : Nat} {s : S}
theorem At.c0 (h : At w d s) : w.cell? ⟨d, 0, none⟩ = some (.int .i64 s.room) := cell_of_row _ _ _ _ _ _ h.blk
theorem At.c1 (h : At w d s) : w.cell? ⟨d, 1, none⟩ = some (.int .i64 s.used) := cell_of_row _ _ _ _ _ _ h.blk
theorem At.c2 (h : At w d s) : w.cell? ⟨d, 2, none⟩ = some (.map s.m) := cell_of_row _ _ _ _ _ _ h.blk
theorem At.c3 (h : At w d s) : w.cell? ⟨d, 3, none⟩ = some (.bool s.down) := cell_of_row _ _ _ _ _ _ h.blk
theorem At.c4 (h : At w d s) : w.cell? ⟨d, 4, none⟩ = some (.bool s.lim) := cell_of_row _ _ _ _ _ _ h.blk
theorem At.c5 (h : At w d s) : w.cell? ⟨d, 5, none⟩ = some (.int .i64 s.fuel) := cell_of_row _ _ _ _ _ _ h.blk
theorem At.fr (h : At w d s) (i : Nat) : w.frozen? ⟨d, i, none⟩ = false := frozen_of_row _ _ _ _ _ h.blk
/-- A store into the disk's own cells. -/
theorem At.set (h : At w d s) (i : Nat) (x : Value) : (w.setCell ⟨d, i, none⟩ x).heap[d]? = some (.cells (s.cells.setIfInBounds i x) 62 (0, 0)) := heap_setCell_same w d i s.cells 62 x h.blk
end
theorem _root_.Go.Proofs.YtogihpofkjpokaaGreatDoor.Ch.set1 (w : World) (d i : Nat) (x : Value) : Ch (fun k => k = d) w (w.setCell ⟨d, i, none⟩ x) := Ch.setCell _ _ _ fun _ => rfl
def dp (d : Nat) : Value := .pointer (some ⟨d, 0, none⟩)

set_option maxRecDepth 100000 in
theorem down_any {w : World} {d : Nat} {s : S} (h : At w d s) : Calls Tryz.prog 29 #[dp d] w fun e w' => e = .returned (.bool s.down) ∧ w' = w := by
  have c3 := h.c3
  clear h
  unfold dp
  go_enter Tryz.func29, Tryz.ntmps29
  go_wp2
  go_ret
  exact ⟨rfl, rfl⟩
set_option maxRecDepth 100000 in
theorem down_nil (w : World) : Calls Tryz.prog 29 #[.pointer none] w fun e w' => e = .returned (.bool true) ∧ w' = w := by
  go_enter Tryz.func29, Tryz.ntmps29
  go_wp2
  go_ret
  exact ⟨rfl, rfl⟩
/-- A step's fuel: is there some, and the disk behind it. -/
def S.go (s : S) : Bool := !s.lim || decide (0 < s.fuel)
def S.step (s : S) : S := if s.lim then (if 0 < s.fuel then { s with fuel := s.fuel - 1 } else { s with down := true }) else s
theorem step_m (s : S) : s.step.m = s.m := by unfold S.step; split <;> (try split) <;> rfl
theorem step_fs (s : S) : s.step.fs = s.fs := by unfold S.step; split <;> (try split) <;> rfl
theorem step_used (s : S) : s.step.used = s.used := by unfold S.step; split <;> (try split) <;> rfl
theorem step_room (s : S) : s.step.room = s.room := by unfold S.step; split <;> (try split) <;> rfl
set_option maxRecDepth 100000 in
set_option maxHeartbeats 1000000 in
theorem useFuel_any {w : World} {d : Nat} {s : S} (h : At w d s) : Calls Tryz.prog 102 #[dp d] w fun e w' => e = .returned (.bool s.go) ∧ At w' d s.step ∧ Ch (fun k => k = d) w w' := by
  have c3 := h.c3
  have c4 := h.c4
  have c5 := h.c5
  have f3 := h.fr 3
  have f5 := h.fr 5
  have hfu := h.fuel
  have H := Lib.hid h
  clear h
  unfold dp
  cases hl : s.lim with
  | false =>
    rw [hl] at c4
    have HS := Lib.hid (show s.go = true ∧ s.step = s by unfold S.go S.step; simp [hl])
    clear hl
    go_enter Tryz.func102, Tryz.ntmps102
    go_wp2
    go_ret
    exact ⟨ret_bool HS.out.1.symm, by rw [HS.out.2]; exact H.out, Ch.refl _ _⟩
  | true =>
    rw [hl] at c4
    by_cases hp : 0 < s.fuel
    · have HS := Lib.hid (show s.go = true ∧ s.step = { s with fuel := s.fuel - 1 } by unfold S.go S.step; simp [hl, hp])
      clear hl
      go_enter Tryz.func102, Tryz.ntmps102
      go_wp2
      go_ret
      refine ⟨ret_bool HS.out.1.symm, ?_, Ch.setCell _ _ _ fun _ => rfl⟩
      rw [HS.out.2]
      exact H.out.head (H.out.set 5 _) (Ch.setCell _ _ _ fun _ => rfl) rfl rfl rfl H.out.room (by simp only; omega)
    · have HS := Lib.hid (show s.go = false ∧ s.step = { s with down := true } by unfold S.go S.step; simp [hl, hp])
      clear hl
      have hp' : s.fuel ≤ 0 := by omega
      go_enter Tryz.func102, Tryz.ntmps102
      go_wp2
      go_ret
      refine ⟨ret_bool HS.out.1.symm, ?_, Ch.setCell _ _ _ fun _ => rfl⟩
      rw [HS.out.2]
      exact H.out.head (H.out.set 3 _) (Ch.setCell _ _ _ fun _ => rfl) rfl rfl rfl H.out.room H.out.fuel
set_option maxRecDepth 100000 in
set_option maxHeartbeats 1000000 in
theorem fuel_any {w : World} {d : Nat} {s : S} (h : At w d s) (n : Int) (hn : -9223372036854775808 ≤ n ∧ n ≤ 9223372036854775807) :
    Calls Tryz.prog 27 #[dp d, .int .i64 n] w fun e w' => e = .returned (.tuple #[]) ∧ At w' d { s with lim := decide (0 ≤ n), fuel := n } ∧ Ch (fun k => k = d) w w' := by
  have f4 := h.fr 4
  have f5 := h.fr 5
  have c4 := h.c4
  have c5 := h.c5
  have H := Lib.hid h
  clear h
  unfold dp
  go_enter Tryz.func27, Tryz.ntmps27
  go_wp2
  go_end0
  refine ⟨rfl, ?_, (Ch.set1 w d 4 _).tr (Ch.set1 _ d 5 _)⟩
  refine H.out.head ?_ ((Ch.set1 w d 4 _).tr (Ch.set1 _ d 5 _)) rfl rfl rfl H.out.room hn
  exact heap_setCell_same _ d 5 _ 62 _ (H.out.set 4 _)
set_option maxRecDepth 100000 in
set_option maxHeartbeats 1000000 in
theorem room_any {w : World} {d : Nat} {s : S} (h : At w d s) (n : Int) (hn : -9223372036854775808 ≤ n ∧ n ≤ 9223372036854775807) :
    Calls Tryz.prog 16 #[dp d, .int .i64 n] w fun e w' => e = .returned (.tuple #[]) ∧ At w' d { s with room := min (max n 0) 1073741824 } ∧ Ch (fun k => k = d) w w' := by
  have f0 := h.fr 0
  have c0 := h.c0
  have H := Lib.hid h
  clear h
  unfold dp
  go_enter Tryz.func16, Tryz.ntmps16
  go_wp2
  go_end0
  refine ⟨rfl, ?_, (Ch.setCell _ _ _ fun _ => rfl)⟩
  refine H.out.head (H.out.set 0 _) (Ch.setCell _ _ _ fun _ => rfl) rfl rfl rfl ?_ H.out.fuel
  simp only
  omega
set_option maxRecDepth 100000 in
set_option maxHeartbeats 1000000 in
theorem new_any (w : World) (n : Int) (hn : 0 ≤ n) (hn2 : n ≤ 1073741824) :
    Calls Tryz.prog 9 #[.int .i64 n] w fun e w' => e = .returned (.tuple #[dp w.heap.size, .int .i64 0]) ∧ At w' w.heap.size ⟨n, 0, none, false, false, 0, []⟩ ∧ Below w.heap.size w w' ∧ w'.heap.size = w.heap.size + 1 := by
  go_enter Tryz.func9, Tryz.ntmps9
  go_wp2
  go_ret2
  refine ⟨rfl, ?_, (Below.refl _ _).alloc (Nat.le_refl _) _, by simp⟩
  exact ⟨heap_alloc_new _ _, (fun b hb => by cases hb), (fun _ => rfl), Asc.nil, (fun p hp => by cases hp), (fun p hp => by cases hp), List.Pairwise.nil, rfl, by simp [total], ⟨hn, hn2⟩, by simp⟩
set_option maxRecDepth 100000 in
set_option maxHeartbeats 1000000 in
theorem new_not (w : World) (n : Int) (hn : n < 0 ∨ 1073741824 < n) :
    Calls Tryz.prog 9 #[.int .i64 n] w fun e w' => e = .returned (.tuple #[.pointer none, .int .i64 1]) ∧ w' = w := by
  rcases hn with h | h
  · go_enter Tryz.func9, Tryz.ntmps9
    go_wp2
    go_ret2
    exact ⟨rfl, rfl⟩
  · have h0 : 0 ≤ n := by omega
    go_enter Tryz.func9, Tryz.ntmps9
    go_wp2
    go_ret2
    exact ⟨rfl, rfl⟩
end Go.Proofs.YtogihpofkjpokaaGreatDoor.D4
