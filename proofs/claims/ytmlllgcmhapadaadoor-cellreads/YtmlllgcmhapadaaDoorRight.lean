/- Which value is right: plainly, and the two walks. -/
import Derived.Test.YtmlllgcmhapadaaDoorBase
namespace Go.Proofs.YtmlllgcmhapadaaDoor
open Go Go.RowKit

def rightB (v : V) : Bool :=
  if v.k = 0 then decide (v.n = 0) && decide (v.s.size = 0)
  else if v.k = 1 then decide (v.s.size = 0)
  else if v.k = 2 then (decide (v.n = 0) || decide (v.n = 1)) && decide (v.s.size = 0)
  else if v.k = 3 ∨ v.k = 4 then decide (v.n = 0) && decide (v.s.size ≤ 1000)
  else false
theorem ret_bool {a b : Bool} (h : a = b) : Ending.returned (.bool a) = .returned (.bool b) := by rw [h]
theorem empty_dec (s : ByteArray) : s.toList.isEmpty = decide (s.size = 0) := by
  rw [ByteArray.toList_eq]
  cases h : s.data.toList with
  | nil => have e : s.size = s.data.toList.length := rfl; rw [h] at e; simp [e]
  | cons a l => have e : s.size = s.data.toList.length := rfl; rw [h] at e; simp [e]

set_option maxRecDepth 100000 in
set_option maxHeartbeats 1000000 in
theorem right_any (v : V) (w : World) :
    Calls Tryd.prog 10 #[v.val] w fun e w' => e = .returned (.bool (rightB v)) ∧ Below w.heap.size w w' := by
  obtain ⟨k, n, s⟩ := v
  unfold V.val
  by_cases h0 : k = 0
  · subst h0
    go_enter Tryd.func10, Tryd.ntmps10
    go_wp2
    all_goals (go_ret; refine ⟨ret_bool ?_, (Below.refl _ _).alloc (Nat.le_refl _) _⟩; simp [rightB, empty_dec, *])
  by_cases h1 : k = 1
  · subst h1
    go_enter Tryd.func10, Tryd.ntmps10
    go_wp2
    all_goals (go_ret; refine ⟨ret_bool ?_, (Below.refl _ _).alloc (Nat.le_refl _) _⟩; simp [rightB, empty_dec, *])
  by_cases h2 : k = 2
  · subst h2
    go_enter Tryd.func10, Tryd.ntmps10
    go_wp2
    all_goals (go_ret; refine ⟨ret_bool ?_, (Below.refl _ _).alloc (Nat.le_refl _) _⟩; simp [rightB, empty_dec, *])
  by_cases h3 : k = 3
  · subst h3
    go_enter Tryd.func10, Tryd.ntmps10
    go_wp2
    all_goals (go_ret; refine ⟨ret_bool ?_, (Below.refl _ _).alloc (Nat.le_refl _) _⟩; simp [rightB, *]; try omega)
  by_cases h4 : k = 4
  · subst h4
    go_enter Tryd.func10, Tryd.ntmps10
    go_wp2
    all_goals (go_ret; refine ⟨ret_bool ?_, (Below.refl _ _).alloc (Nat.le_refl _) _⟩; simp [rightB, *]; try omega)
  go_enter Tryd.func10, Tryd.ntmps10
  go_wp2
  all_goals (go_ret; refine ⟨ret_bool ?_, (Below.refl _ _).alloc (Nat.le_refl _) _⟩; simp [rightB, *])
set_option maxRecDepth 100000 in
set_option maxHeartbeats 1000000 in
theorem rright_any (v : V) (w : World) :
    Calls Tryd.prog 11 #[v.val] w fun e w' => e = .returned (.bool (rightB v)) ∧ Below w.heap.size w w' := by
  obtain ⟨k, n, s⟩ := v
  unfold V.val
  by_cases h0 : k = 0
  · subst h0
    go_enter Tryd.func11, Tryd.ntmps11
    go_wp2
    all_goals (go_ret; refine ⟨ret_bool ?_, (Below.refl _ _).alloc (Nat.le_refl _) _⟩; simp [rightB, empty_dec, *])
  by_cases h1 : k = 1
  · subst h1
    go_enter Tryd.func11, Tryd.ntmps11
    go_wp2
    all_goals (go_ret; refine ⟨ret_bool ?_, (Below.refl _ _).alloc (Nat.le_refl _) _⟩; simp [rightB, empty_dec, *])
  by_cases h2 : k = 2
  · subst h2
    go_enter Tryd.func11, Tryd.ntmps11
    go_wp2
    all_goals (go_ret; refine ⟨ret_bool ?_, (Below.refl _ _).alloc (Nat.le_refl _) _⟩; simp [rightB, empty_dec, *])
  by_cases h3 : k = 3
  · subst h3
    go_enter Tryd.func11, Tryd.ntmps11
    go_wp2
    all_goals (go_ret; refine ⟨ret_bool ?_, (Below.refl _ _).alloc (Nat.le_refl _) _⟩; simp [rightB, *]; try omega)
  by_cases h4 : k = 4
  · subst h4
    go_enter Tryd.func11, Tryd.ntmps11
    go_wp2
    all_goals (go_ret; refine ⟨ret_bool ?_, (Below.refl _ _).alloc (Nat.le_refl _) _⟩; simp [rightB, *]; try omega)
  go_enter Tryd.func11, Tryd.ntmps11
  go_wp2
  all_goals (go_ret; refine ⟨ret_bool ?_, (Below.refl _ _).alloc (Nat.le_refl _) _⟩; simp [rightB, *])
end Go.Proofs.YtmlllgcmhapadaaDoor
