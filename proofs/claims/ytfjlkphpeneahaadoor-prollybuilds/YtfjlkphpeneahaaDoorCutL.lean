/- Where lists are cut, plainly. -/
import Derived.Test.YtfjlkphpeneahaaDoorRows
namespace Go.Proofs.YtfjlkphpeneahaaDoor
/-- The parts of a list, behind n items of the part that is open. -/
def cutG (E : List UInt8 → Bool) : Nat → List (List UInt8) → List Nat
  | n, [] => if n = 0 then [] else [n]
  | n, x :: xs => if 16 ≤ n + 1 ∨ (2 ≤ n + 1 ∧ E x = true) then (n + 1) :: cutG E 0 xs else cutG E (n + 1) xs
theorem cutG_cons (E : List UInt8 → Bool) (n : Nat) (x : List UInt8) (xs : List (List UInt8)) : cutG E n (x :: xs) = if 16 ≤ n + 1 ∨ (2 ≤ n + 1 ∧ E x = true) then (n + 1) :: cutG E 0 xs else cutG E (n + 1) xs := rfl
theorem cutG_nil (E : List UInt8 → Bool) (n : Nat) : cutG E n [] = if n = 0 then [] else [n] := rfl
theorem cutG_sum (E : List UInt8 → Bool) : ∀ (xs : List (List UInt8)) (n : Nat), (cutG E n xs).sum = n + xs.length
  | [], n => by
    unfold cutG
    split
    · rename_i h; simp [h]
    · simp
  | x :: xs, n => by
    unfold cutG
    split
    · rw [List.sum_cons, cutG_sum E xs 0, List.length_cons]; omega
    · rw [cutG_sum E xs (n + 1), List.length_cons]; omega
theorem cutG_mem (E : List UInt8 → Bool) : ∀ (xs : List (List UInt8)) (n : Nat), n ≤ 15 → ∀ k ∈ cutG E n xs, 1 ≤ k ∧ k ≤ 16
  | [], n, h, k, hk => by
    unfold cutG at hk
    split at hk
    · cases hk
    · rw [List.mem_singleton.1 hk]; omega
  | x :: xs, n, h, k, hk => by
    unfold cutG at hk
    split at hk
    · rcases List.mem_cons.1 hk with e | hk
      · omega
      · exact cutG_mem E xs 0 (by omega) k hk
    · rename_i hn
      exact cutG_mem E xs (n + 1) (by omega) k hk
theorem cutG_two (E : List UInt8 → Bool) : ∀ (xs : List (List UInt8)) (n i : Nat), i + 1 < (cutG E n xs).length → 2 ≤ (cutG E n xs).getD i 0
  | [], n, i, h => by
    unfold cutG at h
    split at h <;> simp at h
  | x :: xs, n, i, h => by
    unfold cutG at h ⊢
    split
    · rename_i hc
      rw [if_pos hc, List.length_cons] at h
      cases i with
      | zero => show 2 ≤ n + 1; omega
      | succ i => exact cutG_two E xs 0 i (by omega)
    · rename_i hc
      rw [if_neg hc] at h
      exact cutG_two E xs (n + 1) i h
/-- Behind the first part the rest is cut as a list of its own. -/
theorem cutG_rest (E : List UInt8 → Bool) : ∀ (xs : List (List UInt8)) (n : Nat), cutG E n xs ≠ [] → ∃ p l, cutG E n xs = p :: l ∧ n ≤ p ∧ p - n ≤ xs.length ∧ cutG E 0 (xs.drop (p - n)) = l
  | [], n, h => by
    rw [cutG_nil] at h ⊢
    by_cases e : n = 0
    · rw [if_pos e] at h; exact absurd rfl h
    · rw [if_neg e]
      exact ⟨n, [], rfl, Nat.le_refl _, by omega, by simp [cutG]⟩
  | x :: xs, n, h => by
    rw [cutG_cons] at h ⊢
    by_cases hc : 16 ≤ n + 1 ∨ (2 ≤ n + 1 ∧ E x = true)
    · rw [if_pos hc]
      refine ⟨n + 1, _, rfl, by omega, by rw [List.length_cons]; omega, ?_⟩
      rw [show n + 1 - n = 1 by omega]; rfl
    · rw [if_neg hc] at h ⊢
      obtain ⟨p, l, e, h1, h2, h3⟩ := cutG_rest E xs (n + 1) h
      refine ⟨p, l, e, by omega, by rw [List.length_cons]; omega, ?_⟩
      rw [show p - n = (p - (n + 1)) + 1 by omega]
      exact h3
theorem cutG_pos (E : List UInt8 → Bool) (xs : List (List UInt8)) (n : Nat) (hn : 0 < n) : cutG E n xs ≠ [] := by
  intro e
  have := cutG_sum E xs n
  rw [e] at this
  simp at this
  omega
/-- What stands behind a list changes none of its parts but the last one. -/
theorem cutG_behind (E : List UInt8 → Bool) (ys : List (List UInt8)) : ∀ (xs : List (List UInt8)) (n k : Nat), (cutG E n xs).length = k + 1 →
    k < (cutG E n (xs ++ ys)).length ∧ (cutG E n (xs ++ ys)).take k = (cutG E n xs).take k ∧ (cutG E n xs).getD k 0 ≤ (cutG E n (xs ++ ys)).getD k 0
  | [], n, k, h => by
    rw [List.nil_append]
    have e0 : cutG E n [] = if n = 0 then [] else [n] := rfl
    rw [e0] at h ⊢
    by_cases e : n = 0
    · rw [if_pos e] at h; cases h
    · rw [if_neg e] at h ⊢
      have hk : k = 0 := by simpa using h.symm
      subst hk
      obtain ⟨p, l, e1, h1, _⟩ := cutG_rest E ys n (cutG_pos E ys n (by omega))
      rw [e1]
      exact ⟨by simp, by simp, h1⟩
  | x :: xs, n, k, h => by
    rw [List.cons_append]
    unfold cutG at h ⊢
    by_cases hc : 16 ≤ n + 1 ∨ (2 ≤ n + 1 ∧ E x = true)
    · rw [if_pos hc] at h ⊢
      rw [if_pos hc]
      rw [List.length_cons] at h
      cases k with
      | zero => exact ⟨by simp, by simp, Nat.le_refl _⟩
      | succ k =>
        obtain ⟨h1, h2, h3⟩ := cutG_behind E ys xs 0 k (by omega)
        exact ⟨by rw [List.length_cons]; omega, by rw [List.take_succ_cons, List.take_succ_cons, h2], h3⟩
    · rw [if_neg hc] at h ⊢
      rw [if_neg hc]
      exact cutG_behind E ys xs (n + 1) k h
theorem cutG_len (E : List UInt8 → Bool) : ∀ (xs : List (List UInt8)) (n : Nat), (cutG E n xs).length ≤ xs.length + 1
  | [], n => by unfold cutG; split <;> simp
  | x :: xs, n => by
    unfold cutG
    split
    · have := cutG_len E xs 0; simp only [List.length_cons]; omega
    · have := cutG_len E xs (n + 1); simp only [List.length_cons]; omega
end Go.Proofs.YtfjlkphpeneahaaDoor
