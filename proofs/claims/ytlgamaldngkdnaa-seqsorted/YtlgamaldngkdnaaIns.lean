/- Order within a part, and stability; the walks of the comparison and of the insertion sort. -/
import Derived.Test.YtlgamaldngkdnaaStab
import Derived.StillTailTactics
namespace Go.Proofs.Ytlgamaldngkdnaa
open Go Go.RowKit

/-- It does not fall from a on, below b. -/
def Srt (f : Nat → Pr) (a b : Nat) : Prop := ∀ p q, a ≤ p → p < q → q < b → lt (f q).1 (f p).1 = false
/-- Those of one key. -/
def filt (k : List UInt8) (es : List Pr) : List Pr := es.filter fun p => decide (p.1.data.toList = k)
theorem key_ne_of_lt {x y : ByteArray} (h : lt x y = true) : x.data.toList ≠ y.data.toList := fun e => by
  unfold lt at h
  rw [ByteArray.toList_eq, ByteArray.toList_eq, e, less_irrefl] at h
  cases h
theorem mem_pr {es : List Pr} {a b : Nat} {x : Pr} (h : x ∈ (es.take b).drop a) : ∃ i, a ≤ i ∧ i < b ∧ i < es.length ∧ pr es i = x := by
  obtain ⟨j, hj, e⟩ := List.getElem_of_mem h
  rw [List.length_drop, List.length_take] at hj
  refine ⟨a + j, by omega, by omega, by omega, ?_⟩
  rw [← e, ← pr_get (by rw [List.length_drop, List.length_take]; omega), pr_drop, pr_take _ _ _ (by omega)]
theorem split3 (es : List Pr) {a m b : Nat} (h1 : a ≤ m) (h2 : m ≤ b) : es = es.take a ++ ((es.take m).drop a ++ ((es.take b).drop m ++ es.drop b)) := by
  have e1 : es.take m = es.take a ++ (es.take m).drop a := by
    have := List.take_append_drop a (es.take m)
    rw [List.take_take, Nat.min_eq_left h1] at this
    exact this.symm
  have e2 : es.take b = es.take m ++ (es.take b).drop m := by
    have := List.take_append_drop m (es.take b)
    rw [List.take_take, Nat.min_eq_left h2] at this
    exact this.symm
  have e3 := List.take_append_drop b es
  rw [e2, e1] at e3
  simp only [List.append_assoc] at e3
  exact e3.symm
/-- Parts without a common key exchanged: those of one key stand as they stood. -/
theorem filt_rotL (es : List Pr) {a m b : Nat} (h1 : a ≤ m) (h2 : m ≤ b) (h : ∀ i j, a ≤ i → i < m → m ≤ j → j < b → (pr es j).1.data.toList ≠ (pr es i).1.data.toList) (k : List UInt8) : filt k (rotL es a m b) = filt k es := by
  conv => rhs; rw [split3 es h1 h2]
  unfold rotL filt
  simp only [List.filter_append]
  by_cases hu : ((es.take m).drop a).filter (fun p => decide (p.1.data.toList = k)) = []
  · rw [hu]; simp
  · by_cases hv : ((es.take b).drop m).filter (fun p => decide (p.1.data.toList = k)) = []
    · rw [hv]; simp
    · exfalso
      obtain ⟨x, hx⟩ := List.exists_mem_of_ne_nil _ hu
      obtain ⟨y, hy⟩ := List.exists_mem_of_ne_nil _ hv
      obtain ⟨hx1, hx2⟩ := List.mem_filter.1 hx
      obtain ⟨hy1, hy2⟩ := List.mem_filter.1 hy
      obtain ⟨i, i1, i2, _, rfl⟩ := mem_pr hx1
      obtain ⟨j, j1, j2, _, rfl⟩ := mem_pr hy1
      exact h i j i1 i2 j1 j2 ((of_decide_eq_true hy2).trans (of_decide_eq_true hx2).symm)
/-- Neighbours exchanged. -/
theorem swp_rot (es : List Pr) {j : Nat} (h : j + 1 < es.length) : swp es (j + 1) j = rotL es j (j + 1) (j + 2) := by
  refine pr_ext (by rw [swp_length, rotL_length es (by omega) (by omega) (by omega)]) fun k _ => ?_
  rw [pr_swp _ h (by omega), pr_rotL es (by omega) (by omega) (by omega)]
  unfold R
  repeat' split
  all_goals first | (exfalso; omega) | rfl | (congr 1; omega)
theorem filt_swp (es : List Pr) {j : Nat} (h : j + 1 < es.length) (hn : (pr es (j + 1)).1.data.toList ≠ (pr es j).1.data.toList) (k : List UInt8) : filt k (swp es (j + 1) j) = filt k es := by
  rw [swp_rot es h]
  refine filt_rotL es (by omega) (by omega) (fun p q h1 h2 h3 h4 => ?_) k
  obtain rfl : p = j := by omega
  obtain rfl : q = p + 1 := by omega
  exact hn

/-- What the comparison answers. -/
def cmpS (a b : ByteArray) : Int := if lt a b then -1 else if (lt a b || a.toList == b.toList) then 0 else 1
theorem cmpS_lt {a b : ByteArray} (h : lt a b = true) : cmpS a b = -1 := by unfold cmpS; rw [if_pos h]
theorem cmpS_ge {a b : ByteArray} (h : lt a b = false) : 0 ≤ cmpS a b ∧ cmpS a b ≤ 1 := by
  unfold cmpS
  rw [h]
  simp only [Bool.false_eq_true, if_false]
  split <;> omega
theorem gtr_text (t : TypeId) (a b : ByteArray) : binOp .gtr t (.string a) (.string b) = pure (.bool !(lt a b || a.toList == b.toList)) := by simp [binOp, Op.stringOp, lt]
attribute [local go_sem high] gtr_text
set_option maxHeartbeats 400000 in
theorem compare_str (a b : ByteArray) (w : World) : Calls Try.prog 40 #[.string a, .string b] w fun e w' => e = .returned (.int .i64 (cmpS a b)) ∧ w' = w := by
  cases h1 : lt a b with
  | true =>
    have HC := Lib.hid (cmpS_lt h1)
    have h1' : Op.bytesLess a.toList b.toList = true := h1
    clear h1
    go_enter Try.func40, Try.ntmps40
    go_wp2_with (go_at_call 49; refine (isNaN_str _ _).mono ?_; rintro e w' ⟨rfl, rfl⟩)
    go_ret
    exact ⟨by rw [HC.out]; rfl, rfl⟩
  | false =>
    have h1' : Op.bytesLess a.toList b.toList = false := h1
    cases h2 : (lt a b || a.toList == b.toList) with
    | true =>
      have HC : Hid (cmpS a b = 0) := Lib.hid (by unfold cmpS; rw [h2, h1]; rfl)
      clear h1
      go_enter Try.func40, Try.ntmps40
      go_wp2_with (go_at_call 49; refine (isNaN_str _ _).mono ?_; rintro e w' ⟨rfl, rfl⟩)
      all_goals first | (go_ret; exact ⟨by rw [HC.out]; rfl, rfl⟩) | (exfalso; simp_all)
    | false =>
      have HC : Hid (cmpS a b = 1) := Lib.hid (by unfold cmpS; rw [h2, h1]; rfl)
      clear h1
      go_enter Try.func40, Try.ntmps40
      go_wp2_with (go_at_call 49; refine (isNaN_str _ _).mono ?_; rintro e w' ⟨rfl, rfl⟩)
      all_goals first | (go_ret; exact ⟨by rw [HC.out]; rfl, rfl⟩) | (exfalso; simp_all)
set_option maxHeartbeats 400000 in
theorem cmp39_any (a b : ByteArray) (s t : Int) (w : World) : Calls Try.prog 39 #[.agg #[.string a, .int .i64 s], .agg #[.string b, .int .i64 t]] w fun e w' => e = .returned (.int .i64 (cmpS a b)) ∧ Ch (fun _ => False) w w' := by
  have HC := Lib.hid (compare_str a b)
  go_enter Try.func39, Try.ntmps39
  go_wp2_with (go_at_call 40; refine (HC.out _).mono ?_; rintro e w' ⟨rfl, rfl⟩)
  go_ret
  exact ⟨rfl, (Ch.alloc _ _ _).tr (Ch.alloc _ _ _)⟩
end Go.Proofs.Ytlgamaldngkdnaa
