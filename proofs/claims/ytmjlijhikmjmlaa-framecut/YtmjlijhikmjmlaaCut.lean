/- Frames that are cut off, plainly; a slice of numbers that a call makes. -/
import Derived.Test.YtmjlijhikmjmlaaScans
namespace Go.Proofs.Ytmjlijhikmjmlaa
open Go Go.RowKit

/-- How many bytes the frames of the first k payloads take. -/
def upto (xs : List (List UInt8)) (k : Nat) : Nat := (flat (xs.take k)).length
/-- .. for each k up to n. -/
def endsL (xs : List (List UInt8)) (n : Nat) : List Nat := (List.range (n + 1)).map (upto xs)
theorem endsL_length (xs : List (List UInt8)) (n : Nat) : (endsL xs n).length = n + 1 := by simp [endsL]
theorem endsL_at (xs : List (List UInt8)) (n k : Nat) (h : k ≤ n) : (endsL xs n).getD k 0 = upto xs k := by
  unfold endsL
  rw [List.getD_eq_getElem?_getD, List.getElem?_map, List.getElem?_range (by omega)]
  rfl
theorem endsL_succ (xs : List (List UInt8)) (n : Nat) : endsL xs (n + 1) = endsL xs n ++ [upto xs (n + 1)] := by
  unfold endsL
  rw [List.range_succ, List.map_append]
  rfl
theorem upto_zero (xs : List (List UInt8)) : upto xs 0 = 0 := by simp [upto, flat]
theorem upto_succ (xs : List (List UInt8)) (k : Nat) (h : k < xs.length) : upto xs (k + 1) = upto xs k + (12 + (xs.getD k []).length) := by
  unfold upto
  rw [take_at h, flat_snoc, List.length_append, frameL_length]
theorem upto_all (xs : List (List UInt8)) : upto xs xs.length = (flat xs).length := by unfold upto; rw [List.take_length]
theorem upto_le (xs : List (List UInt8)) (k : Nat) : upto xs k ≤ (flat xs).length := by
  unfold upto
  conv => rhs; rw [← List.take_append_drop k xs, flat_append, List.length_append]
  omega
/-- Of frames that are cut off those are told that are whole. -/
theorem Scanned.cut (xs : List (List UInt8)) (hx : ∀ x ∈ xs, x.length ≤ 1048577) (c k : Nat) (hk : k ≤ xs.length) (h1 : upto xs k ≤ c) (h2 : k < xs.length → c < upto xs (k + 1)) : Scanned ((flat xs).take c) (xs.take k) := by
  refine ⟨(flat (xs.drop k)).take (c - upto xs k), ?_, ?_, fun x h => hx x (List.mem_of_mem_take h)⟩
  · conv => lhs; rw [← List.take_append_drop k xs, flat_append]
    rw [List.take_append, List.take_of_length_le (by exact h1)]
    rfl
  · by_cases hl : k < xs.length
    · have h3 := h2 hl
      rw [upto_succ xs k hl] at h3
      rw [List.drop_eq_getElem_cons hl, flat_cons, ← getD_at hl, List.take_append_of_le_length (by rw [frameL_length]; omega)]
      exact first_cut _ (hx _ (by rw [getD_at hl]; exact List.getElem_mem hl)) _ (by omega)
    · rw [List.drop_eq_nil_of_le (by omega), flat_nil, List.take_nil]
      exact first_nil

def nv (n : Nat) : Value := .int .i64 (n : Int)
theorem Try.info3 : (Try.prog.info? 3).map (fun i => (i.zero, i.size, i.bytes)) = some (some (.int .i64 0), 1, 8) := by kernel_rfl
/-- A slice of numbers that a call made itself. -/
def OwN (w : World) (base : Nat) (v : Value) (es : List Nat) : Prop := w.ownsRow base 3 1 v es.length (es.map nv)
/-- The slice has these numbers. -/
def RdN (w : World) (a : Option Addr) (es : List Nat) : Prop := ∀ i, i < es.length → ∃ b, a = some ⟨b, 0, none⟩ ∧ w.cell? ⟨b, i, none⟩ = some (.int .i64 ((es.getD i 0 : Nat) : Int))
section
variable {w w' : World} {base : Nat} {v : Value} {es : List Nat}
theorem OwN.own (h : OwN w base v es) (k : Nat) (hk : v.ownBlock = some k) : base ≤ k ∧ k < w.heap.size := by
  rcases h.2 with ⟨hv, _⟩ | ⟨g, cap, cur, hv, hb, hg, _⟩
  · rw [hv] at hk; cases hk
  · rw [hv] at hk; cases hk; exact ⟨hb, lt_of_heap hg⟩
theorem OwN.keep {P : Nat → Prop} (h : OwN w base v es) (hc : Ch P w w') (hs : ∀ k, v.ownBlock = some k → ¬ P k) : OwN w' base v es := by
  refine ⟨h.1, ?_⟩
  rcases h.2 with h2 | ⟨g, cap, cur, hv, hb, hg, r⟩
  · exact .inl h2
  · exact .inr ⟨g, cap, cur, hv, hb, (hc.block g (lt_of_heap hg) (hs g (by rw [hv]; rfl))).trans hg, r⟩
theorem OwN.new (h : OwN w base v es) (hb : Below w.heap.size w w') : OwN w' base v es := h.keep (Ch.of_new (S := fun _ => False) hb) (fun _ _ => id)
theorem OwN.rd (h : OwN w base v es) : ∃ a cap, v = .slice a es.length cap ∧ RdN w a es := by
  rcases h.2 with ⟨hv, h0⟩ | ⟨g, cap, cur, hv, hb, hg, hnc, hcm, hcs, ht⟩
  · exact ⟨none, 0, by rw [hv, h0], fun i hi => absurd hi (by omega)⟩
  · refine ⟨some ⟨g, 0, none⟩, cap, hv, fun i hi => ⟨g, rfl, ?_⟩⟩
    rw [cell_of_row _ _ _ _ _ _ hg]
    have h3 : (cur.toList.take (es.length * 1))[i]? = (es.map nv)[i]? := by rw [ht]
    rw [List.getElem?_take_of_lt (by omega)] at h3
    rw [← Array.getElem?_toList, h3, List.getElem?_map, List.getElem?_eq_getElem hi, List.getD_eq_getElem?_getD, List.getElem?_eq_getElem hi]
    rfl
theorem OwN.first (w : World) (base : Nat) (h : base ≤ w.heap.size) : OwN (w.alloc (.cells #[.int .i64 0] 3)) base (.slice (some ⟨w.heap.size, 0, none⟩) 1 1) [0] :=
  ⟨rfl, .inr ⟨w.heap.size, 1, #[.int .i64 0], rfl, h, heap_alloc_new w _, Nat.le_refl _, by unfold maxLen; omega, rfl, rfl⟩⟩
end
section
variable {w : World} {o : Oper} {a : Act} {Q : Exit → Act → World → Prop}
/-- append of one number. -/
theorem wpList_num {ops : Array Oper} {rest : List Oper} (hgd : o.guard = none) (s x : Operand) (ho : o.op = .call { callee := .builtin .append, args := #[s, x], argTypes := #[30, 30] })
    (base : Nat) (v : Value) (es : List Nat) (hs : a.eval s = v) (hown : OwN w base v es) (g : Nat) (n : Nat)
    (hx : a.eval x = .slice (some ⟨g, 0, none⟩) 1 1) (hrow : w.heap[g]? = some (.cells #[.int .i64 (n : Int)] 3 (0, 0))) (hlen : es.length + 1 ≤ 100000000) (hbase : base ≤ w.heap.size)
    (h : ∀ v' w', OwN w' base v' (es ++ [n]) → Ch (fun j => v.ownBlock = some j) w w' → wpList Try.prog ops Q rest (a.put o.dst v') w') : wpList Try.prog ops Q (o :: rest) a w := by
  obtain ⟨i0, hi, hz0, hz1, hz2⟩ := info_parts Try.info3
  refine wpList_append_own _ hgd s x 30 ho base 3 i0 _ 1 8 Try.underlying30 hi hz0 hz1 hz2 rfl (by decide) v es.length (es.map nv) hs hown ⟨g, 0, none⟩ 1 1 [.int .i64 (n : Int)] hx (by simp) ?_ ?_ (by unfold maxLen; omega) (by omega) hbase ?_
  · intro j z hj
    rw [add0, cell_of_row _ _ _ _ _ _ hrow]
    simpa using hj
  · intro z hz
    simp only [List.mem_cons, List.not_mem_nil, or_false] at hz
    rw [hz]; rfl
  · intro v' w' h1 h2 _
    refine h v' w' ?_ (Ch.of_grown h2 fun k hk => hk)
    unfold OwN
    rw [List.length_append, List.map_append, show [n].map nv = [.int .i64 (n : Int)] from rfl]
    exact h1
end
theorem nrow (W : World) (i : Nat) (hi : W.heap.size = i) (n : Nat) : (W.alloc (.cells #[.int .i64 (n : Int)] 3)).heap[i]? = some (.cells #[.int .i64 (n : Int)] 3 (0, 0)) := by
  subst hi
  exact heap_alloc_new W _
end Go.Proofs.Ytmjlijhikmjmlaa
