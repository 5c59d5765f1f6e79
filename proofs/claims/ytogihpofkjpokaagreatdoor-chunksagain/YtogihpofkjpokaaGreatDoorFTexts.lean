/- Slices of texts: read, made, grown; the walk of same. -/
import Derived.Test.YtogihpofkjpokaaGreatDoorFFirst
import Derived.Test.YtogihpofkjpokaaGreatDoorFShelf
namespace Go.Proofs.YtogihpofkjpokaaGreatDoor.F5
open Go Go.RowKit

def sv (x : List UInt8) : Value := .string (txt x)
/-- The slice of the address has these texts. -/
def RdT (w : World) (a : Option Addr) (xs : List (List UInt8)) : Prop :=
  ∀ i, i < xs.length → ∃ b off, a = some ⟨b, off, none⟩ ∧ w.cell? ⟨b, off + i, none⟩ = some (.string (txt (xs.getD i [])))
theorem RdT.keep {P : Nat → Prop} {w w' : World} {a : Option Addr} {xs : List (List UInt8)} (h : RdT w a xs) (hc : Ch P w w') (hs : ∀ ad, a = some ad → ¬ P ad.block) : RdT w' a xs := fun i hi => by
  obtain ⟨b, off, ha, h1⟩ := h i hi
  exact ⟨b, off, ha, hc.cell (p := ⟨b, off + i, none⟩) h1 (hs ⟨b, off, none⟩ ha)⟩
theorem RdT.new {w w' : World} {a : Option Addr} {xs : List (List UInt8)} (h : RdT w a xs) (hb : Below w.heap.size w w') : RdT w' a xs := h.keep (Ch.of_new (S := fun _ => False) hb) (fun _ _ => id)
theorem RdT.nil (w : World) (a : Option Addr) : RdT w a [] := fun i hi => absurd hi (by simp)
theorem RdT.take {w : World} {a : Option Addr} {xs : List (List UInt8)} (h : RdT w a xs) (k : Nat) : RdT w a (xs.take k) := fun i hi => by
  rw [List.length_take] at hi
  obtain ⟨b, off, ha, h1⟩ := h i (by omega)
  refine ⟨b, off, ha, ?_⟩
  rw [h1, List.getD_eq_getElem?_getD, List.getD_eq_getElem?_getD, List.getElem?_take_of_lt (by omega)]
theorem Tryz.info9 : (Tryz.prog.info? 9).map (fun i => (i.zero, i.size, i.bytes)) = some (some (.string ByteArray.empty), 1, 16) := by kernel_rfl
/-- A slice of texts that a call made itself. -/
def OwT (w : World) (base : Nat) (v : Value) (xs : List (List UInt8)) : Prop := w.ownsRow base 9 1 v xs.length (xs.map sv)
theorem lt_of_heap {w : World} {g : Nat} {o : Obj} (h : w.heap[g]? = some o) : g < w.heap.size := (Array.getElem?_eq_some_iff.1 h).1
section
variable {w w' : World} {base : Nat} {v : Value} {xs : List (List UInt8)}
theorem OwT.own (h : OwT w base v xs) (k : Nat) (hk : v.ownBlock = some k) : base ≤ k ∧ k < w.heap.size := by
  rcases h.2 with ⟨hv, _⟩ | ⟨g, cap, cur, hv, hb, hg, _⟩
  · rw [hv] at hk; cases hk
  · rw [hv] at hk; cases hk; exact ⟨hb, lt_of_heap hg⟩
theorem OwT.keep {P : Nat → Prop} (h : OwT w base v xs) (hc : Ch P w w') (hs : ∀ k, v.ownBlock = some k → ¬ P k) : OwT w' base v xs := by
  refine ⟨h.1, ?_⟩
  rcases h.2 with h2 | ⟨g, cap, cur, hv, hb, hg, r⟩
  · exact .inl h2
  · exact .inr ⟨g, cap, cur, hv, hb, (hc.block g (lt_of_heap hg) (hs g (by rw [hv]; rfl))).trans hg, r⟩
theorem OwT.new (h : OwT w base v xs) (hb : Below w.heap.size w w') : OwT w' base v xs := h.keep (Ch.of_new (S := fun _ => False) hb) (fun _ _ => id)
theorem OwT.nil (w : World) (base : Nat) : OwT w base (.slice none 0 0) [] := World.ownsRow_nil _ _ _ _
theorem OwT.rd (h : OwT w base v xs) : ∃ a cap, v = .slice a xs.length cap ∧ RdT w a xs ∧ (a = none → cap = 0) ∧ ∀ ad, a = some ad → base ≤ ad.block ∧ ad.block < w.heap.size := by
  rcases h.2 with ⟨hv, h0⟩ | ⟨g, cap, cur, hv, hb, hg, hnc, hcm, hcs, ht⟩
  · exact ⟨none, 0, by rw [hv, h0], fun i hi => absurd hi (by omega), fun _ => rfl, fun ad h => by cases h⟩
  · refine ⟨some ⟨g, 0, none⟩, cap, hv, fun i hi => ⟨g, 0, rfl, ?_⟩, fun h => (by cases h), fun ad h => by cases h; exact ⟨hb, lt_of_heap hg⟩⟩
    rw [cell_of_row _ _ _ _ _ _ hg, Nat.zero_add]
    have h3 : (cur.toList.take (xs.length * 1))[i]? = (xs.map sv)[i]? := by rw [ht]
    rw [List.getElem?_take_of_lt (by omega)] at h3
    rw [← Array.getElem?_toList, h3, List.getElem?_map, List.getElem?_eq_getElem hi, List.getD_eq_getElem?_getD, List.getElem?_eq_getElem hi]
    rfl
theorem OwT.form (h : OwT w base v xs) : ∃ a c, v = .slice a xs.length c := by
  obtain ⟨a, c, hv, _⟩ := h.rd
  exact ⟨a, c, hv⟩
theorem OwT.empty (w : World) (base : Nat) (h : base ≤ w.heap.size) : OwT (w.alloc (.cells #[] 9)) base (.slice (some ⟨w.heap.size, 0, none⟩) 0 0) [] :=
  ⟨rfl, .inr ⟨w.heap.size, 0, #[], rfl, h, heap_alloc_new w _, Nat.le_refl _, by unfold maxLen; omega, rfl, rfl⟩⟩
end
section
variable {w : World} {o : Oper} {a : Act} {Q : Exit → Act → World → Prop}
/-- append of one text. -/
theorem wpList_one {ops : Array Oper} {rest : List Oper} (hgd : o.guard = none) (s x : Operand) (ho : o.op = .call { callee := .builtin .append, args := #[s, x], argTypes := #[25, 25] })
    (base : Nat) (v : Value) (xs : List (List UInt8)) (hs : a.eval s = v) (hown : OwT w base v xs) (g : Nat) (n : List UInt8)
    (hx : a.eval x = .slice (some ⟨g, 0, none⟩) 1 1) (hrow : w.heap[g]? = some (.cells #[.string (txt n)] 9 (0, 0))) (hlen : xs.length + 1 ≤ 100000000) (hbase : base ≤ w.heap.size)
    (h : ∀ v' w', OwT w' base v' (xs ++ [n]) → Ch (fun j => v.ownBlock = some j) w w' → wpList Tryz.prog ops Q rest (a.put o.dst v') w') : wpList Tryz.prog ops Q (o :: rest) a w := by
  obtain ⟨i0, hi, hz0, hz1, hz2⟩ := info_parts Tryz.info9
  refine wpList_append_own _ hgd s x 25 ho base 9 i0 _ 1 16 Tryz.underlying25 hi hz0 hz1 hz2 rfl (by decide) v xs.length (xs.map sv) hs hown ⟨g, 0, none⟩ 1 1 [.string (txt n)] hx (by simp) ?_ ?_ (by unfold maxLen; omega) (by omega) hbase ?_
  · intro j z hj
    rw [add0, cell_of_row _ _ _ _ _ _ hrow]
    simpa using hj
  · intro z hz
    simp only [List.mem_cons, List.not_mem_nil, or_false] at hz
    rw [hz]; rfl
  · intro v' w' h1 h2 _
    refine h v' w' ?_ (Ch.of_grown h2 fun k hk => hk)
    unfold OwT
    rw [List.length_append, List.map_append, show [n].map sv = [.string (txt n)] from rfl]
    exact h1
end
theorem srow (W : World) (i : Nat) (hi : W.heap.size = i) (n : List UInt8) : (W.alloc (.cells #[.string (txt n)] 9)).heap[i]? = some (.cells #[.string (txt n)] 9 (0, 0)) := by
  subst hi
  exact heap_alloc_new W _
theorem getD_at {xs : List (List UInt8)} {i : Nat} (h : i < xs.length) : xs.getD i [] = xs[i] := by
  rw [List.getD_eq_getElem?_getD, List.getElem?_eq_getElem h]; rfl
theorem take_at {xs : List (List UInt8)} {i : Nat} (h : i < xs.length) : xs.take (i + 1) = xs.take i ++ [xs.getD i []] := by
  rw [List.take_succ_eq_append_getElem h, getD_at h]
theorem txt_eq (l m : List UInt8) : ((txt l).toList == (txt m).toList) = decide (l = m) := by
  rw [ByteArray.toList_eq, ByteArray.toList_eq, data_txt, data_txt]
  by_cases h : l = m
  · rw [decide_eq_true h, h]; exact beq_self_eq_true _
  · rw [decide_eq_false h]; exact beq_eq_false_iff_ne.2 h

end Go.Proofs.YtogihpofkjpokaaGreatDoor.F5
