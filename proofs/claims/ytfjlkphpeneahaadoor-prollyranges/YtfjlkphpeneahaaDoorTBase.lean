/- Pairs of texts in cells: read, kept, owned; appends; slices of slices. -/
import Derived.Test.YtfjlkphpeneahaaDoorTxt
import Derived.Test.YtfjlkphpeneahaaDoorRuns
import Derived.Test.YtfjlkphpeneahaaDoorM12
namespace Go.Proofs.YtfjlkphpeneahaaDoor
open Go Go.RowKit

def iv (x : It) : Value := .agg #[.string (txt x.1), .string (txt x.2)]
def cellsI (xs : List It) : List Value := xs.flatMap fun x => [.string (txt x.1), .string (txt x.2)]
theorem cellsI_length (xs : List It) : (cellsI xs).length = xs.length * 2 := by
  induction xs with
  | nil => rfl
  | cons p xs ih => simp [cellsI, List.flatMap_cons] at ih ⊢; omega
theorem cellsI_append (xs ys : List It) : cellsI (xs ++ ys) = cellsI xs ++ cellsI ys := by simp [cellsI]
theorem cellsI_even (xs : List It) (i : Nat) (h : i < xs.length) : (cellsI xs)[i * 2]? = some (.string (txt (itD xs i).1)) ∧ (cellsI xs)[i * 2 + 1]? = some (.string (txt (itD xs i).2)) := by
  induction xs generalizing i with
  | nil => simp at h
  | cons p xs ih =>
    have e : cellsI (p :: xs) = .string (txt p.1) :: .string (txt p.2) :: cellsI xs := rfl
    cases i with
    | zero => exact ⟨rfl, rfl⟩
    | succ i =>
      have := ih i (by simpa using h)
      rw [e, show (i + 1) * 2 = i * 2 + 1 + 1 by omega]
      exact this
/-- The slice of the address has these pairs. -/
def RdP (w : World) (a : Option Addr) (xs : List It) : Prop :=
  ∀ i, i < xs.length → ∃ b off, a = some ⟨b, off, none⟩ ∧ w.cell? ⟨b, off + i * 2, none⟩ = some (.string (txt (itD xs i).1)) ∧ w.cell? ⟨b, off + i * 2 + 1, none⟩ = some (.string (txt (itD xs i).2))
theorem RdP.keep {S : Nat → Prop} {w w' : World} {a : Option Addr} {xs : List It} (h : RdP w a xs) (hc : Ch S w w') (hs : ∀ ad, a = some ad → ¬ S ad.block) : RdP w' a xs := fun i hi => by
  obtain ⟨b, off, ha, h1, h2⟩ := h i hi
  exact ⟨b, off, ha, hc.cell (p := ⟨b, off + i * 2, none⟩) h1 (hs ⟨b, off, none⟩ ha), hc.cell (p := ⟨b, off + i * 2 + 1, none⟩) h2 (hs ⟨b, off, none⟩ ha)⟩
theorem RdP.new {w w' : World} {a : Option Addr} {xs : List It} (h : RdP w a xs) (hb : Below w.heap.size w w') : RdP w' a xs := h.keep (Ch.of_new (S := fun _ => False) hb) (fun _ _ => id)
theorem RdP.nil (w : World) (a : Option Addr) : RdP w a [] := fun i hi => absurd hi (by simp)
theorem itD_take {xs : List It} {k i : Nat} (h : i < k) : itD (xs.take k) i = itD xs i := by
  unfold itD
  rw [List.getD_eq_getElem?_getD, List.getD_eq_getElem?_getD, List.getElem?_take_of_lt h]
theorem itD_drop (xs : List It) (k i : Nat) : itD (xs.drop k) i = itD xs (k + i) := by
  unfold itD
  rw [List.getD_eq_getElem?_getD, List.getD_eq_getElem?_getD, List.getElem?_drop]
theorem RdP.take {w : World} {a : Option Addr} {xs : List It} (h : RdP w a xs) (k : Nat) : RdP w a (xs.take k) := fun i hi => by
  rw [List.length_take] at hi
  obtain ⟨b, off, ha, h1⟩ := h i (by omega)
  refine ⟨b, off, ha, ?_⟩
  rw [itD_take (by omega)]
  exact h1
theorem RdP.blk {w : World} {a : Option Addr} {xs : List It} (h : RdP w a xs) (h0 : 0 < xs.length) : ∃ b off, a = some ⟨b, off, none⟩ ∧ b < w.heap.size := by
  obtain ⟨b, off, ha, h1, _⟩ := h 0 h0
  exact ⟨b, off, ha, World.block_lt_of_cell? _ _ h1⟩
/-- The part of a slice from l on, in memory. -/
theorem RdP.cut {w : World} {a : Option Addr} {xs : List It} (h : RdP w a xs) (l m : Nat) (hm : xs.length ≤ m) : RdP w (if m = l then a else a.map (·.add (l * 2))) (xs.drop l) := fun i hi => by
  rw [List.length_drop] at hi
  obtain ⟨b, off, ha, h1, h2⟩ := h (l + i) (by omega)
  rw [if_neg (by omega), ha]
  refine ⟨b, off + l * 2, ?_, ?_, ?_⟩
  · rw [Option.map_some, Addr.add_lit]
  · rw [itD_drop, ← h1, show off + l * 2 + i * 2 = off + (l + i) * 2 by omega]
  · rw [itD_drop, ← h2, show off + l * 2 + i * 2 + 1 = off + (l + i) * 2 + 1 by omega]
theorem RdT.cut {w : World} {a : Option Addr} {xs : List (List UInt8)} (h : RdT w a xs) (l m : Nat) (hm : xs.length ≤ m) : RdT w (if m = l then a else a.map (·.add (l * 1))) (xs.drop l) := fun i hi => by
  rw [List.length_drop] at hi
  obtain ⟨b, off, ha, h1⟩ := h (l + i) (by omega)
  rw [if_neg (by omega), ha]
  refine ⟨b, off + l * 1, ?_, ?_⟩
  · rw [Option.map_some, Addr.add_lit]
  · rw [List.getD_eq_getElem?_getD, List.getElem?_drop, ← List.getD_eq_getElem?_getD, ← h1, show off + l * 1 + i = off + (l + i) by omega]
theorem cut_blk {a : Option Addr} {m l s : Nat} {ad : Addr} (h : (if m = l then a else a.map (·.add (l * s))) = some ad) : ∃ ad', a = some ad' ∧ ad'.block = ad.block := by
  split at h
  · exact ⟨ad, h, rfl⟩
  · cases a with
    | none => cases h
    | some x => cases h; exact ⟨x, rfl, by unfold Addr.add; split <;> rfl⟩
theorem Tryd.info52 : (Tryd.prog.info? 52).map (fun i => (i.zero, i.size, i.bytes)) = some (some (.agg #[.string ByteArray.empty, .string ByteArray.empty]), 2, 32) := by kernel_rfl
theorem Tryd.info43 : (Tryd.prog.info? 43).map (fun i => (i.zero, i.size, i.bytes)) = some (some (.agg #[.string ByteArray.empty, .string ByteArray.empty]), 2, 32) := by kernel_rfl
/-- A slice that a call made itself, of pairs of cells of type e. -/
def OwP (w : World) (base : Nat) (e : TypeId) (v : Value) (xs : List It) : Prop := w.ownsRow base e 2 v xs.length (cellsI xs)
section
variable {w w' : World} {base : Nat} {e : TypeId} {v : Value} {xs : List It}
theorem OwP.rd (h : OwP w base e v xs) : ∃ a cap, v = .slice a xs.length cap ∧ RdP w a xs ∧ xs.length ≤ cap ∧ (a = none → cap = 0) ∧ (∀ ad, a = some ad → base ≤ ad.block ∧ ad.block < w.heap.size ∧ v.ownBlock = some ad.block) ∧ cap ≤ maxLen := by
  rcases h.2 with ⟨hv, h0⟩ | ⟨g, cap, cur, hv, hb, hg, hnc, hcm, hcs, ht⟩
  · exact ⟨none, 0, by rw [hv, h0], fun i hi => absurd hi (by omega), by omega, fun _ => rfl, (fun ad h => by cases h), by unfold maxLen; omega⟩
  · refine ⟨some ⟨g, 0, none⟩, cap, hv, fun i hi => ⟨g, 0, rfl, ?_, ?_⟩, hnc, (fun h => by cases h), (fun ad h => by cases h; exact ⟨hb, lt_of_heap hg, by rw [hv]; rfl⟩), hcm⟩
    · rw [cell_of_row _ _ _ _ _ _ hg, Nat.zero_add]
      have h3 : (cur.toList.take (xs.length * 2))[i * 2]? = (cellsI xs)[i * 2]? := by rw [ht]
      rw [List.getElem?_take_of_lt (by omega)] at h3
      rw [← Array.getElem?_toList, h3, (cellsI_even xs i hi).1]
    · rw [cell_of_row _ _ _ _ _ _ hg, Nat.zero_add]
      have h3 : (cur.toList.take (xs.length * 2))[i * 2 + 1]? = (cellsI xs)[i * 2 + 1]? := by rw [ht]
      rw [List.getElem?_take_of_lt (by omega)] at h3
      rw [← Array.getElem?_toList, h3, (cellsI_even xs i hi).2]
theorem OwP.own (h : OwP w base e v xs) (k : Nat) (hk : v.ownBlock = some k) : base ≤ k ∧ k < w.heap.size := by
  rcases h.2 with ⟨hv, _⟩ | ⟨g, cap, cur, hv, hb, hg, _⟩
  · rw [hv] at hk; cases hk
  · rw [hv] at hk; cases hk; exact ⟨hb, lt_of_heap hg⟩
theorem OwP.keep {S : Nat → Prop} (h : OwP w base e v xs) (hc : Ch S w w') (hs : ∀ k, v.ownBlock = some k → ¬ S k) : OwP w' base e v xs := by
  refine ⟨h.1, ?_⟩
  rcases h.2 with h2 | ⟨g, cap, cur, hv, hb, hg, r⟩
  · exact .inl h2
  · exact .inr ⟨g, cap, cur, hv, hb, (hc.block g (lt_of_heap hg) (hs g (by rw [hv]; rfl))).trans hg, r⟩
theorem OwP.new (h : OwP w base e v xs) (hb : Below w.heap.size w w') : OwP w' base e v xs := h.keep (Ch.of_new (S := fun _ => False) hb) (fun _ _ => id)
theorem OwP.nil (w : World) (base : Nat) (e : TypeId) : OwP w base e (.slice none 0 0) [] := World.ownsRow_nil _ _ _ _
theorem OwP.low {base' : Nat} (h : OwP w base e v xs) (hb : base' ≤ base) : OwP w base' e v xs := by
  refine ⟨h.1, ?_⟩
  rcases h.2 with h2 | ⟨g, cap, cur, hv, hg, r⟩
  · exact .inl h2
  · exact .inr ⟨g, cap, cur, hv, by omega, r⟩
end
section
variable {w : World} {o : Oper} {a : Act} {Q : Exit → Act → World → Prop}
/-- append of one pair to a slice that the call made itself. -/
theorem wpList_pair {ops : Array Oper} {rest : List Oper} (hgd : o.guard = none) (s x : Operand) (t e : TypeId) (ho : o.op = .call { callee := .builtin .append, args := #[s, x], argTypes := #[t, t] })
    (ht : Tryd.prog.underlying t = some (.slice e)) (he : (Tryd.prog.info? e).map (fun i => (i.zero, i.size, i.bytes)) = some (some (.agg #[.string ByteArray.empty, .string ByteArray.empty]), 2, 32))
    (base : Nat) (v : Value) (xs : List It) (hs : a.eval s = v) (hown : OwP w base e v xs) (g : Nat) (n : It)
    (hx : a.eval x = .slice (some ⟨g, 0, none⟩) 1 1) (hrow : w.heap[g]? = some (.cells #[.string (txt n.1), .string (txt n.2)] e (0, 0))) (hlen : xs.length + 1 ≤ 100000000) (hbase : base ≤ w.heap.size)
    (h : ∀ v' w', OwP w' base e v' (xs ++ [n]) → Ch (fun j => v.ownBlock = some j) w w' → wpList Tryd.prog ops Q rest (a.put o.dst v') w') : wpList Tryd.prog ops Q (o :: rest) a w := by
  obtain ⟨i0, hi, hz0, hz1, hz2⟩ := info_parts he
  refine wpList_append_own _ hgd s x t ho base e i0 _ 2 32 ht hi hz0 hz1 hz2 rfl (by decide) v xs.length (cellsI xs) hs hown ⟨g, 0, none⟩ 1 1 [.string (txt n.1), .string (txt n.2)] hx (by simp) ?_ ?_ (by unfold maxLen; omega) (by omega) hbase ?_
  · intro j y hj
    rw [add0, cell_of_row _ _ _ _ _ _ hrow]
    simpa using hj
  · intro y hy
    simp only [List.mem_cons, List.not_mem_nil, or_false] at hy
    rcases hy with rfl | rfl <;> rfl
  · intro v' w' h1 h2 _
    refine h v' w' ?_ (Ch.of_grown h2 fun k hk => hk)
    unfold OwP
    rw [cellsI_append, List.length_append]
    exact h1
/-- The same, in a round. -/
theorem wpListIn_pair {F : Fence} {m : Nat} {ops : Array Oper} {rest : List Oper} (hgd : o.guard = none) (s x : Operand) (t e : TypeId) (ho : o.op = .call { callee := .builtin .append, args := #[s, x], argTypes := #[t, t] })
    (ht : Tryd.prog.underlying t = some (.slice e)) (he : (Tryd.prog.info? e).map (fun i => (i.zero, i.size, i.bytes)) = some (some (.agg #[.string ByteArray.empty, .string ByteArray.empty]), 2, 32))
    (base : Nat) (v : Value) (xs : List It) (hs : a.eval s = v) (hown : OwP w base e v xs) (g : Nat) (n : It)
    (hx : a.eval x = .slice (some ⟨g, 0, none⟩) 1 1) (hrow : w.heap[g]? = some (.cells #[.string (txt n.1), .string (txt n.2)] e (0, 0))) (hlen : xs.length + 1 ≤ 100000000) (hbase : base ≤ w.heap.size)
    (h : ∀ v' w', OwP w' base e v' (xs ++ [n]) → Ch (fun j => v.ownBlock = some j) w w' → wpListIn F m Tryd.prog ops Q rest (a.put o.dst v') w') : wpListIn F m Tryd.prog ops Q (o :: rest) a w := by
  obtain ⟨i0, hi, hz0, hz1, hz2⟩ := info_parts he
  refine wpListIn_append_own _ hgd s x t ho base e i0 _ 2 32 ht hi hz0 hz1 hz2 rfl (by decide) v xs.length (cellsI xs) hs hown ⟨g, 0, none⟩ 1 1 [.string (txt n.1), .string (txt n.2)] hx (by simp) ?_ ?_ (by unfold maxLen; omega) (by omega) hbase ?_
  · intro j y hj
    rw [add0, cell_of_row _ _ _ _ _ _ hrow]
    simpa using hj
  · intro y hy
    simp only [List.mem_cons, List.not_mem_nil, or_false] at hy
    rcases hy with rfl | rfl <;> rfl
  · intro v' w' h1 h2 _
    refine h v' w' ?_ (Ch.of_grown h2 fun k hk => hk)
    unfold OwP
    rw [cellsI_append, List.length_append]
    exact h1
/-- append of a text to bytes. -/
theorem wpList_btext {ops : Array Oper} {rest : List Oper} (hgd : o.guard = none) (s x : Operand) (ho : o.op = .call { callee := .builtin .append, args := #[s, x], argTypes := #[108, 9] })
    (base : Nat) (v : Value) (l : List UInt8) (hs : a.eval s = v) (hown : OwB w base v l) (t : List UInt8) (hx : a.eval x = .string (txt t)) (hlen : l.length + t.length ≤ 100000000) (hbase : base ≤ w.heap.size)
    (h : ∀ v' w', OwB w' base v' (l ++ t) → Ch (fun j => v.ownBlock = some j) w w' → wpList Tryd.prog ops Q rest (a.put o.dst v') w') : wpList Tryd.prog ops Q (o :: rest) a w := by
  have hsz := txt_size t
  refine wpList_text hgd s x ho base v l hs hown (txt t) hx (by omega) hbase ?_
  rw [data_txt]
  exact h
end
theorem take_itD {xs : List It} {i : Nat} (h : i < xs.length) : xs.take (i + 1) = xs.take i ++ [itD xs i] := by
  rw [List.take_succ_eq_append_getElem h, itD_at h]
theorem prow (W : World) (i : Nat) (hi : W.heap.size = i) (e : TypeId) (n : It) : (W.alloc (.cells #[.string (txt n.1), .string (txt n.2)] e)).heap[i]? = some (.cells #[.string (txt n.1), .string (txt n.2)] e (0, 0)) := by
  subst hi
  exact heap_alloc_new W _
end Go.Proofs.YtfjlkphpeneahaaDoor
