/- What the levels of a tree keep, plainly. -/
import Derived.Test.YtfjlkphpeneahaaDoorTLevel
namespace Go.Proofs.YtfjlkphpeneahaaDoor
open Go Go.RowKit

def szL (l : List It) : Nat := (l.map fun x => x.1.length + x.2.length).sum
theorem part_sum (f : It → Nat) : ∀ (L : List (List It)) (q : List It), q ∈ L → (q.map f).sum ≤ (L.flatten.map f).sum
  | [], _, h => by cases h
  | p :: L, q, h => by
    rw [List.flatten_cons, List.map_append, List.sum_append]
    rcases List.mem_cons.1 h with rfl | h
    · omega
    · have := part_sum f L q h; omega
theorem sz_mem {l : List It} {x : It} (h : x ∈ l) : x.1.length + x.2.length ≤ szL l := by
  unfold szL
  induction l with
  | nil => cases h
  | cons y l ih =>
    rw [List.map_cons, List.sum_cons]
    rcases List.mem_cons.1 h with rfl | h
    · omega
    · have := ih h; omega
/-- A level of a tree. -/
structure LvS (lev : Nat) (l : List It) : Prop where
  few : l.length ≤ 1000
  pos : 1 ≤ l.length
  key : ∀ x ∈ l, x.1.length ≤ 2000
  tot : totL lev l ≤ 1000
  low : lev = 0 → szL l ≤ 40000 ∧ ∀ x ∈ l, x.2.length ≤ 8000
  told : lev ≠ 0 → ∀ x ∈ l, toldOk x = true
theorem told_len {x : It} (h : toldOk x = true) : x.2.length = 40 ∧ 1 ≤ cnt x ∧ cnt x ≤ 1099511627776 := by
  unfold toldOk at h; exact of_decide_eq_true h
theorem itemL_len (x : It) : (itemL x).length = 4 + (x.1.length + x.2.length) := by
  unfold itemL
  simp only [List.length_append, be2_len]
  omega
theorem nodeL_len (lev : Nat) (q : List It) : (nodeL lev q).length = 3 + 4 * q.length + szL q := by
  unfold nodeL szL
  rw [List.length_cons, List.length_cons, List.length_cons]
  induction q with
  | nil => rfl
  | cons x q ih =>
    rw [List.flatMap_cons, List.length_append, itemL_len, List.map_cons, List.sum_cons, List.length_cons]
    omega
theorem sz_le {q : List It} {n : Nat} (h : ∀ x ∈ q, x.1.length + x.2.length ≤ n) : szL q ≤ q.length * n := by
  unfold szL
  induction q with
  | nil => simp
  | cons x q ih =>
    rw [List.map_cons, List.sum_cons, List.length_cons, Nat.add_mul]
    have h1 := h x (by simp)
    have h2 := ih fun y hy => h y (by simp [hy])
    omega
section
variable {lev : Nat} {l q : List It}
theorem part_mem (hq : q ∈ partsOf l) {x : It} (hx : x ∈ q) : x ∈ l := by
  rw [← partsOf_flat l]
  exact List.mem_flatten.2 ⟨q, hq, hx⟩
theorem tot_part (hq : q ∈ partsOf l) : totL lev q ≤ totL lev l := by
  have h1 := part_sum cnt _ q hq
  have h2 := part_sum (fun _ => 1) _ q hq
  rw [partsOf_flat] at h1 h2
  have e : ∀ m : List It, (m.map fun _ => 1).sum = m.length := fun m => by induction m with
    | nil => rfl
    | cons y m ih => rw [List.map_cons, List.sum_cons, ih, List.length_cons]; omega
  rw [e, e] at h2
  unfold totL
  split <;> assumption
theorem cnt_pos : ∀ {q : List It}, (∀ x ∈ q, toldOk x = true) → q ≠ [] → 1 ≤ (q.map cnt).sum
  | [], _, h => absurd rfl h
  | x :: q, h, _ => by
    have := told_len (h x (by simp))
    rw [List.map_cons, List.sum_cons]
    omega
theorem LvS.tpos (h : LvS lev l) (hq : q ∈ partsOf l) : 1 ≤ totL lev q := by
  have h1 := partsOf_mem hq
  unfold totL
  split
  · omega
  · rename_i h0
    exact cnt_pos (fun x hx => h.told h0 x (part_mem hq hx)) fun e => by rw [e] at h1; simp at h1
theorem LvS.node (h : LvS lev l) (hq : q ∈ partsOf l) : (nodeL lev q).length ≤ 100000 ∧ totB lev q = totL lev q ∧ totB lev q < 9223372036854775808 := by
  have h1 := partsOf_mem hq
  have h2 : totB lev q = totL lev q := totB_right (by
    by_cases h0 : lev = 0
    · exact .inl h0
    · exact .inr (List.all_eq_true.2 fun x hx => h.told h0 x (part_mem hq hx)))
  refine ⟨?_, h2, by have := tot_part (lev := lev) hq; have := h.tot; omega⟩
  rw [nodeL_len]
  by_cases h0 : lev = 0
  · have h3 := part_sum (fun x => x.1.length + x.2.length) _ q hq
    rw [partsOf_flat] at h3
    have h4 := (h.low h0).1
    unfold szL at h4 ⊢
    omega
  · have h3 := sz_le (q := q) (n := 2040) fun x hx => by
      have := h.key x (part_mem hq hx)
      have := told_len (h.told h0 x (part_mem hq hx))
      omega
    omega
theorem LvS.ok (h : LvS lev l) (hv : lev < 256) : LvOk lev l where
  le := hv
  few := h.few
  item := fun x hx => ⟨h.key x hx, by
    by_cases h0 : lev = 0
    · exact (h.low h0).2 x hx
    · have := told_len (h.told h0 x hx); omega⟩
  node := fun q hq => h.node hq
theorem cnt_up (h : LvS lev l) (hq : q ∈ partsOf l) : cnt (upI lev q) = totL lev q := by
  unfold cnt upI
  have e : (sha (nodeL lev q) ++ be8 (totL lev q)).drop 32 = be8 (totL lev q) := by
    rw [List.drop_append_of_le_length (Nat.le_of_eq (sha_len _).symm), List.drop_eq_nil_of_le (Nat.le_of_eq (sha_len _)), List.nil_append]
  rw [e]
  exact num_be8 (by have := tot_part (lev := lev) hq; have := h.tot; omega)
theorem tot_ups (h : LvS lev l) : totL (lev + 1) (upsL lev l) = totL lev l := by
  have e : ∀ (L : List (List It)), (∀ q ∈ L, q ∈ partsOf l) → ((L.map (upI lev)).map cnt).sum = totL lev L.flatten := by
    intro L
    induction L with
    | nil => intro _; unfold totL; split <;> rfl
    | cons p L ih =>
      intro hL
      rw [List.map_cons, List.map_cons, List.sum_cons, ih fun q hq => hL q (by simp [hq]), cnt_up h (hL p (by simp)), List.flatten_cons]
      unfold totL
      split
      · rw [List.length_append]
      · rw [List.map_append, List.sum_append]
  have := e (partsOf l) fun _ h => h
  rw [partsOf_flat] at this
  rw [← this]
  unfold totL upsL
  rw [if_neg (by omega)]
theorem told_up (h : LvS lev l) (hq : q ∈ partsOf l) : toldOk (upI lev q) = true := by
  unfold toldOk
  refine decide_eq_true ⟨upI_len _ _, ?_, ?_⟩
  · rw [cnt_up h hq]; exact h.tpos hq
  · rw [cnt_up h hq]; have := tot_part (lev := lev) hq; have := h.tot; omega
theorem LvS.up (h : LvS lev l) : LvS (lev + 1) (upsL lev l) where
  few := by have := ups_half lev l; have := h.few; have := h.pos; omega
  pos := ups_pos h.pos
  key := fun x hx => by
    unfold upsL at hx
    obtain ⟨q, hq, rfl⟩ := List.mem_map.1 hx
    have h1 := partsOf_mem hq
    exact h.key (itD q (q.length - 1)) (part_mem hq (itD_mem (l := q) (i := q.length - 1) (by omega)))
  tot := by rw [tot_ups h]; exact h.tot
  low := fun h0 => by omega
  told := fun _ x hx => by
    unfold upsL at hx
    obtain ⟨q, hq, rfl⟩ := List.mem_map.1 hx
    exact told_up h hq
end
theorem LvS.base {l : List It} (hl : l.length ≤ 1000) (h0 : 1 ≤ l.length) (hm : mapOk l = true) (hs : szL l ≤ 40000) : LvS 0 l where
  few := hl
  pos := h0
  key := fun x hx => (mapOk_len hm x hx).1
  tot := hl
  low := fun _ => ⟨hs, fun x hx => (mapOk_len hm x hx).2⟩
  told := fun h => absurd rfl h
/-- How far the rounds up a tree are. -/
structure UpS (l : List It) (lev : Nat) (m : List It) (acc : List Bs) : Prop where
  s : LvS lev m
  lo : lev ≤ 9
  half : (m.length - 1) * 2 ^ lev ≤ 1000
  eq : ∃ f, m.length ≤ f ∧ treeG f lev m acc = treeL l
  few : acc.length ≤ 1000000
theorem two_pow_le {n k : Nat} (hn : 1 ≤ n) (h : n * 2 ^ k ≤ 1000) : k ≤ 9 := by
  by_cases hk : k ≤ 9
  · exact hk
  · have h1 : 2 ^ 10 ≤ 2 ^ k := Nat.pow_le_pow_right (by omega) (by omega)
    have h2 : 1 * 2 ^ k ≤ n * 2 ^ k := Nat.mul_le_mul_right _ hn
    omega
theorem UpS.start {l : List It} (h : LvS 0 l) : UpS l 0 l [] where
  s := h
  lo := by omega
  half := by have := h.few; rw [Nat.pow_zero]; omega
  eq := ⟨l.length, Nat.le_refl _, by
    unfold treeL
    rw [if_neg]
    intro e; have := h.pos; rw [e] at this; simp at this⟩
  few := by simp
theorem UpS.step {l m : List It} {lev : Nat} {acc : List Bs} (h : UpS l lev m acc) (hn : acc.length + 1000 * (10 - lev) ≤ 20000) :
    ((upsL lev m).length = 1 → treeL l = (prn (itD (upsL lev m) 0), acc ++ levelL lev m)) ∧
    ((upsL lev m).length ≠ 1 → UpS l (lev + 1) (upsL lev m) (acc ++ levelL lev m) ∧ (upsL lev m).length < m.length ∧ (acc ++ levelL lev m).length + 1000 * (10 - (lev + 1)) ≤ 20000) := by
  obtain ⟨f, hf, he⟩ := h.eq
  have hp := h.s.pos
  have hh := ups_half lev m
  have hu := h.s.up
  have hll : (levelL lev m).length = (upsL lev m).length := by unfold levelL; rw [List.length_map, upsL_len]
  cases f with
  | zero => omega
  | succ f =>
    unfold treeG at he
    refine ⟨fun h1 => ?_, fun h1 => ?_⟩
    · rw [if_pos h1] at he; exact he.symm
    · rw [if_neg h1] at he
      have hpos := hu.pos
      have hhalf : ((upsL lev m).length - 1) * 2 ^ (lev + 1) ≤ 1000 := by
        have e1 : ((upsL lev m).length - 1) * 2 ≤ m.length - 1 := by omega
        have e2 := Nat.mul_le_mul_right (2 ^ lev) e1
        have e3 := h.half
        rw [Nat.pow_succ, Nat.mul_comm (2 ^ lev) 2, ← Nat.mul_assoc]
        omega
      have hlo := two_pow_le (by omega) hhalf
      have hf2 := hu.few
      refine ⟨⟨hu, hlo, hhalf, ⟨f, by omega, he⟩, by rw [List.length_append]; omega⟩, by omega, by rw [List.length_append]; omega⟩
end Go.Proofs.YtfjlkphpeneahaaDoor
