/- How many pairs a run over a heap of a map's nodes tells at most, whatever the heap answers, plainly. -/
import Derived.Test.YtfjlkphpeneahaaDoorM10
namespace Go.Proofs.YtfjlkphpeneahaaDoor
open Go Go.RowKit

theorem seqW_len (F : It → List (List It) × Bool) (hF : ∀ x, (F x).1.flatten.length ≤ cntB x) : ∀ l : List It, (seqW F l).1.flatten.length ≤ (l.map cntB).sum
  | [] => Nat.le_refl _
  | x :: l => by
    have ih := seqW_len F hF l
    have h1 := hF x
    rw [seqW_cons, List.map_cons, List.sum_cons]
    split
    · show ((F x).1 ++ (seqW F l).1).flatten.length ≤ _
      rw [List.flatten_append, List.length_append]; omega
    · show (F x).1.flatten.length ≤ _
      omega
theorem sum_from (key : Bs) : ∀ m : List It, ((fromL key m).map cntB).sum ≤ (m.map cntB).sum
  | [] => Nat.le_refl _
  | x :: m => by
    have ih := sum_from key m
    rw [fromL_cons]
    split
    · rw [List.map_cons, List.sum_cons]; omega
    · exact Nat.le_refl _
theorem walk_len (lx : Tx) (key : Bs) : ∀ (lev : Nat) (m : List It), (walkG lx key lev m).1.flatten.length ≤ totB lev m
  | 0, m => by
    show ([m] : List (List It)).flatten.length ≤ totB 0 m
    unfold totB
    simp
  | lev + 1, m => by
    have h1 := seqW_len (fun x => match belowP lx (lev + 1) x with | some q => walkG lx key lev q | none => ([], false)) (fun x => by
      cases hb : belowP lx (lev + 1) x with
      | none => exact Nat.zero_le _
      | some q =>
        have h2 := (belowP_some hb).2.2.2.2.2.1
        have h3 := walk_len lx key lev q
        rw [Nat.add_sub_cancel] at h2
        show (walkG lx key lev q).1.flatten.length ≤ cntB x
        omega) (fromL key m)
    have h2 := sum_from key m
    have h3 : totB (lev + 1) m = (m.map cntB).sum := by unfold totB; rw [if_neg (by omega)]
    rw [h3]
    exact Nat.le_trans h1 h2
theorem tree_tots : ∀ (f lev : Nat) (m : List It) (acc : List Bs), m.length ≤ f → lev ≤ 9 → (m.length - 1) * 2 ^ lev ≤ 1000 → LvS lev m → mapOk m = true → (∀ t ∈ acc, ∀ k q, parseL t = some (k, q) → totB k q ≤ 1000) → ∀ t ∈ (treeG f lev m acc).2, ∀ k q, parseL t = some (k, q) → totB k q ≤ 1000 := by
  intro f
  induction f with
  | zero => intro lev m acc hf _ _ h; have := h.pos; omega
  | succ f ih =>
    intro lev m acc hf hv hh h hm ha
    have hp := h.pos
    have hlv : ∀ t ∈ acc ++ levelL lev m, ∀ k q, parseL t = some (k, q) → totB k q ≤ 1000 := fun t ht k q hpq => by
      rcases List.mem_append.1 ht with ht | ht
      · exact ha t ht k q hpq
      · unfold levelL at ht
        obtain ⟨p, hpp, rfl⟩ := List.mem_map.1 ht
        rw [parse_node (by omega) (partsOf_mem hpp).2 (node_right h hm hpp)] at hpq
        injection hpq with hpq
        injection hpq with e1 e2
        subst e1 e2
        rw [(h.node hpp).2.1]
        exact Nat.le_trans (tot_part hpp) h.tot
    unfold treeG
    by_cases h1 : (upsL lev m).length = 1
    · rw [if_pos h1]
      exact hlv
    · rw [if_neg h1]
      have hu := h.up
      have huh := ups_half lev m
      have hpos := hu.pos
      have hhalf : ((upsL lev m).length - 1) * 2 ^ (lev + 1) ≤ 1000 := by
        have e1 : ((upsL lev m).length - 1) * 2 ≤ m.length - 1 := by omega
        have e2 := Nat.mul_le_mul_right (2 ^ lev) e1
        rw [Nat.pow_succ, Nat.mul_comm (2 ^ lev) 2, ← Nat.mul_assoc]
        omega
      exact ih (lev + 1) (upsL lev m) _ (by omega) (two_pow_le (by omega) hhalf) hhalf hu (ups_ok hm) hlv
theorem build_tots {m : List It} (hm : mapOk m = true) (hl : m.length ≤ 1000) (hs : szL m ≤ 40000) : ∀ t ∈ (buildL m).2, ∀ k q, parseL t = some (k, q) → totB k q ≤ 1000 := by
  unfold buildL
  rw [if_pos hm]
  by_cases h0 : m = []
  · subst h0
    have e : treeL [] = (sha (nodeL 0 []), [nodeL 0 []]) := rfl
    rw [e]
    intro t ht k q hp
    rw [List.mem_singleton.1 ht, parse_node (by omega) (by simp) rfl] at hp
    injection hp with hp
    injection hp with e1 e2
    subst e1 e2
    exact Nat.zero_le _
  · unfold treeL
    rw [if_neg h0]
    have hpos := List.length_pos_iff.2 h0
    exact tree_tots m.length 0 m [] (Nat.le_refl _) (by omega) (by rw [Nat.pow_zero]; omega) (LvS.base hl hpos hm hs) hm (fun t ht => by cases ht)
theorem leaves_len {xs : List Bs} (h : ∀ t ∈ xs, ∀ k q, parseL t = some (k, q) → totB k q ≤ 1000) (root key : Bs) : (leavesP (putAll [] xs) root key).flatten.length ≤ 1000 := by
  unfold leavesP
  cases hr : rootP (putAll [] xs) root with
  | none => exact Nat.zero_le _
  | some p =>
    obtain ⟨k, m⟩ := p
    dsimp only
    refine Nat.le_trans (walk_len _ key k m) ?_
    unfold rootP at hr
    cases ha : at_ (putAll [] xs) root with
    | none => rw [ha] at hr; cases hr
    | some t =>
      rw [ha, Option.bind_some] at hr
      rcases putAll_some root xs [] List.Pairwise.nil t ha with ⟨h1, _⟩ | h1
      · exact h t h1 k m hr
      · cases h1
theorem putAll_in : ∀ (xs : List Bs) (l : Tx) (q : Bs × Bs), q ∈ putAll l xs → q ∈ l ∨ q.2 ∈ xs
  | [], _, _, h => .inl h
  | x :: xs, l, q, h => by
    rcases putAll_in xs (D4.put (sha x) x l) q h with h | h
    · rcases D4.mem_put h with rfl | h
      · exact .inr List.mem_cons_self
      · exact .inl h
    · exact .inr (List.mem_cons_of_mem _ h)
theorem small_put {xs : List Bs} (h : ∀ t ∈ xs, t.length ≤ 100000) : Small (putAll [] xs) := fun q hq => by
  rcases putAll_in xs [] q hq with h1 | h1
  · cases h1
  · exact h _ h1
theorem ltL_snoc (c : UInt8) : ∀ k : Bs, ltL k (k ++ [c]) = true
  | [] => rfl
  | x :: k => by
    have ih := ltL_snoc c k
    rw [ltL_eq] at ih ⊢
    refine decide_eq_true ?_
    rw [List.cons_append, List.cons_lt_cons_iff]
    exact .inr ⟨rfl, of_decide_eq_true ih⟩
def maxL (a b : Bs) : Bs := if ltL b a = true ∨ a = b then a else b
def minL (a b : Bs) : Bs := if ltL a b = true ∨ a = b then a else b
theorem min_max (a b : Bs) : ltL (maxL a b) (minL a b) = false := by
  unfold maxL minL
  by_cases e : a = b
  · subst e
    rw [if_pos (Or.inr rfl)]; exact ltL_irrefl a
  · by_cases h1 : ltL a b = true
    · have h2 : ¬ ltL b a = true := fun h2 => by have := ltL_trans h1 h2; rw [ltL_irrefl] at this; cases this
      rw [if_neg (fun h => h.elim h2 e), if_pos (.inl h1)]
      exact Bool.eq_false_iff.2 h2
    · rw [if_neg (c := ltL a b = true ∨ a = b) (fun h => h.elim h1 e)]
      by_cases h2 : ltL b a = true
      · rw [if_pos (.inl h2)]; exact Bool.eq_false_iff.2 h1
      · rw [if_neg (fun h => h.elim h2 e)]; exact ltL_irrefl b
theorem max_left {x a b : Bs} (h : ltL x a = true) : ltL x (maxL a b) = true := by
  unfold maxL
  by_cases h1 : ltL b a = true ∨ a = b
  · rw [if_pos h1]; exact h
  · rw [if_neg h1]
    exact ltL_trans h (ltL_tot (fun h2 => h1 (.inl h2)) fun e => h1 (.inr e.symm))
/-- Above all keys of a map. -/
def topL (l : List It) : Bs := if l = [] then [] else (itD l (l.length - 1)).1 ++ [0]
theorem top_all {l : List It} (h : Asc2 l) (b : Bs) : ∀ x ∈ l, ltL x.1 (maxL (topL l) b) = true := fun x hx => by
  refine max_left ?_
  obtain ⟨i, hi, rfl⟩ := List.getElem_of_mem hx
  have hne : l ≠ [] := fun e => by rw [e] at hi; simp at hi
  unfold topL
  rw [if_neg hne, ← itD_at hi]
  by_cases e : i = l.length - 1
  · rw [e]; exact ltL_snoc 0 _
  · exact ltL_trans (asc_at h (i := i) (j := l.length - 1) (by omega) (by omega)) (ltL_snoc 0 _)
end Go.Proofs.YtfjlkphpeneahaaDoor
