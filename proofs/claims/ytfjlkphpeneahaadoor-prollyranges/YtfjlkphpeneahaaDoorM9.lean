/- Rising keys, plainly: parts of a map, and the items above them. A walk over parts is a walk over what they hold, plainly. What a heap has, and what the first of a list's texts is, plainly. Without a clash a map's tree yields the map, plainly. -/
import Derived.Test.YtfjlkphpeneahaaDoorDLev
import Derived.Test.YtfjlkphpeneahaaDoorM11
import Derived.Test.YtfjlkphpeneahaaDoorM6
import Derived.Test.YtfjlkphpeneahaaDoorM7
namespace Go.Proofs.YtfjlkphpeneahaaDoor
open Go Go.RowKit

theorem ltL_eq : ∀ a b : Bs, ltL a b = decide (a < b)
  | [], [] => rfl
  | [], _ :: _ => rfl
  | _ :: _, [] => rfl
  | x :: a, y :: b => by
    have ih := ltL_eq a b
    unfold ltL at ih ⊢
    unfold Op.bytesLess
    rw [ih]
    by_cases h1 : x < y
    · simp [h1, List.cons_lt_cons_iff]
    · by_cases h2 : x = y
      · subst h2; simp
      · simp [h1, h2, List.cons_lt_cons_iff]
theorem ltL_trans {a b c : Bs} (h1 : ltL a b = true) (h2 : ltL b c = true) : ltL a c = true := by
  rw [ltL_eq] at h1 h2 ⊢
  exact decide_eq_true (List.lt_trans (of_decide_eq_true h1) (of_decide_eq_true h2))
theorem ltL_irrefl (a : Bs) : ltL a a = false := by
  rw [ltL_eq]
  exact decide_eq_false (List.lt_irrefl a)
/-- The keys rise. -/
def Asc2 (l : List It) : Prop := l.Pairwise fun x y => ltL x.1 y.1 = true
theorem asc_of {l : List It} (h : ∀ i, i + 1 < l.length → ltL (itD l i).1 (itD l (i + 1)).1 = true) : Asc2 l := by
  induction l with
  | nil => exact List.Pairwise.nil
  | cons x l ih =>
    have ht : Asc2 l := ih fun i hi => h (i + 1) (by simpa using hi)
    refine List.Pairwise.cons ?_ ht
    cases l with
    | nil => intro y hy; cases hy
    | cons z l =>
      have h0 : ltL x.1 z.1 = true := h 0 (by simp)
      intro y hy
      rcases List.mem_cons.1 hy with rfl | hy
      · exact h0
      · exact ltL_trans h0 ((List.pairwise_cons.1 ht).1 y hy)
theorem asc_at {l : List It} (h : Asc2 l) {i j : Nat} (hij : i < j) (hj : j < l.length) : ltL (itD l i).1 (itD l j).1 = true := by
  rw [itD_at (by omega), itD_at hj]
  exact List.pairwise_iff_getElem.1 h i j (by omega) hj hij
/-- A map's pairs: none is too long, and the keys rise. -/
theorem mapOk_iff (l : List It) : mapOk l = true ↔ (∀ x ∈ l, x.1.length ≤ 2000 ∧ x.2.length ≤ 8000) ∧ Asc2 l := by
  constructor
  · intro h
    refine ⟨mapOk_len h, asc_of fun i hi => ?_⟩
    have := okN_at h (i + 1) hi
    unfold okAt at this
    rw [Bool.and_eq_true] at this
    simpa using this.2
  · rintro ⟨h1, h2⟩
    refine okN_of fun i hi => ?_
    unfold okAt
    rw [Bool.and_eq_true]
    refine ⟨decide_eq_true (h1 _ (itD_mem hi)), ?_⟩
    by_cases h0 : i = 0
    · subst h0; rfl
    · rw [asc_at h2 (i := i - 1) (j := i) (by omega) hi]
      simp
theorem part_ok {l q : List It} (h : mapOk l = true) (hq : q ∈ partsOf l) : mapOk q = true := by
  rw [mapOk_iff] at h ⊢
  refine ⟨fun x hx => h.1 x (part_mem hq hx), ?_⟩
  have h2 := h.2
  rw [← partsOf_flat l] at h2
  exact (List.pairwise_flatten.1 h2).1 q hq
theorem ups_ok {lev : Nat} {l : List It} (h : mapOk l = true) : mapOk (upsL lev l) = true := by
  rw [mapOk_iff] at h ⊢
  refine ⟨fun x hx => ?_, ?_⟩
  · unfold upsL at hx
    obtain ⟨q, hq, rfl⟩ := List.mem_map.1 hx
    have h1 := partsOf_mem hq
    refine ⟨(h.1 (itD q (q.length - 1)) (part_mem hq (itD_mem (l := q) (i := q.length - 1) (by omega)))).1, ?_⟩
    rw [upI_len]; omega
  · have h2 := h.2
    rw [← partsOf_flat l] at h2
    have h3 := (List.pairwise_flatten.1 h2).2
    unfold Asc2 upsL
    rw [List.pairwise_map]
    refine h3.imp_of_mem ?_
    intro p q hp hq hpq
    have h1 := partsOf_mem hp
    have h4 := partsOf_mem hq
    exact hpq (itD p (p.length - 1)) (itD_mem (l := p) (i := p.length - 1) (by omega)) (itD q (q.length - 1)) (itD_mem (l := q) (i := q.length - 1) (by omega))
end Go.Proofs.YtfjlkphpeneahaaDoor
namespace Go.Proofs.YtfjlkphpeneahaaDoor
open Go Go.RowKit

theorem seqW_cons (f : It → List (List It) × Bool) (x : It) (r : List It) : seqW f (x :: r) = if (f x).2 = true then ((f x).1 ++ (seqW f r).1, (seqW f r).2) else ((f x).1, false) := rfl
theorem seqW_append (f : It → List (List It) × Bool) : ∀ a b : List It, (seqW f a).2 = true → seqW f (a ++ b) = ((seqW f a).1 ++ (seqW f b).1, (seqW f b).2)
  | [], b, _ => by rw [show seqW f [] = ([], true) from rfl]; rfl
  | x :: a, b, h => by
    rw [List.cons_append, seqW_cons, seqW_cons]
    rw [seqW_cons] at h
    by_cases hx : (f x).2 = true
    · rw [if_pos hx] at h ⊢
      rw [if_pos hx, seqW_append f a b h, List.append_assoc]
    · rw [if_neg hx] at h
      cases h
theorem seqW_pre (f : It → List (List It) × Bool) : ∀ a b : List It, (seqW f (a ++ b)).2 = true → (seqW f a).2 = true
  | [], _, _ => rfl
  | x :: a, b, h => by
    rw [List.cons_append, seqW_cons] at h
    rw [seqW_cons]
    by_cases hx : (f x).2 = true
    · rw [if_pos hx] at h ⊢
      exact seqW_pre f a b h
    · rw [if_neg hx] at h
      cases h
theorem seqW_parts (f g : It → List (List It) × Bool) (up : List It → It) : ∀ parts : List (List It), (∀ q ∈ parts, g (up q) = seqW f q) → (seqW f parts.flatten).2 = true → seqW g (parts.map up) = seqW f parts.flatten
  | [], _, _ => rfl
  | q :: parts, h, ht => by
    rw [List.flatten_cons] at ht ⊢
    have h1 := seqW_pre f _ _ ht
    rw [seqW_append f q _ h1] at ht ⊢
    have h2 := seqW_parts f g up parts (fun p hp => h p (List.mem_cons_of_mem _ hp)) ht
    rw [List.map_cons, seqW_cons, h q List.mem_cons_self, if_pos h1, h2]
/-- One node a time. -/
theorem seqW_one (g : It → List (List It) × Bool) (up : List It → It) : ∀ parts : List (List It), (∀ q ∈ parts, g (up q) = ([q], true)) → seqW g (parts.map up) = (parts, true)
  | [], _ => rfl
  | q :: parts, h => by
    rw [List.map_cons, seqW_cons, h q List.mem_cons_self, if_pos rfl, seqW_one g up parts fun p hp => h p (List.mem_cons_of_mem _ hp)]
    rfl
end Go.Proofs.YtfjlkphpeneahaaDoor
namespace Go.Proofs.YtfjlkphpeneahaaDoor
open Go Go.RowKit

/-- The first text of that fingerprint. -/
def getL (xs : List Bs) (p : Bs) : Option Bs := xs.find? fun t => decide (sha t = p)
/-- Two unlike texts of one fingerprint. -/
def ClashL (xs : List Bs) : Prop := ∃ t ∈ xs, ∃ u ∈ xs, sha t = sha u ∧ t ≠ u
theorem putAll_some (p : Bs) : ∀ (xs : List Bs) (l : Tx), D4.Asc l → ∀ t, at_ (putAll l xs) p = some t → (t ∈ xs ∧ sha t = p) ∨ at_ l p = some t
  | [], _, _, _, h => .inr h
  | x :: xs, l, ha, t, h => by
    rcases putAll_some p xs (D4.put (sha x) x l) (D4.put_asc ha) t h with h | h
    · exact .inl ⟨List.mem_cons_of_mem _ h.1, h.2⟩
    · rw [show at_ (D4.put (sha x) x l) p = _ from D4.look_put (sha x) p x l ha] at h
      split at h
      · rename_i e
        injection h with h
        subst h
        exact .inl ⟨List.mem_cons_self, e⟩
      · exact .inr h
theorem putAll_keeps (p : Bs) : ∀ (xs : List Bs) (l : Tx), D4.Asc l → at_ l p ≠ none ∨ (∃ t ∈ xs, sha t = p) → at_ (putAll l xs) p ≠ none
  | [], _, _, h => by
    rcases h with h | ⟨t, ht, _⟩
    · exact h
    · cases ht
  | x :: xs, l, ha, h => by
    refine putAll_keeps p xs (D4.put (sha x) x l) (D4.put_asc ha) ?_
    have hl : at_ (D4.put (sha x) x l) p = if sha x = p then some x else at_ l p := D4.look_put (sha x) p x l ha
    by_cases e : sha x = p
    · left; rw [hl, if_pos e]; exact fun h => by cases h
    · rcases h with h | ⟨t, ht, h2⟩
      · left; rw [hl, if_neg e]; exact h
      · rcases List.mem_cons.1 ht with rfl | ht
        · exact absurd h2 e
        · exact .inr ⟨t, ht, h2⟩
/-- Without a clash a heap has the first text. -/
theorem at_getL {xs : List Bs} (h : ¬ ClashL xs) (p : Bs) : at_ (putAll [] xs) p = getL xs p := by
  have ha : D4.Asc ([] : Tx) := List.Pairwise.nil
  cases hg : getL xs p with
  | none =>
    cases hp : at_ (putAll [] xs) p with
    | none => rfl
    | some t =>
      rcases putAll_some p xs [] ha t hp with ⟨h1, h2⟩ | h1
      · have := List.find?_eq_none.1 hg t h1
        simp [h2] at this
      · cases h1
  | some u =>
    have hu1 : u ∈ xs := List.mem_of_find?_eq_some hg
    have hu2 : sha u = p := by
      have := List.find?_some hg
      exact of_decide_eq_true this
    cases hp : at_ (putAll [] xs) p with
    | none => exact absurd hp (putAll_keeps p xs [] ha (.inr ⟨u, hu1, hu2⟩))
    | some t =>
      rcases putAll_some p xs [] ha t hp with ⟨h1, h2⟩ | h1
      · by_cases e : t = u
        · rw [e]
        · exact absurd ⟨t, h1, u, hu1, h2.trans hu2.symm, e⟩ h
      · cases h1
/-- Without a clash each text is found by its fingerprint. -/
theorem at_mem {xs : List Bs} (h : ¬ ClashL xs) {t : Bs} (ht : t ∈ xs) : at_ (putAll [] xs) (sha t) = some t := by
  have ha : D4.Asc ([] : Tx) := List.Pairwise.nil
  cases hp : at_ (putAll [] xs) (sha t) with
  | none => exact absurd hp (putAll_keeps (sha t) xs [] ha (.inr ⟨t, ht, rfl⟩))
  | some u =>
    rcases putAll_some (sha t) xs [] ha u hp with ⟨h1, h2⟩ | h1
    · by_cases e : u = t
      · rw [e]
      · exact absurd ⟨u, h1, t, ht, h2, e⟩ h
    · cases h1
end Go.Proofs.YtfjlkphpeneahaaDoor
namespace Go.Proofs.YtfjlkphpeneahaaDoor
open Go Go.RowKit

theorem prn_up (lev : Nat) (q : List It) : prn (upI lev q) = sha (nodeL lev q) := by
  unfold prn upI
  rw [List.take_append_of_le_length (Nat.le_of_eq (sha_len _).symm), List.take_of_length_le (Nat.le_of_eq (sha_len _))]
theorem part_ne {l q : List It} (hq : q ∈ partsOf l) : q ≠ [] := fun e => by
  have := partsOf_mem hq
  rw [e] at this; simp at this
section
variable {lev : Nat} {m q : List It} {lx : Tx}
theorem node_right (h : LvS lev m) (hm : mapOk m = true) (hq : q ∈ partsOf m) : rightL lev q = true := by
  unfold rightL
  rw [part_ok hm hq, Bool.true_and]
  by_cases h0 : lev = 0
  · subst h0; rfl
  · rw [show (lev == 0) = false by simpa using h0, Bool.false_or, decide_eq_true (part_ne hq), Bool.true_and]
    exact List.all_eq_true.2 fun x hx => h.told h0 x (part_mem hq hx)
theorem node_found (hv : lev ≤ 32) (h : LvS lev m) (hm : mapOk m = true) (hq : q ∈ partsOf m) (hf : at_ lx (sha (nodeL lev q)) = some (nodeL lev q)) : rootP lx (prn (upI lev q)) = some (lev, q) := by
  unfold rootP
  rw [prn_up, hf, Option.bind_some]
  exact parse_node hv (partsOf_mem hq).2 (node_right h hm hq)
theorem below_found (hv : lev ≤ 32) (h : LvS lev m) (hm : mapOk m = true) (hq : q ∈ partsOf m) (hf : at_ lx (sha (nodeL lev q)) = some (nodeL lev q)) : belowP lx (lev + 1) (upI lev q) = some q := by
  have hs : standsB (lev + 1) (upI lev q) lev q = true := by
    unfold standsB
    have h1 : totB lev q = cntB (upI lev q) := by
      unfold cntB
      rw [if_pos (told_up h hq), cnt_up h hq]
      exact (h.node hq).2.1
    rw [decide_eq_true rfl, decide_eq_true (part_ne hq), decide_eq_true (show lastK q = (upI lev q).1 from rfl), decide_eq_true h1]
    rfl
  unfold belowP
  rw [node_found hv h hm hq hf, Option.bind_some]
  dsimp only
  rw [if_pos hs]
end
/-- The walk over the items of a level. -/
def lvW (lx : Tx) (lev : Nat) (m : List It) : List (List It) × Bool := seqW (fun x => match belowP lx lev x with | some q => walkG lx [] (lev - 1) q | none => ([], false)) m
theorem ltL_nil : ∀ a : Bs, ltL a [] = false
  | [] => rfl
  | _ :: _ => rfl
theorem fromL_nil (m : List It) : fromL [] m = m := by
  cases m with
  | nil => rfl
  | cons x m => rw [fromL_cons, if_neg (by rw [ltL_nil]; simp)]
theorem walk_lv (lx : Tx) (lev : Nat) (q : List It) : walkG lx [] (lev + 1) q = lvW lx (lev + 1) q := by
  unfold walkG lvW
  rw [fromL_nil]
  rfl
/-- What the levels of a tree yield. -/
def Yields (lx : Tx) (l : List It) (lev : Nat) (m : List It) : Prop := (lev = 0 ∧ m = l) ∨ (1 ≤ lev ∧ ∃ ps, lvW lx lev m = (ps, true) ∧ ps.flatten = l)
theorem Yields.up {lx : Tx} {l : List It} {lev : Nat} {m : List It} (hy : Yields lx l lev m) (hv : lev ≤ 32) (h : LvS lev m) (hm : mapOk m = true) (hf : ∀ q ∈ partsOf m, at_ lx (sha (nodeL lev q)) = some (nodeL lev q)) : Yields lx l (lev + 1) (upsL lev m) := by
  refine .inr ⟨by omega, ?_⟩
  rcases hy with ⟨rfl, rfl⟩ | ⟨h1, ps, h2, h3⟩
  · refine ⟨partsOf m, ?_, partsOf_flat m⟩
    unfold lvW upsL
    refine seqW_one _ (upI 0) _ fun q hq => ?_
    rw [below_found hv h hm hq (hf q hq)]
    rfl
  · obtain ⟨k, rfl⟩ : ∃ k, lev = k + 1 := ⟨lev - 1, by omega⟩
    refine ⟨ps, ?_, h3⟩
    have hpf := partsOf_flat m
    have e : lvW lx (k + 1 + 1) (upsL (k + 1) m) = lvW lx (k + 1) (partsOf m).flatten := by
      unfold lvW upsL
      refine seqW_parts _ _ (upI (k + 1)) _ (fun q hq => ?_) ?_
      · rw [below_found hv h hm hq (hf q hq)]
        exact walk_lv lx k q
      · rw [hpf]
        show (lvW lx (k + 1) m).2 = true
        rw [h2]
    rw [e, hpf, h2]
theorem tree_acc : ∀ (f lev : Nat) (m : List It) (acc : List Bs), ∀ t ∈ acc, t ∈ (treeG f lev m acc).2
  | 0, _, _, _, _, h => h
  | f + 1, lev, m, acc, t, h => by
    unfold treeG
    split
    · exact List.mem_append_left _ h
    · exact tree_acc f (lev + 1) (upsL lev m) _ t (List.mem_append_left _ h)
/-- The root of a map's tree yields the map. -/
theorem tree_yields (lx : Tx) (l : List It) : ∀ (f lev : Nat) (m : List It) (acc : List Bs), m.length ≤ f → lev ≤ 9 → (m.length - 1) * 2 ^ lev ≤ 1000 → LvS lev m → mapOk m = true → Yields lx l lev m →
    (∀ t ∈ (treeG f lev m acc).2, at_ lx (sha t) = some t) → ∃ k q, rootP lx (treeG f lev m acc).1 = some (k, q) ∧ LvS k q ∧ mapOk q = true ∧ Yields lx l k q := by
  intro f
  induction f with
  | zero => intro lev m acc hf _ _ h; have := h.pos; omega
  | succ f ih =>
    intro lev m acc hf hv hh h hm hy hn
    have hp := h.pos
    unfold treeG at hn ⊢
    by_cases h1 : (upsL lev m).length = 1
    · rw [if_pos h1] at hn ⊢
      have hl1 : (partsOf m).length = 1 := by rw [← upsL_len lev m]; exact h1
      have hpf := partsOf_flat m
      obtain ⟨q, hq⟩ : ∃ q, partsOf m = [q] := List.length_eq_one_iff.1 hl1
      rw [hq] at hpf
      have e : q = m := by simpa using hpf
      subst e
      have hmem : q ∈ partsOf q := by rw [hq]; simp
      have hfd := hn (nodeL lev q) (List.mem_append_right _ (by unfold levelL; exact List.mem_map.2 ⟨q, hmem, rfl⟩))
      refine ⟨lev, q, ?_, h, hm, hy⟩
      have hu : itD (upsL lev q) 0 = upI lev q := by unfold upsL; rw [hq]; rfl
      show rootP lx (prn (itD (upsL lev q) 0)) = _
      rw [hu]
      exact node_found (by omega) h hm hmem hfd
    · rw [if_neg h1] at hn ⊢
      have hu := h.up
      have huh := ups_half lev m
      have hpos := hu.pos
      have hhalf : ((upsL lev m).length - 1) * 2 ^ (lev + 1) ≤ 1000 := by
        have e1 : ((upsL lev m).length - 1) * 2 ≤ m.length - 1 := by omega
        have e2 := Nat.mul_le_mul_right (2 ^ lev) e1
        rw [Nat.pow_succ, Nat.mul_comm (2 ^ lev) 2, ← Nat.mul_assoc]
        omega
      have hlo := two_pow_le (by omega) hhalf
      refine ih (lev + 1) (upsL lev m) _ (by omega) hlo hhalf hu (ups_ok hm) (hy.up (by omega) h hm fun q hq => ?_) hn
      exact hn _ (tree_acc f (lev + 1) _ _ _ (List.mem_append_right _ (by unfold levelL; exact List.mem_map.2 ⟨q, hq, rfl⟩)))
theorem yields_leaves {lx : Tx} {l : List It} {k : Nat} {q : List It} {r : Bs} (hr : rootP lx r = some (k, q)) (hy : Yields lx l k q) : (leavesP lx r []).flatten = l := by
  unfold leavesP
  rw [hr]
  dsimp only
  rcases hy with ⟨rfl, rfl⟩ | ⟨h1, ps, h2, h3⟩
  · show ([q] : List (List It)).flatten = q
    simp
  · obtain ⟨k, rfl⟩ : ∃ j, k = j + 1 := ⟨k - 1, by omega⟩
    rw [walk_lv, h2]
    exact h3
/-- A map's tree in a heap, where no two unlike nodes have one fingerprint, yields the map. -/
theorem build_yields {l : List It} (hm : mapOk l = true) (hl : l.length ≤ 1000) (hs : szL l ≤ 40000) (hc : ¬ ClashL (buildL l).2) : (leavesP (putAll [] (buildL l).2) (buildL l).1 []).flatten = l := by
  have hf : ∀ t ∈ (buildL l).2, at_ (putAll [] (buildL l).2) (sha t) = some t := fun t ht => at_mem hc ht
  unfold buildL at hf ⊢
  rw [if_pos hm] at hf ⊢
  by_cases h0 : l = []
  · subst h0
    have e : treeL [] = (sha (nodeL 0 []), [nodeL 0 []]) := rfl
    rw [e] at hf ⊢
    have h1 := hf (nodeL 0 []) (by simp)
    refine yields_leaves (k := 0) (q := []) ?_ (.inl ⟨rfl, rfl⟩)
    unfold rootP
    dsimp only at h1 ⊢
    rw [h1, Option.bind_some]
    exact parse_node (by omega) (by simp) rfl
  · unfold treeL at hf ⊢
    rw [if_neg h0] at hf ⊢
    have hpos := List.length_pos_iff.2 h0
    obtain ⟨k, q, h1, _, _, h2⟩ := tree_yields _ l l.length 0 l [] (Nat.le_refl _) (by omega) (by rw [Nat.pow_zero]; omega) (LvS.base hl hpos hm hs) hm (.inl ⟨rfl, rfl⟩) hf
    exact yields_leaves h1 h2
end Go.Proofs.YtfjlkphpeneahaaDoor
