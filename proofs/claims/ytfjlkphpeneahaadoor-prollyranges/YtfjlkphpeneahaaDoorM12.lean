/- Fingerprints, and which items end a part. Where lists are cut, plainly. Maps as trees of nodes, plainly: their bytes, how lists of items become levels, and a tree. -/
import Derived.Test.YtfjlkphpeneahaaDoorAWalkR
import Derived.Test.YtfjlkphpeneahaaDoorRows
namespace Go.Proofs.YtfjlkphpeneahaaDoor
open Go Go.RowKit
abbrev sha : List UInt8 → List UInt8 := S1.shaL
theorem sha_len (x : List UInt8) : (sha x).length = 32 := rfl
/-- Does an item end a part? -/
def E (x : List UInt8) : Bool := decide (((sha x).getD 0 0).toNat < 64)
end Go.Proofs.YtfjlkphpeneahaaDoor
namespace Go.Proofs.YtfjlkphpeneahaaDoor
/-- The parts of a list, behind n items of the part that is open. -/
def cutG (E : List UInt8 → Bool) : Nat → List (List UInt8) → List Nat
  | n, [] => if n = 0 then [] else [n]
  | n, x :: xs => if 16 ≤ n + 1 ∨ (2 ≤ n + 1 ∧ E x = true) then (n + 1) :: cutG E 0 xs else cutG E (n + 1) xs
theorem cutG_cons (E : List UInt8 → Bool) (n : Nat) (x : List UInt8) (xs : List (List UInt8)) : cutG E n (x :: xs) = if 16 ≤ n + 1 ∨ (2 ≤ n + 1 ∧ E x = true) then (n + 1) :: cutG E 0 xs else cutG E (n + 1) xs := rfl
theorem cutG_nil (E : List UInt8 → Bool) (n : Nat) : cutG E n [] = if n = 0 then [] else [n] := rfl
theorem cutG_sum (E : List UInt8 → Bool) : ∀ (xs : List (List UInt8)) (n : Nat), (cutG E n xs).sum = n + xs.length
  | [], n => by
    unfold cutG
    split
    · rename_i h; simp [h]
    · simp
  | x :: xs, n => by
    unfold cutG
    split
    · rw [List.sum_cons, cutG_sum E xs 0, List.length_cons]; omega
    · rw [cutG_sum E xs (n + 1), List.length_cons]; omega
theorem cutG_mem (E : List UInt8 → Bool) : ∀ (xs : List (List UInt8)) (n : Nat), n ≤ 15 → ∀ k ∈ cutG E n xs, 1 ≤ k ∧ k ≤ 16
  | [], n, h, k, hk => by
    unfold cutG at hk
    split at hk
    · cases hk
    · rw [List.mem_singleton.1 hk]; omega
  | x :: xs, n, h, k, hk => by
    unfold cutG at hk
    split at hk
    · rcases List.mem_cons.1 hk with e | hk
      · omega
      · exact cutG_mem E xs 0 (by omega) k hk
    · rename_i hn
      exact cutG_mem E xs (n + 1) (by omega) k hk
theorem cutG_two (E : List UInt8 → Bool) : ∀ (xs : List (List UInt8)) (n i : Nat), i + 1 < (cutG E n xs).length → 2 ≤ (cutG E n xs).getD i 0
  | [], n, i, h => by
    unfold cutG at h
    split at h <;> simp at h
  | x :: xs, n, i, h => by
    unfold cutG at h ⊢
    split
    · rename_i hc
      rw [if_pos hc, List.length_cons] at h
      cases i with
      | zero => show 2 ≤ n + 1; omega
      | succ i => exact cutG_two E xs 0 i (by omega)
    · rename_i hc
      rw [if_neg hc] at h
      exact cutG_two E xs (n + 1) i h
/-- Behind the first part the rest is cut as a list of its own. -/
theorem cutG_rest (E : List UInt8 → Bool) : ∀ (xs : List (List UInt8)) (n : Nat), cutG E n xs ≠ [] → ∃ p l, cutG E n xs = p :: l ∧ n ≤ p ∧ p - n ≤ xs.length ∧ cutG E 0 (xs.drop (p - n)) = l
  | [], n, h => by
    rw [cutG_nil] at h ⊢
    by_cases e : n = 0
    · rw [if_pos e] at h; exact absurd rfl h
    · rw [if_neg e]
      exact ⟨n, [], rfl, Nat.le_refl _, by omega, by simp [cutG]⟩
  | x :: xs, n, h => by
    rw [cutG_cons] at h ⊢
    by_cases hc : 16 ≤ n + 1 ∨ (2 ≤ n + 1 ∧ E x = true)
    · rw [if_pos hc]
      refine ⟨n + 1, _, rfl, by omega, by rw [List.length_cons]; omega, ?_⟩
      rw [show n + 1 - n = 1 by omega]; rfl
    · rw [if_neg hc] at h ⊢
      obtain ⟨p, l, e, h1, h2, h3⟩ := cutG_rest E xs (n + 1) h
      refine ⟨p, l, e, by omega, by rw [List.length_cons]; omega, ?_⟩
      rw [show p - n = (p - (n + 1)) + 1 by omega]
      exact h3
theorem cutG_pos (E : List UInt8 → Bool) (xs : List (List UInt8)) (n : Nat) (hn : 0 < n) : cutG E n xs ≠ [] := by
  intro e
  have := cutG_sum E xs n
  rw [e] at this
  simp at this
  omega
/-- What stands behind a list changes none of its parts but the last one. -/
theorem cutG_behind (E : List UInt8 → Bool) (ys : List (List UInt8)) : ∀ (xs : List (List UInt8)) (n k : Nat), (cutG E n xs).length = k + 1 →
    k < (cutG E n (xs ++ ys)).length ∧ (cutG E n (xs ++ ys)).take k = (cutG E n xs).take k ∧ (cutG E n xs).getD k 0 ≤ (cutG E n (xs ++ ys)).getD k 0
  | [], n, k, h => by
    rw [List.nil_append]
    have e0 : cutG E n [] = if n = 0 then [] else [n] := rfl
    rw [e0] at h ⊢
    by_cases e : n = 0
    · rw [if_pos e] at h; cases h
    · rw [if_neg e] at h ⊢
      have hk : k = 0 := by simpa using h.symm
      subst hk
      obtain ⟨p, l, e1, h1, _⟩ := cutG_rest E ys n (cutG_pos E ys n (by omega))
      rw [e1]
      exact ⟨by simp, by simp, h1⟩
  | x :: xs, n, k, h => by
    rw [List.cons_append]
    unfold cutG at h ⊢
    by_cases hc : 16 ≤ n + 1 ∨ (2 ≤ n + 1 ∧ E x = true)
    · rw [if_pos hc] at h ⊢
      rw [if_pos hc]
      rw [List.length_cons] at h
      cases k with
      | zero => exact ⟨by simp, by simp, Nat.le_refl _⟩
      | succ k =>
        obtain ⟨h1, h2, h3⟩ := cutG_behind E ys xs 0 k (by omega)
        exact ⟨by rw [List.length_cons]; omega, by rw [List.take_succ_cons, List.take_succ_cons, h2], h3⟩
    · rw [if_neg hc] at h ⊢
      rw [if_neg hc]
      exact cutG_behind E ys xs (n + 1) k h
theorem cutG_len (E : List UInt8 → Bool) : ∀ (xs : List (List UInt8)) (n : Nat), (cutG E n xs).length ≤ xs.length + 1
  | [], n => by unfold cutG; split <;> simp
  | x :: xs, n => by
    unfold cutG
    split
    · have := cutG_len E xs 0; simp only [List.length_cons]; omega
    · have := cutG_len E xs (n + 1); simp only [List.length_cons]; omega
end Go.Proofs.YtfjlkphpeneahaaDoor
namespace Go.Proofs.YtfjlkphpeneahaaDoor
open Go Go.RowKit

abbrev Bs := List UInt8
/-- A key and its value. -/
abbrev It := Bs × Bs
def be2 (n : Nat) : Bs := [UInt8.ofNat (n / 256), UInt8.ofNat (n % 256)]
/-- An item's bytes. -/
def itemL (x : It) : Bs := be2 x.1.length ++ (x.1 ++ (be2 x.2.length ++ x.2))
/-- A node's bytes. -/
def nodeL (lev : Nat) (l : List It) : Bs := 80 :: UInt8.ofNat lev :: UInt8.ofNat l.length :: l.flatMap itemL
def be8 (n : Nat) : Bs := [UInt8.ofNat (n / 72057594037927936), UInt8.ofNat (n / 281474976710656), UInt8.ofNat (n / 1099511627776), UInt8.ofNat (n / 4294967296), UInt8.ofNat (n / 16777216), UInt8.ofNat (n / 65536), UInt8.ofNat (n / 256), UInt8.ofNat n]
/-- What bytes tell, the highest first. -/
def num (l : Bs) : Nat := l.foldl (fun n b => n * 256 + b.toNat) 0
/-- What an item above level 0 tells: a fingerprint, and a count. -/
def prn (x : It) : Bs := x.2.take 32
def cnt (x : It) : Nat := num (x.2.drop 32)
/-- A node's count. -/
def totL (lev : Nat) (l : List It) : Nat := if lev = 0 then l.length else (l.map cnt).sum
/-- A text below another one. -/
def ltL (a b : Bs) : Bool := Op.bytesLess a b
def itD (l : List It) (i : Nat) : It := l.getD i ([], [])
/-- May the i-th item be one of a map, behind those ahead? -/
def okAt (l : List It) (i : Nat) : Bool := decide ((itD l i).1.length ≤ 2000 ∧ (itD l i).2.length ≤ 8000) && (i == 0 || ltL (itD l (i - 1)).1 (itD l i).1)
def okN (l : List It) : Nat → Bool
  | 0 => true
  | n + 1 => okN l n && okAt l n
/-- A map's pairs. -/
def mapOk (l : List It) : Bool := okN l l.length
/-- May it be an item above level 0? -/
def toldOk (x : It) : Bool := decide (x.2.length = 40 ∧ 1 ≤ cnt x ∧ cnt x ≤ 1099511627776)
/-- The items of a right node of that level. -/
def rightL (lev : Nat) (l : List It) : Bool := mapOk l && (lev == 0 || (decide (l ≠ []) && l.all toldOk))
/-- The text that stands first, and what is behind it. -/
def rdText : Bs → Option (Bs × Bs)
  | a :: b :: r => if a.toNat * 256 + b.toNat ≤ r.length then some (r.take (a.toNat * 256 + b.toNat), r.drop (a.toNat * 256 + b.toNat)) else none
  | _ => none
def rdItem (s : Bs) : Option (It × Bs) := (rdText s).bind fun p => (rdText p.2).map fun q => ((p.1, q.1), q.2)
def rdItems : Nat → Bs → Option (List It × Bs)
  | 0, s => some ([], s)
  | n + 1, s => (rdItem s).bind fun p => (rdItems n p.2).map fun q => (p.1 :: q.1, q.2)
/-- Level and items of a right node's bytes. -/
def parseL : Bs → Option (Nat × List It)
  | a :: b :: c :: r => if a = 80 ∧ b.toNat ≤ 32 ∧ c.toNat ≤ 16 then (rdItems c.toNat r).bind fun p => if p.2 = [] ∧ rightL b.toNat p.1 = true then some (b.toNat, p.1) else none else none
  | _ => none

theorem u8_small {n : Nat} (h : n < 256) : (UInt8.ofNat n).toNat = n := by
  rw [UInt8.toNat_ofNat']; exact Nat.mod_eq_of_lt h
theorem be2_len (n : Nat) : (be2 n).length = 2 := rfl
theorem be8_len (n : Nat) : (be8 n).length = 8 := rfl
theorem rdText_be (t r : Bs) (h : t.length ≤ 60000) : rdText (be2 t.length ++ (t ++ r)) = some (t, r) := by
  have e : (UInt8.ofNat (t.length / 256)).toNat * 256 + (UInt8.ofNat (t.length % 256)).toNat = t.length := by
    rw [u8_small (by omega), u8_small (by omega)]; omega
  show rdText (UInt8.ofNat (t.length / 256) :: UInt8.ofNat (t.length % 256) :: (t ++ r)) = _
  unfold rdText
  dsimp only
  rw [e, if_pos (by simp)]
  simp
theorem rdItem_be (x : It) (r : Bs) (h : x.1.length ≤ 60000 ∧ x.2.length ≤ 60000) : rdItem (itemL x ++ r) = some (x, r) := by
  unfold rdItem itemL
  rw [List.append_assoc, List.append_assoc, rdText_be _ _ h.1, Option.bind_some]
  show Option.map _ (rdText (be2 x.2.length ++ x.2 ++ r)) = _
  rw [List.append_assoc, rdText_be _ _ h.2]
  rfl
theorem rdItems_be (r : Bs) : ∀ l : List It, (∀ x ∈ l, x.1.length ≤ 60000 ∧ x.2.length ≤ 60000) → rdItems l.length (l.flatMap itemL ++ r) = some (l, r)
  | [], _ => rfl
  | x :: l, h => by
    rw [List.length_cons, List.flatMap_cons, List.append_assoc]
    unfold rdItems
    rw [rdItem_be x _ (h x (by simp)), Option.bind_some, rdItems_be r l fun y hy => h y (by simp [hy])]
    rfl
theorem okN_at {l : List It} : ∀ {n : Nat}, okN l n = true → ∀ i, i < n → okAt l i = true
  | 0, _, i, hi => absurd hi (by omega)
  | n + 1, h, i, hi => by
    unfold okN at h
    rw [Bool.and_eq_true] at h
    by_cases e : i = n
    · rw [e]; exact h.2
    · exact okN_at h.1 i (by omega)
theorem okN_of {l : List It} : ∀ {n : Nat}, (∀ i, i < n → okAt l i = true) → okN l n = true
  | 0, _ => rfl
  | n + 1, h => by
    unfold okN
    rw [Bool.and_eq_true]
    exact ⟨okN_of fun i hi => h i (by omega), h n (by omega)⟩
theorem okN_false {l : List It} {n m : Nat} (h : okAt l n = false) (hm : n < m) : okN l m = false := by
  cases e : okN l m with
  | false => rfl
  | true => rw [okN_at e n hm] at h; cases h
theorem itD_mem {l : List It} {i : Nat} (h : i < l.length) : itD l i ∈ l := by
  unfold itD
  rw [List.getD_eq_getElem?_getD, List.getElem?_eq_getElem h]
  exact List.getElem_mem h
theorem itD_at {l : List It} {i : Nat} (h : i < l.length) : itD l i = l[i] := by
  unfold itD
  rw [List.getD_eq_getElem?_getD, List.getElem?_eq_getElem h]
  rfl
theorem okAt_len {l : List It} {i : Nat} (h : okAt l i = true) : (itD l i).1.length ≤ 2000 ∧ (itD l i).2.length ≤ 8000 := by
  unfold okAt at h
  rw [Bool.and_eq_true] at h
  exact of_decide_eq_true h.1
theorem mapOk_len {l : List It} (h : mapOk l = true) : ∀ x ∈ l, x.1.length ≤ 2000 ∧ x.2.length ≤ 8000 := by
  intro x hx
  obtain ⟨i, hi, rfl⟩ := List.getElem_of_mem hx
  have := okAt_len (okN_at h i hi)
  rwa [itD_at hi] at this
theorem parse_node {lev : Nat} {l : List It} (hv : lev ≤ 32) (hl : l.length ≤ 16) (hr : rightL lev l = true) : parseL (nodeL lev l) = some (lev, l) := by
  unfold nodeL parseL
  have h1 : (UInt8.ofNat lev).toNat = lev := u8_small (by omega)
  have h2 : (UInt8.ofNat l.length).toNat = l.length := u8_small (by omega)
  dsimp only
  rw [h1, h2, if_pos ⟨rfl, hv, hl⟩]
  have hm : mapOk l = true := by unfold rightL at hr; rw [Bool.and_eq_true] at hr; exact hr.1
  have h3 := rdItems_be [] l fun x hx => by have := mapOk_len hm x hx; omega
  rw [List.append_nil] at h3
  rw [h3, Option.bind_some, if_pos ⟨rfl, hr⟩]
theorem num_snoc (l : Bs) (b : UInt8) : num (l ++ [b]) = num l * 256 + b.toNat := by unfold num; rw [List.foldl_append]; rfl
theorem num_be8 {n : Nat} (h : n < 18446744073709551616) : num (be8 n) = n := by
  unfold num be8
  simp only [List.foldl_cons, List.foldl_nil, UInt8.toNat_ofNat']
  omega

/-- A list, in parts of these sizes. -/
def partsL {α : Type} : List Nat → List α → List (List α)
  | [], _ => []
  | p :: ps, l => l.take p :: partsL ps (l.drop p)
theorem partsL_flat {α : Type} : ∀ (ps : List Nat) (l : List α), ps.sum = l.length → (partsL ps l).flatten = l
  | [], l, h => by
    have : l = [] := List.length_eq_zero_iff.1 h.symm
    rw [this]; rfl
  | p :: ps, l, h => by
    rw [List.sum_cons] at h
    show l.take p ++ (partsL ps (l.drop p)).flatten = l
    rw [partsL_flat ps (l.drop p) (by rw [List.length_drop]; omega), List.take_append_drop]
theorem partsL_len {α : Type} : ∀ (ps : List Nat) (l : List α), (partsL ps l).length = ps.length
  | [], _ => rfl
  | p :: ps, l => by show (partsL ps (l.drop p)).length + 1 = _; rw [partsL_len ps]; rfl
/-- Each part has its size. -/
theorem partsL_mem {α : Type} : ∀ (ps : List Nat) (l : List α), ps.sum = l.length → ∀ q ∈ partsL ps l, q.length ∈ ps
  | [], _, _, q, hq => by cases hq
  | p :: ps, l, h, q, hq => by
    rw [List.sum_cons] at h
    rcases List.mem_cons.1 hq with rfl | hq
    · rw [List.length_take, Nat.min_eq_left (by omega)]; simp
    · exact List.mem_cons_of_mem _ (partsL_mem ps (l.drop p) (by rw [List.length_drop]; omega) q hq)
def partsOf (l : List It) : List (List It) := partsL (cutG E 0 (l.map itemL)) l
/-- The item of a node. -/
def upI (lev : Nat) (l : List It) : It := ((itD l (l.length - 1)).1, sha (nodeL lev l) ++ be8 (totL lev l))
def levelL (lev : Nat) (l : List It) : List Bs := (partsOf l).map (nodeL lev)
def upsL (lev : Nat) (l : List It) : List It := (partsOf l).map (upI lev)
/-- The root, and all nodes, from a level with these items on. -/
def treeG : Nat → Nat → List It → List Bs → Bs × List Bs
  | 0, _, _, acc => ([], acc)
  | f + 1, lev, l, acc => if (upsL lev l).length = 1 then (prn (itD (upsL lev l) 0), acc ++ levelL lev l) else treeG f (lev + 1) (upsL lev l) (acc ++ levelL lev l)
def treeL (l : List It) : Bs × List Bs := if l = [] then (sha (nodeL 0 []), [nodeL 0 []]) else treeG l.length 0 l []
/-- What Build answers. -/
def buildL (l : List It) : Bs × List Bs := if mapOk l = true then treeL l else ([], [])

theorem cut_sum (l : List It) : (cutG E 0 (l.map itemL)).sum = l.length := by rw [cutG_sum, List.length_map, Nat.zero_add]
theorem partsOf_flat (l : List It) : (partsOf l).flatten = l := partsL_flat _ _ (cut_sum l)
theorem partsOf_mem {l q : List It} (h : q ∈ partsOf l) : 1 ≤ q.length ∧ q.length ≤ 16 := cutG_mem E _ 0 (by omega) _ (partsL_mem _ _ (cut_sum l) q h)
theorem partsOf_len (l : List It) : (partsOf l).length = (cutG E 0 (l.map itemL)).length := partsL_len _ _
theorem upsL_len (lev : Nat) (l : List It) : (upsL lev l).length = (partsOf l).length := by unfold upsL; rw [List.length_map]
/-- Each level has fewer nodes than half of the items, and one more. -/
theorem two_sum : ∀ (ps : List Nat), (∀ k ∈ ps, 1 ≤ k) → (∀ i, i + 1 < ps.length → 2 ≤ ps.getD i 0) → 2 * ps.length ≤ ps.sum + 1
  | [], _, _ => by simp
  | [p], h, _ => by have := h p (by simp); simp; omega
  | p :: q :: r, h, h2 => by
    have h3 := two_sum (q :: r) (fun k hk => h k (by simp [hk])) (fun i hi => by have := h2 (i + 1) (by simp at hi ⊢; omega); simpa using this)
    have := h2 0 (by simp)
    simp only [List.length_cons, List.sum_cons, List.getD_cons_zero] at h3 this ⊢
    omega
theorem ups_half (lev : Nat) (l : List It) : 2 * (upsL lev l).length ≤ l.length + 1 := by
  rw [upsL_len, partsOf_len]
  have := two_sum (cutG E 0 (l.map itemL)) (fun k hk => (cutG_mem E _ 0 (by omega) k hk).1) (fun i hi => cutG_two E _ 0 i hi)
  rw [cut_sum] at this
  exact this
theorem ups_pos {lev : Nat} {l : List It} (h : 0 < l.length) : 0 < (upsL lev l).length := by
  rw [upsL_len]
  have := partsOf_flat l
  cases e : partsOf l with
  | nil => rw [e] at this; rw [← this] at h; simp at h
  | cons a b => simp
theorem upI_len (lev : Nat) (l : List It) : (upI lev l).2.length = 40 := by unfold upI; rw [List.length_append, sha_len, be8_len]
end Go.Proofs.YtfjlkphpeneahaaDoor
