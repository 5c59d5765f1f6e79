/- A tuple's bytes and key, plainly. -/
import Derived.Test.YtmlllgcmhapadaaDoorNum
import Derived.Lib.Replace
import Derived.Lib.ReplaceLaws
namespace Go.Proofs.YtmlllgcmhapadaaDoor
open Go

/-- Each byte c of a text stands as new. -/
def subst1 (c : UInt8) (new : List UInt8) (l : List UInt8) : List UInt8 := l.flatMap fun b => if b = c then new else [b]
theorem subst1_nil (c : UInt8) (new : List UInt8) : subst1 c new [] = [] := rfl
theorem subst1_cons (c : UInt8) (new : List UInt8) (b : UInt8) (l : List UInt8) : subst1 c new (b :: l) = (if b = c then new else [b]) ++ subst1 c new l := by simp [subst1]
theorem subst1_append (c : UInt8) (new l m : List UInt8) : subst1 c new (l ++ m) = subst1 c new l ++ subst1 c new m := by simp [subst1]
theorem index_cons_eq (c : UInt8) (l : List UInt8) : Lib.index (c :: l) [c] = 0 := by rw [Lib.index_one]; simp [Lib.indexByte]
theorem index_cons_ne (b c : UInt8) (l : List UInt8) (h : b ≠ c) (i : Nat) (hi : Lib.index l [c] = i) : Lib.index (b :: l) [c] = ((i + 1 : Nat) : Int) := by
  rw [Lib.index_one] at hi ⊢
  simp only [Lib.indexByte]
  rw [if_neg (by simpa using h), hi]
  split
  · rename_i h2; simp at h2
  · omega
theorem replaceK_one (c : UInt8) (new : List UInt8) : ∀ s : List UInt8, Lib.replaceK [c] new (Lib.count s [c]) s = subst1 c new s
  | [] => by rw [Lib.count_one]; rfl
  | b :: l => by
    have ih := replaceK_one c new l
    rw [subst1_cons]
    by_cases h : b = c
    · subst h
      rw [Lib.count_cons_eq, Nat.add_comm, Lib.replaceK_hit _ _ _ _ 0 (index_cons_eq b l), if_pos rfl]
      simp [ih]
    · rw [Lib.count_cons_ne b c l h, if_neg h]
      cases hm : Lib.count l [c] with
      | zero => rw [hm] at ih; rw [← ih]; rfl
      | succ m =>
        obtain ⟨i, hi⟩ := Lib.index_of_count (s := l) (old := [c]) (by omega)
        rw [hm, Lib.replaceK_hit _ _ _ _ i hi] at ih
        rw [Lib.replaceK_hit _ _ _ _ (i + 1) (index_cons_ne b c l h i hi), ← ih]
        simp
theorem replaceAll_one (c : UInt8) (new s : List UInt8) (h : new ≠ [c]) : Lib.replaceAll s [c] new = subst1 c new s := by
  unfold Lib.replaceAll Lib.replace
  rw [if_neg (by simpa using fun e => h e.symm)]
  unfold Lib.replaceNum
  rw [if_pos (.inl (by decide)), replaceK_one]
theorem subst1_len (c a b : UInt8) (l : List UInt8) : (subst1 c [a, b] l).length ≤ 2 * l.length := by
  induction l with
  | nil => simp [subst1]
  | cons x l ih => rw [subst1_cons, List.length_append, List.length_cons]; split <;> simp <;> omega

/-- N as a number of eight bytes: plainly, and with its highest bit turned. -/
def numW (n : Int) : Nat := (n % 18446744073709551616).toNat
def numK (n : Int) : Nat := (n + 9223372036854775808).toNat
/-- A text's length in two bytes, and the text. -/
def counted (s : ByteArray) : List UInt8 := [UInt8.ofNat (s.size / 256), UInt8.ofNat s.size] ++ s.data.toList
/-- A text in a key. -/
def marked (s : ByteArray) : List UInt8 := subst1 0 [0, 255] s.data.toList ++ [0, 0]
def bodyW (v : V) : List UInt8 := if v.k = 1 then be8 (numW v.n) else if v.k = 2 then [UInt8.ofNat v.n.toNat] else if v.k = 3 ∨ v.k = 4 then counted v.s else []
def bodyK (v : V) : List UInt8 := if v.k = 1 then be8 (numK v.n) else if v.k = 2 then [UInt8.ofNat v.n.toNat] else if v.k = 3 ∨ v.k = 4 then marked v.s else []
def writeV (v : V) : List UInt8 := UInt8.ofNat v.k.toNat :: bodyW v
def keyV (v : V) : List UInt8 := UInt8.ofNat (v.k.toNat + 1) :: bodyK v
def writeL (xs : List V) : List UInt8 := xs.flatMap writeV
def keyL (xs : List V) : List UInt8 := xs.flatMap keyV
theorem writeL_snoc (xs : List V) (y : V) : writeL (xs ++ [y]) = writeL xs ++ writeV y := by simp [writeL]
theorem keyL_snoc (xs : List V) (y : V) : keyL (xs ++ [y]) = keyL xs ++ keyV y := by simp [keyL]
theorem be8_length (n : Nat) : (be8 n).length = 8 := by simp [be8]
/-- What a right value is. -/
theorem right_cases {v : V} (h : rightB v = true) :
    (v.k = 0 ∧ v.n = 0 ∧ v.s = ByteArray.empty) ∨ (v.k = 1 ∧ v.s = ByteArray.empty) ∨ (v.k = 2 ∧ (v.n = 0 ∨ v.n = 1) ∧ v.s = ByteArray.empty) ∨ (v.k = 3 ∧ v.n = 0 ∧ v.s.size ≤ 1000) ∨ (v.k = 4 ∧ v.n = 0 ∧ v.s.size ≤ 1000) := by
  unfold rightB at h
  split at h
  · simp at h; exact .inl ⟨by assumption, h⟩
  split at h
  · simp at h; exact .inr (.inl ⟨by assumption, h⟩)
  split at h
  · simp at h; exact .inr (.inr (.inl ⟨by assumption, h⟩))
  split at h
  · rename_i h3
    simp at h
    rcases h3 with h3 | h3
    · exact .inr (.inr (.inr (.inl ⟨h3, h⟩)))
    · exact .inr (.inr (.inr (.inr ⟨h3, h⟩)))
  · cases h
theorem size_data (s : ByteArray) : s.data.toList.length = s.size := rfl
theorem writeV_len {v : V} (h : rightB v = true) : (writeV v).length ≤ 2003 := by
  unfold writeV bodyW counted
  rcases right_cases h with ⟨h1, _⟩ | ⟨h1, _⟩ | ⟨h1, _⟩ | ⟨h1, _, h2⟩ | ⟨h1, _, h2⟩ <;> simp [h1, be8_length] <;> omega
theorem keyV_len {v : V} (h : rightB v = true) : (keyV v).length ≤ 2003 := by
  have := subst1_len 0 0 255 v.s.data.toList
  rw [size_data] at this
  unfold keyV bodyK marked
  rcases right_cases h with ⟨h1, _⟩ | ⟨h1, _⟩ | ⟨h1, _⟩ | ⟨h1, _, h2⟩ | ⟨h1, _, h2⟩ <;> simp [h1, be8_length] <;> omega
theorem writeL_len (xs : List V) (h : xs.all rightB = true) : (writeL xs).length ≤ 2003 * xs.length := by
  induction xs with
  | nil => simp [writeL]
  | cons y xs ih =>
    simp only [List.all_cons, Bool.and_eq_true] at h
    have := writeV_len h.1
    have := ih h.2
    simp only [writeL, List.flatMap_cons, List.length_append, List.length_cons] at *
    omega
theorem keyL_len (xs : List V) (h : xs.all rightB = true) : (keyL xs).length ≤ 2003 * xs.length := by
  induction xs with
  | nil => simp [keyL]
  | cons y xs ih =>
    simp only [List.all_cons, Bool.and_eq_true] at h
    have := keyV_len h.1
    have := ih h.2
    simp only [keyL, List.flatMap_cons, List.length_append, List.length_cons] at *
    omega
def txt (l : List UInt8) : ByteArray := ⟨l.toArray⟩
def writeT (xs : List V) : ByteArray := if tupleB xs = true then txt (writeL xs) else ByteArray.empty
def keyT (xs : List V) : ByteArray := if tupleB xs = true then txt (keyL xs) else ByteArray.empty
theorem right_at {xs : List V} (h : xs.all rightB = true) (i : Nat) (hi : i < xs.length) : rightB (at_ xs i) = true := by
  unfold at_
  rw [List.getD_eq_getElem?_getD, List.getElem?_eq_getElem hi]
  exact List.all_eq_true.1 h _ (List.getElem_mem hi)
theorem right_take {xs : List V} (h : xs.all rightB = true) (i : Nat) : (xs.take i).all rightB = true := by
  rw [List.all_eq_true] at h ⊢
  exact fun x hx => h x (List.mem_of_mem_take hx)
theorem ok_at {xs : List V} (h : ∀ y ∈ xs, y.ok) (i : Nat) (hi : i < xs.length) : (at_ xs i).ok := by
  unfold at_
  rw [List.getD_eq_getElem?_getD, List.getElem?_eq_getElem hi]
  exact h _ (List.getElem_mem hi)
theorem txt_data (l : List UInt8) : (txt l).data.toList = l := rfl
theorem txt_size (l : List UInt8) : (txt l).size = l.length := rfl
end Go.Proofs.YtmlllgcmhapadaaDoor
