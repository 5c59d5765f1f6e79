/- What is written is read, and what is read is written, plainly. -/
import Derived.Test.YtmlllgcmhapadaaDoorRead
namespace Go.Proofs.YtmlllgcmhapadaaDoor
open Go

theorem u8_ext {a b : UInt8} (h : a.toNat = b.toNat) : a = b := UInt8.toNat_inj.1 h
theorem be_nat (n i : Nat) : (be n i).toNat = n / 256 ^ (7 - i) % 256 := by unfold be; rw [UInt8.toNat_ofNat']
theorem be8_eq (n : Nat) : be8 n = [be n 0, be n 1, be n 2, be n 3, be n 4, be n 5, be n 6, be n 7] := rfl
theorem numL_be8 (n : Nat) (h : n < 18446744073709551616) : numL (be8 n) = n := by
  rw [be8_eq]
  simp only [numL, List.foldl_cons, List.foldl_nil, be_nat]
  simp only [show 7 - 0 = 7 from rfl, show 7 - 1 = 6 from rfl, show 7 - 2 = 5 from rfl, show 7 - 3 = 4 from rfl, show 7 - 4 = 3 from rfl, show 7 - 5 = 2 from rfl, show 7 - 6 = 1 from rfl, show 7 - 7 = 0 from rfl]
  omega
theorem be8_numL (l : List UInt8) (h : l.length = 8) : be8 (numL l) = l := by
  match l, h with
  | [a, b, c, d, e, f, g, i], _ =>
    have ha := a.toNat_lt
    have hb := b.toNat_lt
    have hc := c.toNat_lt
    have hd := d.toNat_lt
    have he := e.toNat_lt
    have hf := f.toNat_lt
    have hg := g.toNat_lt
    have hi := i.toNat_lt
    rw [be8_eq]
    simp only [numL, List.foldl_cons, List.foldl_nil]
    simp only [List.cons.injEq, and_true]
    refine ⟨u8_ext ?_, u8_ext ?_, u8_ext ?_, u8_ext ?_, u8_ext ?_, u8_ext ?_, u8_ext ?_, u8_ext ?_⟩ <;> rw [be_nat] <;> omega
theorem toI_numW (n : Int) (h0 : -9223372036854775808 ≤ n) (h1 : n ≤ 9223372036854775807) : toI (numW n) = n := by
  unfold toI numW
  split <;> omega
theorem numW_toI (m : Nat) (h : m < 18446744073709551616) : numW (toI m) = m := by
  unfold toI numW
  split <;> omega
theorem ofNat_of {b : UInt8} {n : Nat} (h : b.toNat = n) : b = UInt8.ofNat n := by subst h; simp
theorem cutW_text (k : UInt8) (hk : k = 3 ∨ k = 4) (b0 b1 : UInt8) (q : List UInt8) :
    cutW (k :: b0 :: b1 :: q) = if b0.toNat * 256 + b1.toNat ≤ 1000 ∧ b0.toNat * 256 + b1.toNat ≤ q.length then some (⟨k.toNat, 0, txt (q.take (b0.toNat * 256 + b1.toNat))⟩, q.drop (b0.toNat * 256 + b1.toNat)) else none := by
  rcases hk with rfl | rfl <;> rfl
theorem data_txt (s : ByteArray) : txt s.data.toList = s := by
  apply ByteArray.ext; simp [txt]
theorem cutW_counted (k : UInt8) (hk : k = 3 ∨ k = 4) (s : ByteArray) (hs : s.size ≤ 1000) (r : List UInt8) : cutW (k :: (counted s ++ r)) = some (⟨k.toNat, 0, s⟩, r) := by
  have e1 : (UInt8.ofNat (s.size / 256)).toNat * 256 + (UInt8.ofNat s.size).toNat = s.size := by rw [UInt8.toNat_ofNat', UInt8.toNat_ofNat']; omega
  show cutW (k :: UInt8.ofNat (s.size / 256) :: UInt8.ofNat s.size :: (s.data.toList ++ r)) = _
  rw [cutW_text k hk, e1, if_pos ⟨hs, by rw [List.length_append, size_data]; omega⟩, List.take_append_of_le_length (by rw [size_data]; omega), List.take_of_length_le (by rw [size_data]; omega), List.drop_append_of_le_length (by rw [size_data]; omega), List.drop_of_length_le (by rw [size_data]; omega), data_txt]
  rfl
/-- What is written is cut off again. -/
theorem cutW_write {v : V} (h : rightB v = true) (ho : v.ok) (r : List UInt8) : cutW (writeV v ++ r) = some (v, r) := by
  obtain ⟨k, n, s⟩ := v
  rcases right_cases h with ⟨h1, h2, h3⟩ | ⟨h1, h2⟩ | ⟨h1, h2, h3⟩ | ⟨h1, h2, h3⟩ | ⟨h1, h2, h3⟩
  · simp only at h1 h2 h3; subst h1 h2 h3; rfl
  · simp only at h1 h2; subst h1 h2
    show cutW (1 :: (be8 (numW n) ++ r)) = _
    have hl := be8_length (numW n)
    rw [cutW.eq_def]
    simp only [show ¬ ((1 : UInt8) = 0) by decide, if_false, if_true]
    rw [if_neg (by rw [List.length_append]; omega), List.take_append_of_le_length (by omega), List.take_of_length_le (by omega), List.drop_append_of_le_length (by omega), List.drop_of_length_le (by omega), numL_be8 _ (numW_lt n), toI_numW n ho.2.2.1 ho.2.2.2]
    rfl
  · simp only at h1 h2 h3; subst h1 h3
    rcases h2 with rfl | rfl <;> rfl
  · simp only at h1 h2 h3; subst h1 h2
    exact cutW_counted 3 (.inl rfl) s h3 r
  · simp only at h1 h2 h3; subst h1 h2
    exact cutW_counted 4 (.inr rfl) s h3 r
theorem unmark_marked : ∀ (l r : List UInt8), unmark (subst1 0 [0, 255] l ++ (0 :: 0 :: r)) = some (l, r)
  | [], r => by
    show unmark (0 :: 0 :: r) = _
    rw [unmark, if_pos rfl]
    simp
  | b :: l, r => by
    have ih := unmark_marked l r
    rw [subst1_cons]
    by_cases hb : b = 0
    · subst hb
      show unmark (0 :: 255 :: (subst1 0 [0, 255] l ++ (0 :: 0 :: r))) = _
      rw [unmark, if_pos rfl]
      simp only [show ¬ ((255 : UInt8) = 0) by decide, if_false, if_true]
      rw [ih]
      rfl
    · rw [if_neg hb]
      show unmark (b :: (subst1 0 [0, 255] l ++ (0 :: 0 :: r))) = _
      rw [unmark.eq_def]
      simp only [if_neg hb]
      rw [ih]
      rfl
theorem cutK_text (k : UInt8) (hk : k = 4 ∨ k = 5) (q : List UInt8) : cutK (k :: q) = (markR q).map fun x => (⟨(k.toNat : Int) - 1, 0, txt x.1⟩, x.2) := by
  rcases hk with rfl | rfl <;> rfl
theorem cutK_marked (k : UInt8) (hk : k = 4 ∨ k = 5) (s : ByteArray) (hs : s.size ≤ 1000) (r : List UInt8) : cutK (k :: (marked s ++ r)) = some (⟨(k.toNat : Int) - 1, 0, s⟩, r) := by
  have h : markR (marked s ++ r) = some (s.data.toList, r) := by
    unfold markR marked
    rw [List.append_assoc]
    show (unmark (subst1 0 [0, 255] s.data.toList ++ (0 :: 0 :: r))).bind _ = _
    rw [unmark_marked]
    show (if s.data.toList.length ≤ 1000 then _ else _) = _
    rw [if_pos (by rw [size_data]; exact hs)]
  rw [cutK_text k hk, h]
  show some (_, r) = _
  rw [data_txt]
theorem numK_back (n : Int) (h0 : -9223372036854775808 ≤ n) : ((numK n : Nat) : Int) - 9223372036854775808 = n := by unfold numK; omega
/-- What a key has is cut off again. -/
theorem cutK_key {v : V} (h : rightB v = true) (ho : v.ok) (r : List UInt8) : cutK (keyV v ++ r) = some (v, r) := by
  obtain ⟨k, n, s⟩ := v
  rcases right_cases h with ⟨h1, h2, h3⟩ | ⟨h1, h2⟩ | ⟨h1, h2, h3⟩ | ⟨h1, h2, h3⟩ | ⟨h1, h2, h3⟩
  · simp only at h1 h2 h3; subst h1 h2 h3; rfl
  · simp only at h1 h2; subst h1 h2
    show cutK (2 :: (be8 (numK n) ++ r)) = _
    have hl := be8_length (numK n)
    rw [cutK.eq_def]
    simp only [show ¬ ((2 : UInt8) = 1) by decide, if_false, if_true]
    rw [if_neg (by rw [List.length_append]; omega), List.take_append_of_le_length (by omega), List.take_of_length_le (by omega), List.drop_append_of_le_length (by omega), List.drop_of_length_le (by omega), numL_be8 _ (numK_lt n ho.2.2.2), numK_back n ho.2.2.1]
    rfl
  · simp only at h1 h2 h3; subst h1 h3
    rcases h2 with rfl | rfl <;> rfl
  · simp only at h1 h2 h3; subst h1 h2
    exact cutK_marked 4 (.inl rfl) s h3 r
  · simp only at h1 h2 h3; subst h1 h2
    exact cutK_marked 5 (.inr rfl) s h3 r
/-- All of it. -/
theorem readK_of {cut : List UInt8 → Option (V × List UInt8)} {enc : V → List UInt8} (hc : ∀ v r, rightB v = true → v.ok → cut (enc v ++ r) = some (v, r)) (hne : ∀ v, enc v ≠ []) :
    ∀ (xs acc : List V) (f : Nat), xs.all rightB = true → (∀ y ∈ xs, y.ok) → acc.length + xs.length ≤ 64 → xs.length < f → readK cut f acc (xs.flatMap enc) = some (acc ++ xs)
  | [], acc, f + 1, _, _, _, _ => by rw [List.flatMap_nil, readK_nil, List.append_nil]
  | y :: xs, acc, f + 1, hr, ho, hl, hf => by
    simp only [List.all_cons, Bool.and_eq_true] at hr
    simp only [List.length_cons] at hl hf
    rw [List.flatMap_cons, readK_more cut f acc _ (fun e => hne y (List.append_eq_nil_iff.1 e).1) y (xs.flatMap enc) (hc y _ hr.1 (ho y (by simp))) (by omega),
      readK_of hc hne xs (acc ++ [y]) f hr.2 (fun z hz => ho z (by simp [hz])) (by simp; omega) (by omega)]
    simp
theorem flat_len (enc : V → List UInt8) (hne : ∀ v, enc v ≠ []) (xs : List V) : xs.length ≤ (xs.flatMap enc).length := by
  induction xs with
  | nil => simp
  | cons y xs ih =>
    have := List.length_pos_iff.2 (hne y)
    simp only [List.flatMap_cons, List.length_cons, List.length_append]
    omega
theorem tuple_parts {xs : List V} (h : tupleB xs = true) : xs.length ≤ 64 ∧ xs.all rightB = true := by
  unfold tupleB at h
  rw [Bool.and_eq_true] at h
  exact ⟨by simpa using h.1, h.2⟩
theorem read_write (xs : List V) (h : tupleB xs = true) (ho : ∀ y ∈ xs, y.ok) : readAll cutW (writeL xs) = some xs := by
  have hp := tuple_parts h
  have hl := flat_len writeV (fun _ => by simp [writeV]) xs
  exact readK_of (enc := writeV) (fun v r h1 h2 => cutW_write h1 h2 r) (fun _ => by simp [writeV]) xs [] _ hp.2 ho (by simpa using hp.1) (by unfold writeL; omega)
theorem back_key (xs : List V) (h : tupleB xs = true) (ho : ∀ y ∈ xs, y.ok) : readAll cutK (keyL xs) = some xs := by
  have hp := tuple_parts h
  have hl := flat_len keyV (fun _ => by simp [keyV]) xs
  exact readK_of (enc := keyV) (fun v r h1 h2 => cutK_key h1 h2 r) (fun _ => by simp [keyV]) xs [] _ hp.2 ho (by simpa using hp.1) (by unfold keyL; omega)
end Go.Proofs.YtmlllgcmhapadaaDoor
