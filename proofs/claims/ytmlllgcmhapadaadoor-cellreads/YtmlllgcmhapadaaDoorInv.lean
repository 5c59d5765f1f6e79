/- What reading takes is what writing gives. -/
import Derived.Test.YtmlllgcmhapadaaDoorRRead
namespace Go.Proofs.YtmlllgcmhapadaaDoor
open Go Go.RowKit

theorem unmark_inv : ∀ (n : Nat) (s : List UInt8) (x : List UInt8 × List UInt8), s.length ≤ n → unmark s = some x → s = subst1 0 [0, 255] x.1 ++ (0 :: 0 :: x.2)
  | _, [], x, _, h => by cases h
  | 0, _ :: _, x, hn, h => by simp at hn
  | n + 1, b :: r, x, hn, h => by
    rw [unmark.eq_def] at h
    simp only at h
    split at h
    · rename_i hb
      subst hb
      split at h
      · cases h
      · rename_i c q
        split at h
        · rename_i hc; subst hc; cases h; rfl
        · split at h
          · rename_i hc
            subst hc
            cases hu : unmark q with
            | none => rw [hu] at h; cases h
            | some y =>
              rw [hu] at h; cases h
              have ih := unmark_inv n q y (by simp at hn; omega) hu
              show 0 :: 255 :: q = 0 :: 255 :: (subst1 0 [0, 255] y.1 ++ (0 :: 0 :: y.2))
              rw [← ih]
          · cases h
    · rename_i hb
      cases hu : unmark r with
      | none => rw [hu] at h; cases h
      | some y =>
        rw [hu] at h; cases h
        have ih := unmark_inv n r y (by simp at hn; omega) hu
        show b :: r = subst1 0 [0, 255] (b :: y.1) ++ (0 :: 0 :: y.2)
        rw [subst1_cons, if_neg hb]
        show b :: r = b :: (subst1 0 [0, 255] y.1 ++ (0 :: 0 :: y.2))
        rw [← ih]
theorem cutW_inv (s : List UInt8) (v : V) (r : List UInt8) (h : cutW s = some (v, r)) : s = writeV v ++ r ∧ rightB v = true ∧ v.ok := by
  match s with
  | [] => cases h
  | k :: q =>
    rw [cutW.eq_def] at h
    simp only at h
    split at h
    · rename_i hk; subst hk; cases h; exact ⟨rfl, rfl, by unfold V.ok; decide⟩
    split at h
    · rename_i hk; subst hk
      split at h
      · cases h
      · rename_i hl
        cases h
        have hn := numL_lt (q.take 8) 8 (by rw [List.length_take]; omega)
        refine ⟨?_, rfl, ?_⟩
        · show 1 :: q = 1 :: (be8 (numW (toI (numL (q.take 8)))) ++ q.drop 8)
          rw [numW_toI _ (by omega), be8_numL _ (by rw [List.length_take]; omega), List.take_append_drop]
        · unfold V.ok toI; dsimp only; split <;> omega
    split at h
    · rename_i hk; subst hk
      split at h
      · cases h
      · rename_i b q
        split at h
        · rename_i hb; cases h
          refine ⟨?_, ?_, ?_⟩
          · show 2 :: b :: r = 2 :: UInt8.ofNat ((b.toNat : Nat) : Int).toNat :: r
            rw [Int.toNat_natCast, UInt8.ofNat_toNat]
          · rw [rightB_bool]; exact decide_eq_true hb
          · unfold V.ok; dsimp only; omega
        · cases h
    split at h
    · rename_i hk
      split at h
      · rename_i b0 b1 q
        split at h
        · rename_i hb; cases h
          have k0 := b0.toNat_lt
          have k1 := b1.toNat_lt
          have hk' : ((k.toNat : Nat) : Int) = 3 ∨ ((k.toNat : Nat) : Int) = 4 := by rcases hk with rfl | rfl <;> simp
          have hs : (txt (q.take (b0.toNat * 256 + b1.toNat))).size = b0.toNat * 256 + b1.toNat := by rw [txt_size, List.length_take]; omega
          refine ⟨?_, ?_, ?_⟩
          · have hw : writeV ⟨(k.toNat : Nat), 0, txt (q.take (b0.toNat * 256 + b1.toNat))⟩ = k :: counted (txt (q.take (b0.toNat * 256 + b1.toNat))) := by rcases hk with rfl | rfl <;> rfl
            rw [hw]
            unfold counted
            rw [hs, txt_data]
            have e0 : UInt8.ofNat ((b0.toNat * 256 + b1.toNat) / 256) = b0 := u8_ext (by rw [UInt8.toNat_ofNat']; omega)
            have e1 : UInt8.ofNat (b0.toNat * 256 + b1.toNat) = b1 := u8_ext (by rw [UInt8.toNat_ofNat']; omega)
            rw [e0, e1]
            show k :: b0 :: b1 :: q = k :: b0 :: b1 :: (q.take (b0.toNat * 256 + b1.toNat) ++ q.drop (b0.toNat * 256 + b1.toNat))
            rw [List.take_append_drop]
          · rw [rightB_text _ hk', List.length_take]; exact decide_eq_true (by omega)
          · unfold V.ok; dsimp only; omega
        · cases h
      · cases h
    · cases h
theorem cutK_inv (s : List UInt8) (v : V) (r : List UInt8) (h : cutK s = some (v, r)) : s = keyV v ++ r ∧ rightB v = true ∧ v.ok := by
  match s with
  | [] => cases h
  | k :: q =>
    rw [cutK.eq_def] at h
    simp only at h
    split at h
    · rename_i hk; subst hk; cases h; exact ⟨rfl, rfl, by unfold V.ok; decide⟩
    split at h
    · rename_i hk; subst hk
      split at h
      · cases h
      · rename_i hl
        cases h
        have hn := numL_lt (q.take 8) 8 (by rw [List.length_take]; omega)
        refine ⟨?_, rfl, ?_⟩
        · show 2 :: q = 2 :: (be8 (numK ((numL (q.take 8) : Int) - 9223372036854775808)) ++ q.drop 8)
          have hb : numK ((numL (q.take 8) : Int) - 9223372036854775808) = numL (q.take 8) := by unfold numK; omega
          rw [hb, be8_numL _ (by rw [List.length_take]; omega), List.take_append_drop]
        · unfold V.ok; dsimp only; omega
    split at h
    · rename_i hk; subst hk
      split at h
      · cases h
      · rename_i b q
        split at h
        · rename_i hb; cases h
          refine ⟨?_, ?_, ?_⟩
          · show 3 :: b :: r = 3 :: UInt8.ofNat ((b.toNat : Nat) : Int).toNat :: r
            rw [Int.toNat_natCast, UInt8.ofNat_toNat]
          · rw [rightB_bool]; exact decide_eq_true hb
          · unfold V.ok; dsimp only; omega
        · cases h
    split at h
    · rename_i hk
      cases hx : markR q with
      | none => rw [hx] at h; cases h
      | some x =>
        rw [hx] at h; cases h
        obtain ⟨h1, h2⟩ := markR_some hx
        have hi := unmark_inv q.length q x (Nat.le_refl _) h1
        have hk' : ((k.toNat : Int) - 1) = 3 ∨ ((k.toNat : Int) - 1) = 4 := by rcases hk with rfl | rfl <;> simp
        refine ⟨?_, ?_, ?_⟩
        · have hw : keyV ⟨(k.toNat : Int) - 1, 0, txt x.1⟩ = k :: marked (txt x.1) := by rcases hk with rfl | rfl <;> rfl
          rw [hw]
          unfold marked
          rw [txt_data]
          show k :: q = k :: ((subst1 0 [0, 255] x.1 ++ [0, 0]) ++ x.2)
          rw [List.append_assoc]
          show k :: q = k :: (subst1 0 [0, 255] x.1 ++ (0 :: 0 :: x.2))
          rw [← hi]
        · rw [rightB_text _ hk']; exact decide_eq_true h2
        · unfold V.ok; dsimp only; omega
    · cases h
theorem readK_inv {cut : List UInt8 → Option (V × List UInt8)} {enc : V → List UInt8} (hi : ∀ s v r, cut s = some (v, r) → s = enc v ++ r ∧ rightB v = true ∧ v.ok) :
    ∀ (f : Nat) (acc : List V) (s : List UInt8) (xs : List V), acc.length ≤ 64 → readK cut f acc s = some xs → ∃ ys, xs = acc ++ ys ∧ s = ys.flatMap enc ∧ ys.all rightB = true ∧ (∀ y ∈ ys, y.ok) ∧ xs.length ≤ 64
  | 0, acc, s, xs, _, h => by cases h
  | f + 1, acc, s, xs, ha, h => by
    by_cases hs : s = []
    · subst hs
      rw [readK_nil] at h
      cases h
      exact ⟨[], by simp, rfl, rfl, by simp, ha⟩
    · cases hc : cut s with
      | none => rw [readK_none cut f acc s hs hc] at h; cases h
      | some x =>
        obtain ⟨v, r⟩ := x
        by_cases hl : acc.length = 64
        · rw [readK_full cut f acc s hs (v, r) hc hl] at h; cases h
        · rw [readK_more cut f acc s hs v r hc hl] at h
          obtain ⟨ys, e1, e2, e3, e4, e5⟩ := readK_inv hi f (acc ++ [v]) r xs (by simp; omega) h
          obtain ⟨i1, i2, i3⟩ := hi s v r hc
          refine ⟨v :: ys, by rw [e1]; simp, by rw [i1, e2]; simp, by simp only [List.all_cons, i2, e3]; rfl, ?_, e5⟩
          intro y hy
          rcases List.mem_cons.1 hy with rfl | hy
          · exact i3
          · exact e4 y hy
theorem readAll_inv {cut : List UInt8 → Option (V × List UInt8)} {enc : V → List UInt8} (hi : ∀ s v r, cut s = some (v, r) → s = enc v ++ r ∧ rightB v = true ∧ v.ok)
    {s : List UInt8} {xs : List V} (h : readAll cut s = some xs) : tupleB xs = true ∧ (∀ y ∈ xs, y.ok) ∧ xs.flatMap enc = s := by
  obtain ⟨ys, e1, e2, e3, e4, e5⟩ := readK_inv hi _ [] s xs (by simp) h
  rw [List.nil_append] at e1
  subst e1
  exact ⟨by unfold tupleB; rw [e3, decide_eq_true e5]; rfl, e4, e2.symm⟩
theorem got_W (s : ByteArray) : ((readAll cutW s.data.toList).getD []).length ≤ 64 ∧ ((readAll cutW s.data.toList).isSome = true → tupleB ((readAll cutW s.data.toList).getD []) = true ∧ (∀ y ∈ (readAll cutW s.data.toList).getD [], y.ok) ∧ writeT ((readAll cutW s.data.toList).getD []) = s) := by
  cases h : readAll cutW s.data.toList with
  | none => exact ⟨by simp, fun h => by cases h⟩
  | some xs =>
    obtain ⟨h1, h2, h3⟩ := readAll_inv cutW_inv h
    refine ⟨(tuple_parts h1).1, fun _ => ⟨h1, h2, ?_⟩⟩
    show writeT xs = s
    unfold writeT
    rw [if_pos h1]
    show txt (xs.flatMap writeV) = s
    rw [h3, data_txt]
theorem got_K (s : ByteArray) : ((readAll cutK s.data.toList).getD []).length ≤ 64 ∧ ((readAll cutK s.data.toList).isSome = true → tupleB ((readAll cutK s.data.toList).getD []) = true ∧ (∀ y ∈ (readAll cutK s.data.toList).getD [], y.ok) ∧ keyT ((readAll cutK s.data.toList).getD []) = s) := by
  cases h : readAll cutK s.data.toList with
  | none => exact ⟨by simp, fun h => by cases h⟩
  | some xs =>
    obtain ⟨h1, h2, h3⟩ := readAll_inv cutK_inv h
    refine ⟨(tuple_parts h1).1, fun _ => ⟨h1, h2, ?_⟩⟩
    show keyT xs = s
    unfold keyT
    rw [if_pos h1]
    show txt (xs.flatMap keyV) = s
    rw [h3, data_txt]
/-- What reading answers, said once. -/
def Got (xs : List V) (b : Bool) (W : World) (e : Ending) (w' : World) : Prop := ∃ a c, e = .returned (.tuple #[.slice a xs.length c, .bool b]) ∧ Rd w' a xs ∧ Below W.heap.size W w'
theorem ReadP.form {res : Option (List V)} {w w' : World} {e : Ending} (h : ReadP res w e w') : Got (res.getD []) res.isSome w e w' := by
  obtain ⟨⟨xs, v, rfl, rfl, h3⟩ | ⟨rfl, rfl⟩, hb⟩ := h
  · obtain ⟨a, c, rfl, hr, -, -⟩ := h3.rd
    exact ⟨a, c, rfl, hr, hb⟩
  · exact ⟨none, 0, rfl, fun i hi => absurd hi (by simp), hb⟩
end Go.Proofs.YtmlllgcmhapadaaDoor
