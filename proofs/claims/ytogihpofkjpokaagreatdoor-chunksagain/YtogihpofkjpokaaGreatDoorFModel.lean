/- Frames, plainly: what a frame is, which one a text begins with, which ones it begins with. -/
import Derived.Test.YtogihpofkjpokaaGreatDoorFNum
import Derived.Test.YtogihpofkjpokaaGreatDoorFCrcmath
namespace Go.Proofs.YtogihpofkjpokaaGreatDoor.F5
open Go

/-- The number in the first four bytes. -/
def num4 (l : List UInt8) : BitVec 32 := w4 (l.getD 0 0) (l.getD 1 0) (l.getD 2 0) (l.getD 3 0)
/-- A payload's length as a word. -/
def lenW (p : List UInt8) : BitVec 32 := BitVec.ofNat 32 p.length
/-- A payload's frame. -/
def frameL (p : List UInt8) : List UInt8 := be4 (lenW p) ++ (be4 (crcL (be4 (lenW p))) ++ (be4 (crcL p) ++ p))
/-- The payload of the frame that a text begins with. -/
def firstL (s : List UInt8) : Option (List UInt8) :=
  if s.length < 12 then none
  else if 1048577 < (num4 s).toNat then none
  else if num4 (s.drop 4) ≠ crcL (s.take 4) then none
  else if s.length - 12 < (num4 s).toNat then none
  else if num4 (s.drop 8) ≠ crcL ((s.drop 12).take (num4 s).toNat) then none
  else some ((s.drop 12).take (num4 s).toNat)
def flat (xs : List (List UInt8)) : List UInt8 := xs.flatMap frameL
/-- xs are the payloads of the frames that s begins with. -/
def Scanned (s : List UInt8) (xs : List (List UInt8)) : Prop := ∃ r, s = flat xs ++ r ∧ firstL r = none ∧ ∀ x ∈ xs, x.length ≤ 1048577

theorem be4_length (v : BitVec 32) : (be4 v).length = 4 := rfl
theorem num4_be4 (v : BitVec 32) (r : List UInt8) : num4 (be4 v ++ r) = v := w4_be4 v
theorem be4_num4 {l : List UInt8} (h : 4 ≤ l.length) : be4 (num4 l) = l.take 4 := by
  match l, h with
  | a :: b :: c :: d :: l, _ => unfold num4; rw [be4_w4]; rfl
theorem be4_inj {v v' : BitVec 32} (h : be4 v = be4 v') : v = v' := by
  rw [← num4_be4 v [], h, num4_be4]
theorem frameL_length (p : List UInt8) : (frameL p).length = 12 + p.length := by
  unfold frameL; simp only [List.length_append, be4_length]; omega
theorem lenW_toNat {p : List UInt8} (h : p.length ≤ 1048577) : (lenW p).toNat = p.length := by
  unfold lenW; rw [BitVec.toNat_ofNat]; omega
theorem flat_cons (x : List UInt8) (xs : List (List UInt8)) : flat (x :: xs) = frameL x ++ flat xs := by simp [flat]
theorem flat_nil : flat [] = [] := rfl
theorem flat_append (xs ys : List (List UInt8)) : flat (xs ++ ys) = flat xs ++ flat ys := by simp [flat]
theorem flat_snoc (xs : List (List UInt8)) (x : List UInt8) : flat (xs ++ [x]) = flat xs ++ frameL x := by simp [flat]
theorem drop_app {a b : List UInt8} {n : Nat} (h : a.length = n) : (a ++ b).drop n = b := by subst h; simp
theorem take_app {a b : List UInt8} {n : Nat} (h : a.length = n) : (a ++ b).take n = a := by subst h; simp

/-- A frame is told, whatever stands behind it. -/
theorem first_frame (p r : List UInt8) (h : p.length ≤ 1048577) : firstL (frameL p ++ r) = some p := by
  have e : frameL p ++ r = be4 (lenW p) ++ (be4 (crcL (be4 (lenW p))) ++ (be4 (crcL p) ++ (p ++ r))) := by
    unfold frameL; simp only [List.append_assoc]
  have hl : (frameL p ++ r).length = 12 + p.length + r.length := by rw [List.length_append, frameL_length]
  unfold firstL
  rw [if_neg (by omega)]
  rw [hl]
  rw [e, num4_be4, lenW_toNat h, if_neg (by omega), drop_app (n := 4) (be4_length _), take_app (n := 4) (be4_length _), num4_be4, if_neg (by simp), if_neg (by omega)]
  have d8 : (be4 (lenW p) ++ (be4 (crcL (be4 (lenW p))) ++ (be4 (crcL p) ++ (p ++ r)))).drop 8 = be4 (crcL p) ++ (p ++ r) := by
    rw [← List.append_assoc, drop_app (by rw [List.length_append, be4_length, be4_length])]
  have d12 : (be4 (lenW p) ++ (be4 (crcL (be4 (lenW p))) ++ (be4 (crcL p) ++ (p ++ r)))).drop 12 = p ++ r := by
    rw [← List.append_assoc, ← List.append_assoc, drop_app (by rw [List.length_append, List.length_append, be4_length, be4_length, be4_length])]
  rw [d8, d12, num4_be4, take_app rfl, if_neg (by simp)]
/-- What is told is a frame that stands there. -/
theorem first_some {s p : List UInt8} (h : firstL s = some p) : p.length ≤ 1048577 ∧ ∃ r, s = frameL p ++ r := by
  unfold firstL at h
  split at h
  · cases h
  · rename_i h1
    split at h
    · cases h
    · rename_i h2
      split at h
      · cases h
      · rename_i h3
        split at h
        · cases h
        · rename_i h4
          split at h
          · cases h
          · rename_i h5
            have hp := Option.some.inj h
            have hl : p.length = (num4 s).toNat := by rw [← hp, List.length_take, List.length_drop]; omega
            refine ⟨by omega, (s.drop 12).drop p.length, ?_⟩
            have hn : lenW p = num4 s := by unfold lenW; rw [hl]; simp
            have e0 : be4 (lenW p) = s.take 4 := by rw [hn, be4_num4 (by omega)]
            have e1 : be4 (crcL (be4 (lenW p))) = (s.drop 4).take 4 := by rw [e0, ← Decidable.of_not_not h3, be4_num4 (by rw [List.length_drop]; omega)]
            have e2 : be4 (crcL p) = (s.drop 8).take 4 := by rw [← hp, ← Decidable.of_not_not h5, be4_num4 (by rw [List.length_drop]; omega)]
            unfold frameL
            have a1 : s = s.take 4 ++ s.drop 4 := (List.take_append_drop 4 s).symm
            have a2 : s.drop 4 = (s.drop 4).take 4 ++ s.drop 8 := by
              rw [show s.drop 8 = (s.drop 4).drop 4 by rw [List.drop_drop]]; exact (List.take_append_drop 4 _).symm
            have a3 : s.drop 8 = (s.drop 8).take 4 ++ s.drop 12 := by
              rw [show s.drop 12 = (s.drop 8).drop 4 by rw [List.drop_drop]]; exact (List.take_append_drop 4 _).symm
            have a4 : s.drop 12 = p ++ (s.drop 12).drop p.length := by
              conv => lhs; rw [← List.take_append_drop (num4 s).toNat (s.drop 12)]
              rw [hp, hl]
            rw [e1, e0, e2]
            refine a1.trans ?_
            conv => lhs; rw [a2, a3, a4]
            simp only [List.append_assoc]
theorem first_nil : firstL [] = none := rfl
theorem first_short {s : List UInt8} (h : s.length < 12) : firstL s = none := by unfold firstL; rw [if_pos h]
/-- A frame that is cut off is none. -/
theorem first_cut (p : List UInt8) (h : p.length ≤ 1048577) (m : Nat) (hm : m < 12 + p.length) : firstL ((frameL p).take m) = none := by
  cases hf : firstL ((frameL p).take m) with
  | none => rfl
  | some q =>
    obtain ⟨hq, r, e⟩ := first_some hf
    have h1 := first_frame p [] h
    rw [List.append_nil, ← List.take_append_drop m (frameL p), e, List.append_assoc, first_frame q _ hq] at h1
    have hqp := Option.some.inj h1
    subst hqp
    have hl := congrArg List.length e
    rw [List.length_take, List.length_append, frameL_length] at hl
    omega
theorem Scanned.unique {s : List UInt8} : ∀ {xs ys : List (List UInt8)}, Scanned s xs → Scanned s ys → xs = ys := by
  intro xs
  induction xs generalizing s with
  | nil =>
    rintro ys ⟨r, e, hn, _⟩ ⟨r', e', hn', hl'⟩
    cases ys with
    | nil => rfl
    | cons y ys =>
      rw [flat_nil, List.nil_append] at e
      rw [e, flat_cons, List.append_assoc] at e'
      rw [e', first_frame y _ (hl' y (by simp))] at hn
      cases hn
  | cons x xs ih =>
    rintro ys ⟨r, e, hn, hl⟩ ⟨r', e', hn', hl'⟩
    have hx := first_frame x (flat xs ++ r) (hl x (by simp))
    rw [← List.append_assoc, ← flat_cons, ← e, e'] at hx
    cases ys with
    | nil =>
      rw [flat_nil, List.nil_append] at hx
      rw [hn'] at hx
      cases hx
    | cons y ys =>
      rw [flat_cons, List.append_assoc, first_frame y _ (hl' y (by simp))] at hx
      have hyx := Option.some.inj hx
      subst hyx
      rw [flat_cons, List.append_assoc] at e e'
      rw [e] at e'
      have e2 := List.append_cancel_left e'
      rw [ih ⟨r, rfl, hn, fun z hz => hl z (by simp [hz])⟩ ⟨r', e2, hn', fun z hz => hl' z (by simp [hz])⟩]
theorem Scanned.length {s : List UInt8} {xs : List (List UInt8)} (h : Scanned s xs) : (flat xs).length ≤ s.length := by
  obtain ⟨r, e, _⟩ := h
  have := congrArg List.length e
  rw [List.length_append] at this
  omega
theorem flat_count : ∀ xs : List (List UInt8), 12 * xs.length ≤ (flat xs).length
  | [] => by simp
  | x :: xs => by rw [flat_cons, List.length_append, frameL_length, List.length_cons]; have := flat_count xs; omega
end Go.Proofs.YtogihpofkjpokaaGreatDoor.F5
