/- A frame one byte of which is another one is none, plainly. -/
import Derived.Test.YtmjlijhikmjmlaaModel
namespace Go.Proofs.Ytmjlijhikmjmlaa
open Go

theorem set_left {α : Type} (a b : List α) (k : Nat) (x : α) (h : k < a.length) : (a ++ b).set k x = a.set k x ++ b := by
  rw [List.set_append, if_pos h]
theorem set_right {α : Type} (a b : List α) (k : Nat) (x : α) (h : a.length ≤ k) : (a ++ b).set k x = a ++ b.set (k - a.length) x := by
  rw [List.set_append, if_neg (by omega)]
theorem set_self {a : List UInt8} {k : Nat} {x : UInt8} (hk : k < a.length) (h : a.set k x = a) : a[k] = x := by
  have := congrArg (fun l => l[k]?) h
  simp [hk] at this
  exact this.symm
theorem crc_one (p : List UInt8) (k : Nat) (x : UInt8) (hk : k < p.length) (h : crcL (p.set k x) = crcL p) : p[k] = x := by
  have e1 : p = p.take k ++ [p[k]] ++ p.drop (k + 1) := by
    rw [List.append_assoc, List.singleton_append, ← List.drop_eq_getElem_cons hk, List.take_append_drop]
  have e2 : p.set k x = p.take k ++ [x] ++ p.drop (k + 1) := by
    rw [List.set_eq_take_append_cons_drop, if_pos hk, List.append_assoc, List.singleton_append]
  rw [e2] at h
  conv at h => rhs; rw [e1]
  have := crcL_unlike (p.take k) [x] [p[k]] (p.drop (k + 1)) rfl (by simp) h
  exact (List.cons.inj this).1.symm
theorem lenW_inj {p q : List UInt8} (hp : p.length ≤ 1048577) (hq : q.length ≤ 1048577) (h : lenW q = lenW p) : q.length = p.length := by
  rw [← lenW_toNat hp, ← lenW_toNat hq, h]

/-- Whatever stands behind it. -/
theorem first_turned (p : List UInt8) (hp : p.length ≤ 1048577) (k : Nat) (x : UInt8) (hk : k < (frameL p).length) (hx : (frameL p)[k] ≠ x) (b : List UInt8) : firstL ((frameL p).set k x ++ b) = none := by
  cases hf : firstL ((frameL p).set k x ++ b) with
  | none => rfl
  | some q =>
    exfalso
    obtain ⟨hq, r, e⟩ := first_some hf
    apply hx
    refine set_self hk ?_
    have hkl := frameL_length p
    rw [hkl] at hk
    unfold frameL at e
    by_cases h4 : k < 4
    · rw [set_left _ _ _ _ (by rw [be4_length]; exact h4)] at e
      simp only [List.append_assoc] at e
      obtain ⟨e1, e2⟩ := List.append_inj e (by rw [List.length_set, be4_length, be4_length])
      obtain ⟨e3, e4⟩ := List.append_inj e2 (by rw [be4_length, be4_length])
      have hc := be4_inj e3
      have hu := crcL_unlike [] (be4 (lenW p)) (be4 (lenW q)) [] (by rw [be4_length, be4_length]) (by rw [be4_length]; omega) (by simpa using hc)
      unfold frameL
      rw [set_left _ _ _ _ (by rw [be4_length]; exact h4), e1, ← hu]
    · rw [set_right _ _ _ _ (by rw [be4_length]; omega), be4_length] at e
      have hset : (frameL p).set k x = be4 (lenW p) ++ (be4 (crcL (be4 (lenW p))) ++ (be4 (crcL p) ++ p)).set (k - 4) x := by
        unfold frameL; rw [set_right _ _ _ _ (by rw [be4_length]; omega), be4_length]
      rw [hset]
      unfold frameL
      simp only [List.append_assoc] at e
      obtain ⟨e1, e2⟩ := List.append_inj e (by rw [be4_length, be4_length])
      rw [← e1] at e2
      have hl := lenW_inj hp hq (be4_inj e1).symm
      congr 1
      by_cases h8 : k < 8
      · rw [set_left _ _ _ _ (by rw [be4_length]; omega)] at e2 ⊢
        simp only [List.append_assoc] at e2
        obtain ⟨e3, e4⟩ := List.append_inj e2 (by rw [List.length_set, be4_length])
        rw [e3]
      · rw [set_right _ _ _ _ (by rw [be4_length]; omega), be4_length] at e2 ⊢
        simp only [List.append_assoc] at e2
        have e4 := List.append_cancel_left e2
        congr 1
        by_cases h12 : k < 12
        · rw [set_left _ _ _ _ (by rw [be4_length]; omega)] at e4 ⊢
          simp only [List.append_assoc] at e4
          obtain ⟨e5, e6⟩ := List.append_inj e4 (by rw [List.length_set, be4_length, be4_length])
          obtain ⟨e7, e8⟩ := List.append_inj e6 hl.symm
          rw [e5, ← e7]
        · rw [set_right _ _ _ _ (by rw [be4_length]; omega), be4_length] at e4 ⊢
          simp only [List.append_assoc] at e4
          obtain ⟨e5, e6⟩ := List.append_inj e4 (by rw [be4_length, be4_length])
          obtain ⟨e7, e8⟩ := List.append_inj e6 (by rw [List.length_set, hl])
          have hc := be4_inj e5
          rw [← e7] at hc
          have := crc_one p (k - 4 - 4 - 4) x (by omega) hc.symm
          congr 1
          rw [← this, List.set_getElem_self]
end Go.Proofs.Ytmjlijhikmjmlaa
