/- The order of texts, and the document's Sorted: what it answers rises. -/
import Derived.Test.YtlgamaldngkdnaaTexts
namespace Go.Proofs.Ytlgamaldngkdnaa
open Go Go.RowKit

theorem less_irrefl : ∀ l : List UInt8, Op.bytesLess l l = false
  | [] => rfl
  | a :: l => by
    have h := less_irrefl l
    simp [Op.bytesLess, h]
theorem less_trans : ∀ a b c : List UInt8, Op.bytesLess a b = true → Op.bytesLess b c = true → Op.bytesLess a c = true
  | _, [], _, h, _ => by cases ‹List UInt8› <;> simp [Op.bytesLess] at h
  | _, _ :: _, [], _, h => by simp [Op.bytesLess] at h
  | [], _ :: _, _ :: _, _, _ => rfl
  | x :: a, y :: b, z :: c, h, k => by
    simp only [Op.bytesLess, Bool.or_eq_true, decide_eq_true_eq, Bool.and_eq_true, beq_iff_eq] at h k ⊢
    rcases h with h | ⟨rfl, h⟩
    · rcases k with k | ⟨rfl, k⟩
      · exact .inl (UInt8.lt_trans h k)
      · exact .inl h
    · rcases k with k | ⟨rfl, k⟩
      · exact .inl k
      · exact .inr ⟨rfl, less_trans a b c h k⟩
theorem less_total : ∀ a b : List UInt8, Op.bytesLess a b = false → Op.bytesLess b a = false → a = b
  | [], [], _, _ => rfl
  | [], _ :: _, h, _ => by simp [Op.bytesLess] at h
  | _ :: _, [], _, h => by simp [Op.bytesLess] at h
  | x :: a, y :: b, h, k => by
    simp only [Op.bytesLess, Bool.or_eq_false_iff, decide_eq_false_iff_not, Bool.and_eq_false_iff, beq_eq_false_iff_ne, ne_eq] at h k
    have hxy : x = y := UInt8.le_antisymm (UInt8.not_lt.1 k.1) (UInt8.not_lt.1 h.1)
    subst hxy
    rw [less_total a b (h.2.resolve_left (fun h => h rfl)) (k.2.resolve_left (fun h => h rfl))]
theorem lt_irrefl (s : ByteArray) : lt s s = false := less_irrefl _
theorem lt_trans' {a b c : ByteArray} (h : lt a b = true) (k : lt b c = true) : lt a c = true := less_trans _ _ _ h k
theorem lt_asymm {a b : ByteArray} (h : lt a b = true) : lt b a = false := by
  cases hb : lt b a with
  | false => rfl
  | true => have := lt_trans' h hb; rw [lt_irrefl] at this; cases this
/-- Not below, and below: below. -/
theorem lt_of_le_lt {a b c : ByteArray} (h : lt b a = false) (k : lt b c = true) : lt a c = true := by
  cases hac : lt a c with
  | true => rfl
  | false =>
    cases hab : lt a b with
    | true => have := lt_trans' hab k; rw [hac] at this; cases this
    | false => have := less_total _ _ hab h; unfold lt at hac k; rw [this] at hac; rw [hac] at k; cases k
theorem lt_of_lt_le {a b c : ByteArray} (h : lt a b = true) (k : lt c b = false) : lt a c = true := by
  cases hac : lt a c with
  | true => rfl
  | false =>
    cases hbc : lt b c with
    | true => have := lt_trans' h hbc; rw [hac] at this; cases this
    | false => have := less_total _ _ hbc k; unfold lt at hac h; rw [this] at h; rw [hac] at h; cases h
theorem le_def (a b : ByteArray) : (Op.bytesLess a.toList b.toList || a.toList == b.toList) = !lt b a := by
  cases hab : Op.bytesLess a.toList b.toList with
  | true =>
    have : lt b a = false := lt_asymm hab
    rw [this]; rfl
  | false =>
    cases hba : lt b a with
    | true =>
      have hne : ¬ a.toList = b.toList := fun h => by
        have h2 : Op.bytesLess b.toList a.toList = true := hba
        rw [h, less_irrefl] at h2
        cases h2
      simp [hne]
    | false =>
      have := less_total _ _ hab hba
      simp [this]

/-- The keys rise, each with each behind it. -/
def Rise (ys : List Pr) : Prop := ∀ i j, i < j → j < ys.length → lt (ky ys i) (ky ys j) = true
theorem ky_append_left (ys zs : List Pr) (i : Nat) (h : i < ys.length) : ky (ys ++ zs) i = ky ys i := by
  unfold ky; rw [List.getD_eq_getElem?_getD, List.getElem?_append_left h, List.getD_eq_getElem?_getD]
theorem ky_append_last (ys : List Pr) (x : Pr) : ky (ys ++ [x]) ys.length = x.1 := by
  unfold ky; simp [List.getD_eq_getElem?_getD]
/-- Beyond what was done: anything, where nothing was. -/
def bey (n : Nat) (d : ByteArray) (k : ByteArray) : Bool := n == 0 || lt d k
theorem rise_snoc {ys : List Pr} {x : Pr} (h : Rise ys) (hd : ys.length = 0 ∨ lt (ky ys (ys.length - 1)) x.1 = true) : Rise (ys ++ [x]) := by
  intro i j hij hj
  simp only [List.length_append, List.length_singleton] at hj
  by_cases hjl : j < ys.length
  · rw [ky_append_left _ _ _ hjl, ky_append_left _ _ _ (by omega)]; exact h i j hij hjl
  · have : j = ys.length := by omega
    subst this
    rw [ky_append_last, ky_append_left _ _ _ hij]
    rcases hd with hd | hd
    · omega
    · by_cases e : i = ys.length - 1
      · rw [e]; exact hd
      · exact lt_trans' (h i (ys.length - 1) (by omega) (by omega)) hd
theorem countP_lt {p q : Pr → Bool} (xs : List Pr) (h : ∀ x, q x = true → p x = true) (m : Nat) (hm : m < xs.length) (hp : p (ky xs m, vl xs m) = true) (hq : q (ky xs m, vl xs m) = false) : xs.countP q < xs.countP p := by
  induction xs generalizing m with
  | nil => simp at hm
  | cons y ys ih =>
    have hle : ys.countP q ≤ ys.countP p := List.countP_mono_left fun x _ => h x
    cases m with
    | zero =>
      have hp' : p y = true := hp
      have hq' : q y = false := hq
      rw [List.countP_cons_of_pos hp', List.countP_cons_of_neg (by rw [hq']; simp)]
      omega
    | succ m =>
      have := ih m (by simpa using hm) hp hq
      rw [List.countP_cons, List.countP_cons]
      by_cases hqy : q y = true
      · rw [if_pos hqy, if_pos (h y hqy)]; omega
      · rw [if_neg hqy]; split <;> omega
def strOf : Value → ByteArray | .string s => s | _ => ByteArray.empty
def lenOf : Value → Nat | .slice _ n _ => n | _ => 0
end Go.Proofs.Ytlgamaldngkdnaa
