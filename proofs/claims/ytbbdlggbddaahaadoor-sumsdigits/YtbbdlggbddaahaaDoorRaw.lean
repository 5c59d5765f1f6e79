/- Digits read back, plainly. -/
import Derived.Test.YtbbdlggbddaahaaDoorOwn
namespace Go.Proofs.YtbbdlggbddaahaaDoor
open Go

/-- Is this sign a digit, and which number is it? -/
def dvOk (n : Nat) : Bool := (decide (48 ≤ n) && decide (n ≤ 57)) || (decide (97 ≤ n) && decide (n ≤ 102))
def dvN (n : Nat) : Nat := if n ≤ 57 then n - 48 else n - 87
theorem dvN_lt (n : Nat) (h : dvOk n = true) : dvN n < 16 := by
  unfold dvOk at h; unfold dvN
  simp only [Bool.or_eq_true, Bool.and_eq_true, decide_eq_true_eq] at h
  split <;> omega
def rawL : List UInt8 → Option (List UInt8)
  | [] => some []
  | [_] => none
  | a :: b :: l => if dvOk a.toNat && dvOk b.toNat then (rawL l).map (UInt8.ofNat (16 * dvN a.toNat + dvN b.toNat) :: ·) else none
theorem rawL_app (b : List UInt8) : ∀ (n : Nat) (a : List UInt8), a.length = 2 * n → rawL (a ++ b) = (rawL a).bind fun l => (rawL b).map (l ++ ·)
  | 0, a, h => by
    have : a = [] := List.length_eq_zero_iff.1 (by omega)
    subst this
    simp [rawL]
  | n + 1, a, h => by
    match a, h with
    | x :: y :: a, h =>
      have ih := rawL_app b n a (by simp at h; omega)
      show rawL (x :: y :: (a ++ b)) = _
      rw [rawL, rawL, ih]
      split
      · cases rawL a <;> cases rawL b <;> simp
      · simp
theorem rawL_len : ∀ (n : Nat) (a l : List UInt8), a.length ≤ 2 * n + 1 → rawL a = some l → a.length = 2 * l.length
  | n, [], l, _, h => by simp [rawL] at h; subst h; rfl
  | n, [_], l, _, h => by simp [rawL] at h
  | 0, x :: y :: a, l, hn, h => by simp at hn
  | n + 1, x :: y :: a, l, hn, h => by
    rw [rawL] at h
    split at h
    · cases hr : rawL a with
      | none => simp [hr] at h
      | some r =>
        simp [hr] at h
        subst h
        have := rawL_len n a r (by simp at hn; omega) hr
        simp; omega
    · cases h
theorem rawL_odd (a : List UInt8) (h : a.length % 2 ≠ 0) : rawL a = none := by
  cases hr : rawL a with
  | none => rfl
  | some l => have := rawL_len a.length a l (by omega) hr; omega
theorem hexd_ok : ∀ n : Fin 16, dvOk (hexd n.val).toNat = true ∧ dvN (hexd n.val).toNat = n.val := by decide
theorem raw_hex (l : List UInt8) : rawL (hexL l) = some l := by
  induction l with
  | nil => rfl
  | cons b l ih =>
    show rawL (hexd (b.toNat / 16) :: hexd (b.toNat % 16) :: hexL l) = _
    have hb := b.toNat_lt
    have h1 := hexd_ok ⟨b.toNat / 16, by omega⟩
    have h2 := hexd_ok ⟨b.toNat % 16, by omega⟩
    rw [rawL, h1.1, h2.1, h1.2, h2.2, ih]
    simp only [Bool.and_self, if_pos, Option.map_some, Option.some.injEq, List.cons.injEq, and_true]
    rw [show 16 * (b.toNat / 16) + b.toNat % 16 = b.toNat by omega]
    exact UInt8.ofNat_toNat
theorem take_two (s : ByteArray) (k : Nat) (h : k + 1 < s.size) : s.data.toList.take (k + 2) = s.data.toList.take k ++ [s[k]'(by omega), s[k + 1]] := by
  have h1 : k + 1 < s.data.toList.length := h
  rw [List.take_succ_eq_append_getElem h1, List.take_succ_eq_append_getElem (show k < s.data.toList.length by omega), List.append_assoc]
  rfl
/-- Two more digits. -/
theorem raw_step (s : ByteArray) (n : Nat) (l : List UInt8) (h : 2 * n + 1 < s.size) (hl : rawL (s.data.toList.take (2 * n)) = some l)
    (h1 : dvOk (s[2 * n]'(by omega)).toNat = true) (h2 : dvOk s[2 * n + 1].toNat = true) :
    rawL (s.data.toList.take (2 * (n + 1))) = some (l ++ [UInt8.ofNat (16 * dvN (s[2 * n]'(by omega)).toNat + dvN s[2 * n + 1].toNat)]) := by
  rw [show 2 * (n + 1) = 2 * n + 2 by omega, take_two s (2 * n) h, rawL_app _ n _ (by rw [List.length_take]; have : s.data.toList.length = s.size := rfl; omega), hl]
  simp [rawL, h1, h2]
theorem raw_stop (s : ByteArray) (n : Nat) (h : 2 * n + 1 < s.size) (hb : (dvOk (s[2 * n]'(by omega)).toNat && dvOk s[2 * n + 1].toNat) = false) :
    rawL s.data.toList = none := by
  have hl : s.data.toList.length = s.size := rfl
  have e : s.data.toList = s.data.toList.take (2 * n) ++ s[2 * n]'(by omega) :: s[2 * n + 1] :: s.data.toList.drop (2 * n + 2) := by
    conv => lhs; rw [← List.take_append_drop (2 * n + 2) s.data.toList, take_two s (2 * n) h]
    simp
  rw [e, rawL_app _ n _ (by rw [List.length_take]; omega), rawL, hb]
  cases rawL (List.take (2 * n) s.data.toList) <;> simp
def rawT (l : List UInt8) : ByteArray := ⟨((rawL l).getD []).toArray⟩
def rawB (l : List UInt8) : Bool := (rawL l).isSome

end Go.Proofs.YtbbdlggbddaahaaDoor
