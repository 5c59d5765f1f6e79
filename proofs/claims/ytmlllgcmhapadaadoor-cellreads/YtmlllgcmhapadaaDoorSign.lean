/- N as a number of eight bytes, plainly. -/
import Derived.Test.YtmlllgcmhapadaaDoorApp
namespace Go.Proofs.YtmlllgcmhapadaaDoor
open Go

theorem xor_top (m : Nat) (h : m < 2 ^ 64) : m ^^^ 2 ^ 63 = (2 ^ 63 + m) % 2 ^ 64 := by
  apply Nat.eq_of_testBit_eq
  intro i
  rw [Nat.testBit_xor, Nat.testBit_mod_two_pow, Nat.testBit_two_pow]
  rcases Nat.lt_trichotomy i 63 with hi | rfl | hi
  · rw [Nat.testBit_two_pow_add_gt hi]
    simp [show i < 64 by omega, show ¬ 63 = i by omega]
  · rw [Nat.testBit_two_pow_add_eq]
    simp
  · have h1 : m.testBit i = false := Nat.testBit_lt_two_pow (Nat.lt_of_lt_of_le h (Nat.pow_le_pow_right (by decide) (by omega)))
    simp [h1, show ¬ i < 64 by omega, show ¬ 63 = i by omega]
theorem wrapW (n : Int) : IntKind.u64.wrap n = ((numW n : Nat) : Int) := by
  unfold numW
  simp [IntKind.wrap, IntKind.bits, IntKind.signed]
  omega
theorem numW_lt (n : Int) : numW n < 18446744073709551616 := by unfold numW; omega
theorem numK_lt (n : Int) (h : n ≤ 9223372036854775807) : numK n < 18446744073709551616 := by unfold numK; omega
theorem xorK (n : Int) (h0 : -9223372036854775808 ≤ n) (h1 : n ≤ 9223372036854775807) : bits .xor .u64 (IntKind.u64.wrap n) 9223372036854775808 = ((numK n : Nat) : Int) := by
  rw [wrapW, show (9223372036854775808 : Int) = ((2 ^ 63 : Nat) : Int) by rfl, u64_xor_nat _ _ (numW_lt n) (by decide), xor_top _ (numW_lt n)]
  unfold numW numK
  omega
end Go.Proofs.YtmlllgcmhapadaaDoor
