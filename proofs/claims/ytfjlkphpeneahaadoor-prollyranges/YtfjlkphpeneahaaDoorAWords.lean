/- Words of 32 bits as the walk carries them. -/
import Derived.WalkKit
import Derived.WalkSpells
import Derived.WalkLawsBesides
import Derived.Laws.BitsAllLaws
namespace Go.Proofs.YtfjlkphpeneahaaDoor.S1
open Go

/-- A word's number. -/
def u (v : BitVec 32) : Int := (v.toNat : Int)

theorem u_def (v : BitVec 32) : u v = (v.toNat : Int) := rfl
theorem u_nonneg (v : BitVec 32) : 0 ≤ u v := Int.natCast_nonneg _
theorem u_lt (v : BitVec 32) : u v < 4294967296 := by unfold u; have := v.isLt; omega
theorem u_inj {a b : BitVec 32} (h : u a = u b) : a = b := by
  unfold u at h; exact BitVec.eq_of_toNat_eq (by omega)

theorem u_xor (a b : BitVec 32) : bits .xor .u32 (u a) (u b) = u (a ^^^ b) := by
  unfold u; rw [u32_xor_nat _ _ a.isLt b.isLt, BitVec.toNat_xor]
theorem u_and (a b : BitVec 32) : bits .and .u32 (u a) (u b) = u (a &&& b) := by
  unfold u; rw [u32_and_nat _ _ a.isLt b.isLt, BitVec.toNat_and]
theorem u_or (a b : BitVec 32) : bits .or .u32 (u a) (u b) = u (a ||| b) := by
  unfold u; rw [u32_or_nat _ _ a.isLt b.isLt, BitVec.toNat_or]
theorem u_add (a b : BitVec 32) : IntKind.u32.wrap (u a + u b) = u (a + b) := by
  unfold u; rw [IntKind.wrap_u32', BitVec.toNat_add]; omega

theorem u_not (a : BitVec 32) : (4294967295 : Int) - u a = u (~~~a) := by
  unfold u; rw [BitVec.toNat_not]; have := a.isLt; omega
theorem u_shr (a : BitVec 32) (n : Nat) : u a / 2 ^ n = u (a >>> n) := by
  unfold u; rw [BitVec.toNat_ushiftRight, Nat.shiftRight_eq_div_pow]
  simp
theorem u_shl (a : BitVec 32) (n : Nat) : IntKind.u32.wrap (u a * 2 ^ n) = u (a <<< n) := by
  unfold u; rw [IntKind.wrap_u32', BitVec.toNat_shiftLeft, Nat.shiftLeft_eq]
  simp

/-- Turned to the right. -/
def rotr (x : BitVec 32) (n : Nat) : BitVec 32 := (x >>> n) ||| (x <<< (32 - n))

end Go.Proofs.YtfjlkphpeneahaaDoor.S1
