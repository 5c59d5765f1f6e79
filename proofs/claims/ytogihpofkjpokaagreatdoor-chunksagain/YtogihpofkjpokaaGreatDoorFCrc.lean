/- CRC-32, plainly. -/
import Derived.Test.YtogihpofkjpokaaGreatDoorFWords
namespace Go.Proofs.YtogihpofkjpokaaGreatDoor.F5
open Go

/-- A byte as a word. -/
def wb (b : UInt8) : BitVec 32 := BitVec.ofNat 32 b.toNat
def poly : BitVec 32 := 3988292384#32
/-- One bit taken out. -/
def crcBit (x : BitVec 32) : BitVec 32 := (x >>> 1) ^^^ (poly &&& -(x &&& 1#32))
def crcN : Nat → BitVec 32 → BitVec 32
  | 0, x => x
  | n + 1, x => crcBit (crcN n x)
def crcStep (v : BitVec 32) (b : UInt8) : BitVec 32 := crcN 8 (v ^^^ wb b)
def crcRun (v : BitVec 32) (l : List UInt8) : BitVec 32 := l.foldl crcStep v
/-- The check sum. -/
def crcL (l : List UInt8) : BitVec 32 := ~~~(crcRun (BitVec.allOnes 32) l)

theorem u_neg (a : BitVec 32) : (-u a) % 4294967296 = u (-a) := by
  unfold u; rw [BitVec.toNat_neg]; have := a.isLt; omega
theorem u_one : (1 : Int) = u 1#32 := rfl
theorem u_poly : (3988292384 : Int) = u poly := rfl
theorem u_ones : (4294967295 : Int) = u (BitVec.allOnes 32) := rfl
theorem u_shr1 (a : BitVec 32) : u a / (2 : Int) = u (a >>> 1) := u_shr a 1
theorem crcBit_u (x : BitVec 32) : bits BinOp.xor IntKind.u32 (u x / 2) (bits BinOp.and IntKind.u32 3988292384 (-bits BinOp.and IntKind.u32 (u x) 1 % 4294967296)) = u (crcBit x) := by
  rw [u_one, u_and, u_neg, u_poly, u_and, u_shr1, u_xor]
  rfl
theorem and_one (x : BitVec 32) : x &&& 1#32 = if u x % 2 = 1 then 1#32 else 0#32 := by
  apply BitVec.eq_of_toNat_eq
  unfold u
  rw [BitVec.toNat_and]
  have h1 : (1#32).toNat = 1 := rfl
  rw [h1, Nat.and_one_is_mod]
  split <;> rename_i h
  · rw [h1]; omega
  · show x.toNat % 2 = 0; omega
theorem crcBit_odd (x : BitVec 32) (h : u x % 2 = 1) : crcBit x = (x >>> 1) ^^^ poly := by
  unfold crcBit; rw [and_one, if_pos h]; congr 1
theorem crcBit_even (x : BitVec 32) (h : ¬ u x % 2 = 1) : crcBit x = x >>> 1 := by
  unfold crcBit; rw [and_one, if_neg h]; simp
theorem crcRun_snoc (v : BitVec 32) (l : List UInt8) (b : UInt8) : crcRun v (l ++ [b]) = crcStep (crcRun v l) b := by
  simp [crcRun]
theorem take_snoc (s : ByteArray) (k : Nat) (h : k < s.size) : s.data.toList.take (k + 1) = s.data.toList.take k ++ [s[k]] := by
  rw [List.take_succ_eq_append_getElem (by simpa using h)]; rfl
theorem u_mod (a : BitVec 32) : u a % 4294967296 = u a := by have := u_nonneg a; have := u_lt a; omega
theorem u_notc (a : BitVec 32) : bits .xor .u32 (if IntKind.u32.signed = true then -1 else IntKind.u32.max) (u a) = u (~~~a) := by
  have h : (if IntKind.u32.signed = true then (-1 : Int) else IntKind.u32.max) = u (BitVec.allOnes 32) := by decide
  rw [h, u_xor, BitVec.allOnes_xor]
theorem wb_u (b : UInt8) : ((b.toNat : Nat) : Int) = u (wb b) := by
  unfold u wb; rw [BitVec.toNat_ofNat]; have := b.toNat_lt; omega

end Go.Proofs.YtogihpofkjpokaaGreatDoor.F5
