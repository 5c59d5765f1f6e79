/- What CRC-32 keeps apart. -/
import Derived.Test.YtogihpofkjpokaaGreatDoorFCrc
namespace Go.Proofs.YtogihpofkjpokaaGreatDoor.F5
open Go

theorem odd_iff (x : BitVec 32) : u x % 2 = 1 ↔ x.getLsbD 0 = true := by
  unfold u
  rw [BitVec.getLsbD, Nat.testBit_zero]
  simp
  omega
theorem crcBit_lsb (x : BitVec 32) : crcBit x = (x >>> 1) ^^^ (if x.getLsbD 0 then poly else 0#32) := by
  by_cases h : x.getLsbD 0 = true
  · rw [crcBit_odd x ((odd_iff x).2 h), if_pos h]
  · rw [crcBit_even x (fun e => h ((odd_iff x).1 e)), if_neg h, BitVec.xor_zero]
theorem shr1_xor (x y : BitVec 32) : (x ^^^ y) >>> 1 = (x >>> 1) ^^^ (y >>> 1) := by
  apply BitVec.eq_of_getLsbD_eq
  intro i hi
  simp
theorem crcBit_xor (x y : BitVec 32) : crcBit (x ^^^ y) = crcBit x ^^^ crcBit y := by
  rw [crcBit_lsb, crcBit_lsb, crcBit_lsb, shr1_xor, BitVec.getLsbD_xor]
  generalize x >>> 1 = a
  generalize y >>> 1 = b
  have e : ∀ p : BitVec 32, (a ^^^ p) ^^^ (b ^^^ p) = a ^^^ b := fun p => by
    rw [BitVec.xor_assoc, ← BitVec.xor_assoc p b p, BitVec.xor_comm p b, BitVec.xor_assoc b p p, BitVec.xor_self, BitVec.xor_zero]
  cases x.getLsbD 0 <;> cases y.getLsbD 0
  · simp
  · simp [BitVec.xor_assoc]
  · simp only [if_pos, Bool.false_eq_true, if_neg, not_false_eq_true, BitVec.xor_zero, Bool.xor_false]
    rw [BitVec.xor_assoc, BitVec.xor_comm b poly, ← BitVec.xor_assoc]
  · simp [e]
theorem crcBit_zero (x : BitVec 32) (h : crcBit x = 0#32) : x = 0#32 := by
  rw [crcBit_lsb] at h
  by_cases hx : x.getLsbD 0 = true
  · rw [if_pos hx] at h
    have h31 := congrArg (fun v => v.getLsbD 31) h
    simp [poly] at h31
  · rw [if_neg hx, BitVec.xor_zero] at h
    apply BitVec.eq_of_getLsbD_eq
    intro i hi
    cases i with
    | zero => simpa using hx
    | succ i =>
      have h1 := congrArg (fun v => v.getLsbD i) h
      simp at h1
      rw [Nat.add_comm] at h1
      simp [h1]
theorem crcN_xor (n : Nat) (x y : BitVec 32) : crcN n (x ^^^ y) = crcN n x ^^^ crcN n y := by
  induction n with
  | zero => rfl
  | succ n ih => rw [crcN, crcN, crcN, ih, crcBit_xor]
theorem crcN_inj (n : Nat) (x y : BitVec 32) (h : crcN n x = crcN n y) : x = y := by
  have h0 : ∀ n z, crcN n z = 0#32 → z = 0#32 := fun n z hz => by
    induction n with
    | zero => exact hz
    | succ n ih => exact ih (crcBit_zero _ hz)
  have h1 : crcN n (x ^^^ y) = 0#32 := by rw [crcN_xor, h, BitVec.xor_self]
  have h2 := h0 n _ h1
  have h3 : x ^^^ y ^^^ y = 0#32 ^^^ y := by rw [h2]
  rwa [BitVec.xor_assoc, BitVec.xor_self, BitVec.xor_zero, BitVec.zero_xor] at h3
theorem crcN_add (a b : Nat) (x : BitVec 32) : crcN (a + b) x = crcN a (crcN b x) := by
  induction a with
  | zero => rw [Nat.zero_add]; rfl
  | succ a ih => rw [show a + 1 + b = (a + b) + 1 by omega, crcN, crcN, ih]
/-- What stands above the lowest bits is shifted down. -/
theorem crcN_shl (n : Nat) (y : BitVec 32) (h : ∀ i, 32 ≤ i + n → y.getLsbD i = false) : crcN n (y <<< n) = y := by
  induction n with
  | zero => show y <<< 0 = y; simp
  | succ n ih =>
    have e : crcN (n + 1) (y <<< (n + 1)) = crcN n (crcBit (y <<< (n + 1))) := crcN_add n 1 _
    have hb : crcBit (y <<< (n + 1)) = y <<< n := by
      rw [crcBit_lsb]
      have h0 : (y <<< (n + 1)).getLsbD 0 = false := by simp
      rw [h0]
      simp only [Bool.false_eq_true, if_neg, not_false_eq_true, BitVec.xor_zero]
      apply BitVec.eq_of_getLsbD_eq
      intro i hi
      simp only [BitVec.getLsbD_ushiftRight, BitVec.getLsbD_shiftLeft]
      by_cases h1 : 1 + i < 32
      · by_cases h2 : i < n
        · simp [h2, show 1 + i < n + 1 by omega]
        · simp [h2, hi, h1, show ¬ 1 + i < n + 1 by omega, show 1 + i - (n + 1) = i - n by omega]
      · have hy := h (i - n) (by omega)
        simp [h1, hy]
    rw [e, hb]
    exact ih fun i hi => h i (by omega)
/-- Bytes as one word, the first one lowest. -/
def pack : List UInt8 → BitVec 32
  | [] => 0#32
  | b :: m => wb b ^^^ (pack m <<< 8)
theorem wb_high (b : UInt8) (i : Nat) (h : 8 ≤ i) : (wb b).getLsbD i = false := by
  unfold wb
  rw [BitVec.getLsbD_ofNat]
  have : b.toNat.testBit i = false := Nat.testBit_lt_two_pow (Nat.lt_of_lt_of_le b.toNat_lt (Nat.pow_le_pow_right (by omega) h))
  simp [this]
theorem pack_high : ∀ (m : List UInt8) (i : Nat), 8 * m.length ≤ i → (pack m).getLsbD i = false
  | [], i, _ => by simp [pack]
  | b :: m, i, h => by
    have h8 : 8 ≤ i := by simp at h; omega
    have ih := pack_high m (i - 8) (by simp at h; omega)
    rw [pack, BitVec.getLsbD_xor, wb_high b i h8, BitVec.getLsbD_shiftLeft, ih]
    simp
theorem crcRun_pack : ∀ (m : List UInt8) (v : BitVec 32), m.length ≤ 4 → crcRun v m = crcN (8 * m.length) (v ^^^ pack m)
  | [], v, _ => by simp [crcRun, pack, crcN]
  | b :: m, v, h => by
    have ih := crcRun_pack m (crcN 8 (v ^^^ wb b)) (by simp at h; omega)
    have e : crcRun v (b :: m) = crcRun (crcN 8 (v ^^^ wb b)) m := rfl
    have hp : crcN 8 (pack m <<< 8) = pack m := crcN_shl 8 _ fun i hi => pack_high m i (by simp at h; omega)
    rw [e, ih]
    conv => lhs; arg 2; arg 2; rw [← hp]
    rw [← crcN_xor, ← crcN_add, BitVec.xor_assoc]
    show _ = crcN (8 * (m.length + 1)) _
    rw [show 8 * m.length + 8 = 8 * (m.length + 1) by omega]
    rfl
theorem pack_inj : ∀ (m m' : List UInt8), m.length = m'.length → m.length ≤ 4 → pack m = pack m' → m = m'
  | [], [], _, _, _ => rfl
  | b :: m, b' :: m', hl, h4, h => by
    have hb : b = b' := by
      have : wb b = wb b' := by
        apply BitVec.eq_of_getLsbD_eq
        intro i hi
        by_cases h8 : i < 8
        · have := congrArg (fun v => v.getLsbD i) h
          simpa [pack, h8] using this
        · rw [wb_high _ _ (by omega), wb_high _ _ (by omega)]
      have h2 := congrArg BitVec.toNat this
      unfold wb at h2
      rw [BitVec.toNat_ofNat, BitVec.toNat_ofNat] at h2
      have l1 := b.toNat_lt
      have l2 := b'.toNat_lt
      exact UInt8.toNat_inj.1 (by omega)
    subst hb
    have hm : pack m = pack m' := by
      apply BitVec.eq_of_getLsbD_eq
      intro i hi
      by_cases h24 : i < 24
      · have t := congrArg (fun v => v.getLsbD (i + 8)) h
        simp only [pack, BitVec.getLsbD_xor, BitVec.getLsbD_shiftLeft, wb_high b (i + 8) (by omega), Bool.false_xor, Nat.add_sub_cancel, decide_eq_true (show i + 8 < 32 by omega), decide_eq_false (show ¬ i + 8 < 8 by omega), Bool.not_false, Bool.true_and] at t
        exact t
      · rw [pack_high m i (by simp at h4; omega), pack_high m' i (by simp at h4 hl; omega)]
    rw [pack_inj m m' (by simpa using hl) (by simp at h4; omega) hm]
theorem crcRun_inj (q : List UInt8) : ∀ a b : BitVec 32, crcRun a q = crcRun b q → a = b := by
  induction q with
  | nil => exact fun _ _ h => h
  | cons c q ih =>
    intro a b h
    have h1 := ih (crcStep a c) (crcStep b c) h
    have h2 := crcN_inj 8 _ _ h1
    have h3 : a ^^^ wb c ^^^ wb c = b ^^^ wb c ^^^ wb c := by rw [h2]
    rwa [BitVec.xor_assoc, BitVec.xor_self, BitVec.xor_zero, BitVec.xor_assoc, BitVec.xor_self, BitVec.xor_zero] at h3
/-- Two texts that differ in up to four bytes side by side have unlike check sums. -/
theorem crcL_unlike (p m m' q : List UInt8) (hl : m.length = m'.length) (h4 : m.length ≤ 4) (h : crcL (p ++ m ++ q) = crcL (p ++ m' ++ q)) : m = m' := by
  unfold crcL at h
  have h1 : crcRun (BitVec.allOnes 32) (p ++ m ++ q) = crcRun (BitVec.allOnes 32) (p ++ m' ++ q) := by
    have := congrArg (fun v => ~~~v) h
    simpa using this
  have e : ∀ m : List UInt8, crcRun (BitVec.allOnes 32) (p ++ m ++ q) = crcRun (crcRun (crcRun (BitVec.allOnes 32) p) m) q := fun m => by
    simp [crcRun, List.foldl_append]
  rw [e, e] at h1
  have h2 := crcRun_inj q _ _ h1
  rw [crcRun_pack m _ h4, crcRun_pack m' _ (by omega), ← hl] at h2
  have h3 := crcN_inj _ _ _ h2
  have h4' : pack m = pack m' := by
    have := congrArg (fun v => crcRun (BitVec.allOnes 32) p ^^^ v) h3
    simpa [← BitVec.xor_assoc] using this
  exact pack_inj m m' hl h4 h4'

end Go.Proofs.YtogihpofkjpokaaGreatDoor.F5
