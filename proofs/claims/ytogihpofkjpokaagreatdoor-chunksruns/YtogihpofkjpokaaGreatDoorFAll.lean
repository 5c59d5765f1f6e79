/- Words of 32 bits as the walk carries them. CRC-32, plainly. Walks of Check. Words in four bytes, and back; the walks of word, four and number. What CRC-32 keeps apart. Frames, plainly: what a frame is, which one a text begins with, which ones it begins with. The walks of both Wraps. The walk of first. The walk of Clone. Slices of texts: read, made, grown; the walk of same. The walk of Scan. -/
import Derived.WalkKit
import Derived.WalkSpells
import Derived.WalkLawsBesides
import Derived.Laws.BitsAllLaws
import Derived.Test.YtogihpofkjpokaaGreatDoorBase
import Derived.BigQuiet
import Derived.Test.YtogihpofkjpokaaGreatDoorShelf
namespace Go.Proofs.YtogihpofkjpokaaGreatDoor.F5
open Go

/-- A word's number. -/
def u (v : BitVec 32) : Int := (v.toNat : Int)

theorem u_def (v : BitVec 32) : u v = (v.toNat : Int) := rfl
theorem u_nonneg (v : BitVec 32) : 0 ≤ u v := Int.natCast_nonneg _
theorem u_lt (v : BitVec 32) : u v < 4294967296 := by unfold u; have := v.isLt; omega
theorem u_inj {a b : BitVec 32} (h : u a = u b) : a = b := by
  unfold u at h; exact BitVec.eq_of_toNat_eq (by omega)

theorem u_xor (a b : BitVec 32) : bits .xor .u32 (u a) (u b) = u (a ^^^ b) := by
  unfold u; rw [u32_xor_nat _ _ a.isLt b.isLt, BitVec.toNat_xor]
theorem u_and (a b : BitVec 32) : bits .and .u32 (u a) (u b) = u (a &&& b) := by
  unfold u; rw [u32_and_nat _ _ a.isLt b.isLt, BitVec.toNat_and]
theorem u_or (a b : BitVec 32) : bits .or .u32 (u a) (u b) = u (a ||| b) := by
  unfold u; rw [u32_or_nat _ _ a.isLt b.isLt, BitVec.toNat_or]
theorem u_add (a b : BitVec 32) : IntKind.u32.wrap (u a + u b) = u (a + b) := by
  unfold u; rw [IntKind.wrap_u32', BitVec.toNat_add]; omega

theorem u_not (a : BitVec 32) : (4294967295 : Int) - u a = u (~~~a) := by
  unfold u; rw [BitVec.toNat_not]; have := a.isLt; omega
theorem u_shr (a : BitVec 32) (n : Nat) : u a / 2 ^ n = u (a >>> n) := by
  unfold u; rw [BitVec.toNat_ushiftRight, Nat.shiftRight_eq_div_pow]
  simp
theorem u_shl (a : BitVec 32) (n : Nat) : IntKind.u32.wrap (u a * 2 ^ n) = u (a <<< n) := by
  unfold u; rw [IntKind.wrap_u32', BitVec.toNat_shiftLeft, Nat.shiftLeft_eq]
  simp

/-- Turned to the right. -/
def rotr (x : BitVec 32) (n : Nat) : BitVec 32 := (x >>> n) ||| (x <<< (32 - n))

end Go.Proofs.YtogihpofkjpokaaGreatDoor.F5
namespace Go.Proofs.YtogihpofkjpokaaGreatDoor.F5
open Go

/-- A byte as a word. -/
def wb (b : UInt8) : BitVec 32 := BitVec.ofNat 32 b.toNat
def poly : BitVec 32 := 3988292384#32
/-- One bit taken out. -/
def crcBit (x : BitVec 32) : BitVec 32 := (x >>> 1) ^^^ (poly &&& -(x &&& 1#32))
def crcN : Nat → BitVec 32 → BitVec 32
  | 0, x => x
  | n + 1, x => crcBit (crcN n x)
def crcStep (v : BitVec 32) (b : UInt8) : BitVec 32 := crcN 8 (v ^^^ wb b)
def crcRun (v : BitVec 32) (l : List UInt8) : BitVec 32 := l.foldl crcStep v
/-- The check sum. -/
def crcL (l : List UInt8) : BitVec 32 := ~~~(crcRun (BitVec.allOnes 32) l)

theorem u_neg (a : BitVec 32) : (-u a) % 4294967296 = u (-a) := by
  unfold u; rw [BitVec.toNat_neg]; have := a.isLt; omega
theorem u_one : (1 : Int) = u 1#32 := rfl
theorem u_poly : (3988292384 : Int) = u poly := rfl
theorem u_ones : (4294967295 : Int) = u (BitVec.allOnes 32) := rfl
theorem u_shr1 (a : BitVec 32) : u a / (2 : Int) = u (a >>> 1) := u_shr a 1
theorem crcBit_u (x : BitVec 32) : bits BinOp.xor IntKind.u32 (u x / 2) (bits BinOp.and IntKind.u32 3988292384 (-bits BinOp.and IntKind.u32 (u x) 1 % 4294967296)) = u (crcBit x) := by
  rw [u_one, u_and, u_neg, u_poly, u_and, u_shr1, u_xor]
  rfl
theorem and_one (x : BitVec 32) : x &&& 1#32 = if u x % 2 = 1 then 1#32 else 0#32 := by
  apply BitVec.eq_of_toNat_eq
  unfold u
  rw [BitVec.toNat_and]
  have h1 : (1#32).toNat = 1 := rfl
  rw [h1, Nat.and_one_is_mod]
  split <;> rename_i h
  · rw [h1]; omega
  · show x.toNat % 2 = 0; omega
theorem crcBit_odd (x : BitVec 32) (h : u x % 2 = 1) : crcBit x = (x >>> 1) ^^^ poly := by
  unfold crcBit; rw [and_one, if_pos h]; congr 1
theorem crcBit_even (x : BitVec 32) (h : ¬ u x % 2 = 1) : crcBit x = x >>> 1 := by
  unfold crcBit; rw [and_one, if_neg h]; simp
theorem crcRun_snoc (v : BitVec 32) (l : List UInt8) (b : UInt8) : crcRun v (l ++ [b]) = crcStep (crcRun v l) b := by
  simp [crcRun]
theorem take_snoc (s : ByteArray) (k : Nat) (h : k < s.size) : s.data.toList.take (k + 1) = s.data.toList.take k ++ [s[k]] := by
  rw [List.take_succ_eq_append_getElem (by simpa using h)]; rfl
theorem u_mod (a : BitVec 32) : u a % 4294967296 = u a := by have := u_nonneg a; have := u_lt a; omega
theorem u_notc (a : BitVec 32) : bits .xor .u32 (if IntKind.u32.signed = true then -1 else IntKind.u32.max) (u a) = u (~~~a) := by
  have h : (if IntKind.u32.signed = true then (-1 : Int) else IntKind.u32.max) = u (BitVec.allOnes 32) := by decide
  rw [h, u_xor, BitVec.allOnes_xor]
theorem wb_u (b : UInt8) : ((b.toNat : Nat) : Int) = u (wb b) := by
  unfold u wb; rw [BitVec.toNat_ofNat]; have := b.toNat_lt; omega

end Go.Proofs.YtogihpofkjpokaaGreatDoor.F5
namespace Go.Proofs.YtogihpofkjpokaaGreatDoor.F5
open Go.RowKit

theorem ret_i {k : IntKind} {a b : Int} (h : a = b) : Ending.returned (.int k a) = .returned (.int k b) := by rw [h]
set_option maxHeartbeats 400000 in
theorem step_any (v : BitVec 32) (w : World) :
    Calls Tryz.prog 94 #[.int .u32 (u v)] w fun e w' => e = .returned (.int .u32 (u (crcN 8 v))) ∧ w = w' := by
  go_enter Tryz.func94, Tryz.ntmps94
  go_wp2
  go_loop [0, 4] (fun s i => ∃ k : Nat, ∃ x : BitVec 32, k ≤ 8 ∧ i = .int .i64 k ∧ s = .int .u32 (u x) ∧ Hid (x = crcN k v)) (fun _ i => 8 - (intOf i).toNat)
  case atStart => exact ⟨0, v, Nat.zero_le _, rfl, rfl, Lib.hid rfl⟩
  case round =>
    obtain ⟨k, x, hk, rfl, rfl, hx⟩ := hrel
    by_cases hlt : k < 8
    · go_wp2
      go_round
      case rel => exact ⟨k + 1, crcBit x, by omega, by go_num, by rw [crcBit_u], Lib.hid (by rw [crcN, hx.out])⟩
      case measure => simp [intOf]; omega
    · go_wp2
      go_ret
      exact ⟨ret_i (by rw [hx.out, show k = 8 by omega]), rfl⟩

set_option maxHeartbeats 400000 in
theorem check_any (s : ByteArray) (w : World) (hs : s.size ≤ maxLen) :
    Calls Tryz.prog 76 #[.string s] w fun e w' => e = .returned (.int .u32 (u (crcL s.data.toList))) ∧ w = w' := by
  unfold maxLen at hs
  go_enter Tryz.func76, Tryz.ntmps76
  go_wp2
  go_loop [3, 7] (fun v i => ∃ k : Nat, ∃ x : BitVec 32, k ≤ s.size ∧ i = .int .i64 k ∧ v = .int .u32 (u x) ∧ Hid (x = crcRun (BitVec.allOnes 32) (s.data.toList.take k))) (fun _ i => s.size - (intOf i).toNat)
  case atStart => exact ⟨0, BitVec.allOnes 32, Nat.zero_le _, rfl, rfl, Lib.hid rfl⟩
  case round =>
    obtain ⟨k, x, hk, rfl, rfl, hx⟩ := hrel
    by_cases hlt : k < s.size
    · have hb := wb_u
      have hxo := u_xor
      have hmo := u_mod
      go_wp2_with (go_at_call 94; refine (step_any _ _).mono ?_; rintro e w' ⟨rfl, rfl⟩)
      go_round
      case rel => exact ⟨k + 1, _, by omega, by go_num, rfl, Lib.hid (by rw [take_snoc s k hlt, crcRun_snoc, ← hx.out]; rfl)⟩
      case measure => simp [intOf]; omega
    · have hn := u_notc
      go_wp2
      go_ret
      exact ⟨ret_i (by rw [hx.out, List.take_of_length_le (by simp; omega)]; rfl), rfl⟩
end Go.Proofs.YtogihpofkjpokaaGreatDoor.F5
namespace Go.Proofs.YtogihpofkjpokaaGreatDoor.F5
open Go Go.RowKit

/-- Byte i of a word, the highest first. -/
def wbyte (x : BitVec 32) (i : Nat) : UInt8 := UInt8.ofNat (x.toNat / 2 ^ (24 - 8 * i))
theorem wbyte_toNat (x : BitVec 32) (i : Nat) : ((wbyte x i).toNat : Int) = u x / 2 ^ (24 - 8 * i) % 256 := by
  unfold wbyte u
  rw [UInt8.toNat_ofNat']
  simp
/-- A word's four bytes. -/
def be4 (x : BitVec 32) : List UInt8 := [wbyte x 0, wbyte x 1, wbyte x 2, wbyte x 3]
/-- The word of four bytes. -/
def w4 (a b c d : UInt8) : BitVec 32 := (wb a <<< 24) ||| (wb b <<< 16) ||| (wb c <<< 8) ||| wb d
theorem run_index (s : ByteArray) (k : IntKind) (i : Int) (n : Nat) (hi : i = (n : Int)) (b : UInt8) (h : s[n]? = some b) (w : World) :
    (Instr.index 9 (.string s) (.int k i)).run Tryz.prog w = .ok (.int .u8 (b.toNat : Int)) w := by
  subst hi
  simp only [Instr.index, asIntOf, Sem.run_bind, Sem.run_pure, Result.andThen_ok, run_underlying Tryz.underlying9]
  rw [if_pos (Int.natCast_nonneg n), Int.toNat_natCast, h]
  rfl

theorem b0_u (v : BitVec 32) : u v / (16777216 : Int) = ((wbyte v 0).toNat : Int) := by
  rw [wbyte_toNat]
  have h0 := u_nonneg v
  have h1 := u_lt v
  show _ = u v / 16777216 % 256
  omega
theorem b1_u (v : BitVec 32) : u v / (65536 : Int) % 256 = ((wbyte v 1).toNat : Int) := by rw [wbyte_toNat]; rfl
theorem b2_u (v : BitVec 32) : u v / (256 : Int) % 256 = ((wbyte v 2).toNat : Int) := by rw [wbyte_toNat]; rfl
theorem b3_u (v : BitVec 32) : u v % 256 = ((wbyte v 3).toNat : Int) := by rw [wbyte_toNat]; simp
theorem be4_run (v : BitVec 32) (w : World) : (convert 110 9 (.slice (some ⟨w.heap.size, 0, none⟩) 4 4)).run Tryz.prog
    (w.alloc (.cells #[.int .u8 (u v / 16777216), .int .u8 (u v / 65536 % 256), .int .u8 (u v / 256 % 256), .int .u8 (u v % 256)] 5)) =
    .ok (.string ⟨(be4 v).toArray⟩) (w.alloc (.cells #[.int .u8 (u v / 16777216), .int .u8 (u v / 65536 % 256), .int .u8 (u v / 256 % 256), .int .u8 (u v % 256)] 5)) := by
  rw [b0_u, b1_u, b2_u, b3_u]
  refine run_convert_bytes_back _ 110 9 5 ⟨w.heap.size, 0, none⟩ 4 (be4 v) Tryz.underlying110 Tryz.underlying5 Tryz.underlying9 ?_
  intro j hj
  rw [add0, cell_of_row _ _ _ _ _ _ (heap_alloc_new _ _)]
  match j, hj with
  | 0, _ => rfl
  | 1, _ => rfl
  | 2, _ => rfl
  | 3, _ => rfl

set_option maxRecDepth 100000 in
set_option maxHeartbeats 400000 in
theorem word_any (v : BitVec 32) (w : World) :
    Calls Tryz.prog 101 #[.int .u32 (u v)] w fun e w' => e = .returned (.string ⟨(be4 v).toArray⟩) ∧ Below w.heap.size w w' := by
  have h0 := u_nonneg v
  have h1 := u_lt v
  have hc := be4_run v w
  go_enter Tryz.func101, Tryz.ntmps101
  go_wp2
  go_ret
  exact ⟨rfl, (Below.refl _ _).alloc (Nat.le_refl _) _⟩
theorem u_shl24 (a : BitVec 32) : u a % (4294967296 : Int) * (16777216 : Int) % (4294967296 : Int) = u (a <<< 24) := by
  have := u_shl a 24
  rw [IntKind.wrap_u32'] at this
  rw [u_mod, ← this]
  rfl
theorem u_shl16 (a : BitVec 32) : u a % (4294967296 : Int) * (65536 : Int) % (4294967296 : Int) = u (a <<< 16) := by
  have := u_shl a 16
  rw [IntKind.wrap_u32'] at this
  rw [u_mod, ← this]
  rfl
theorem u_shl8 (a : BitVec 32) : u a % (4294967296 : Int) * (256 : Int) % (4294967296 : Int) = u (a <<< 8) := by
  have := u_shl a 8
  rw [IntKind.wrap_u32'] at this
  rw [u_mod, ← this]
  rfl
set_option maxRecDepth 100000 in
set_option maxHeartbeats 400000 in
theorem number_any (s : ByteArray) (b0 b1 b2 b3 : UInt8) (h0 : s[0]? = some b0) (h1 : s[1]? = some b1) (h2 : s[2]? = some b2) (h3 : s[3]? = some b3) (w : World) :
    Calls Tryz.prog 93 #[.string s] w fun e w' => e = .returned (.int .u32 (u (w4 b0 b1 b2 b3))) ∧ ∃ m, w' = w.drewN m := by
  have r0 := run_index s .i64 0 0 rfl b0 h0
  have r1 := run_index s .i64 1 1 rfl b1 h1
  have r2 := run_index s .i64 2 2 rfl b2 h2
  have r3 := run_index s .i64 3 3 rfl b3 h3
  clear h0 h1 h2 h3
  have hb := wb_u
  go_enter Tryz.func93, Tryz.ntmps93
  go_wp2
  go_big_quiet (fail)
  rw [u_shl24, u_shl16, u_shl8, u_mod, u_or, u_or, u_or]
  go_wp2
  go_ret
  exact ⟨rfl, nq, rfl⟩

theorem w4_toNat (a b c d : UInt8) : (w4 a b c d).toNat = a.toNat * 16777216 + b.toNat * 65536 + c.toNat * 256 + d.toNat := by
  have ha := a.toNat_lt
  have hb := b.toNat_lt
  have hc := c.toNat_lt
  have hd := d.toNat_lt
  have hw : ∀ x : UInt8, (wb x).toNat = x.toNat := fun x => by
    unfold wb; rw [BitVec.toNat_ofNat]; have := x.toNat_lt; omega
  unfold w4
  rw [BitVec.toNat_or, BitVec.toNat_or, BitVec.toNat_or, BitVec.toNat_shiftLeft, BitVec.toNat_shiftLeft, BitVec.toNat_shiftLeft, hw, hw, hw, hw, Nat.shiftLeft_eq, Nat.shiftLeft_eq, Nat.shiftLeft_eq]
  rw [Nat.mod_eq_of_lt (by omega), Nat.mod_eq_of_lt (by omega), Nat.mod_eq_of_lt (by omega)]
  have e1 : a.toNat * 2 ^ 24 ||| b.toNat * 2 ^ 16 = 2 ^ 16 * (a.toNat * 256 + b.toNat) := by
    have := Nat.two_pow_add_eq_or_of_lt (i := 24) (show b.toNat * 2 ^ 16 < 2 ^ 24 by omega) a.toNat
    rw [Nat.mul_comm a.toNat, ← this]; omega
  have e2 : 2 ^ 16 * (a.toNat * 256 + b.toNat) ||| c.toNat * 2 ^ 8 = 2 ^ 8 * ((a.toNat * 256 + b.toNat) * 256 + c.toNat) := by
    have := Nat.two_pow_add_eq_or_of_lt (i := 16) (show c.toNat * 2 ^ 8 < 2 ^ 16 by omega) (a.toNat * 256 + b.toNat)
    rw [← this]; omega
  have e3 : 2 ^ 8 * ((a.toNat * 256 + b.toNat) * 256 + c.toNat) ||| d.toNat = 2 ^ 8 * ((a.toNat * 256 + b.toNat) * 256 + c.toNat) + d.toNat :=
    (Nat.two_pow_add_eq_or_of_lt (i := 8) (show d.toNat < 2 ^ 8 by omega) _).symm
  rw [e1, e2, e3]
  omega
theorem wbyte_nat (x : BitVec 32) (i : Nat) : (wbyte x i).toNat = x.toNat / 2 ^ (24 - 8 * i) % 256 := by
  unfold wbyte; rw [UInt8.toNat_ofNat']
theorem w4_be4 (x : BitVec 32) : w4 (wbyte x 0) (wbyte x 1) (wbyte x 2) (wbyte x 3) = x := by
  apply BitVec.eq_of_toNat_eq
  rw [w4_toNat, wbyte_nat, wbyte_nat, wbyte_nat, wbyte_nat]
  have := x.isLt
  simp only [Nat.mul_zero, Nat.sub_zero, Nat.mul_one, show 24 - 8 = 16 from rfl, show 24 - 8 * 2 = 8 from rfl, show 24 - 8 * 3 = 0 from rfl, Nat.pow_zero, Nat.div_one]
  omega
theorem be4_w4 (a b c d : UInt8) : be4 (w4 a b c d) = [a, b, c, d] := by
  have ha := a.toNat_lt
  have hb := b.toNat_lt
  have hc := c.toNat_lt
  have hd := d.toNat_lt
  have e := w4_toNat a b c d
  have f : ∀ i (z : UInt8), (w4 a b c d).toNat / 2 ^ (24 - 8 * i) % 256 = z.toNat → wbyte (w4 a b c d) i = z := fun i z h => UInt8.toNat_inj.1 (by rw [wbyte_nat, h])
  unfold be4
  rw [f 0 a (by rw [e]; simp only [Nat.mul_zero, Nat.sub_zero]; omega), f 1 b (by rw [e]; simp only [Nat.mul_one, show 24 - 8 = 16 from rfl]; omega), f 2 c (by rw [e]; simp only [show 24 - 8 * 2 = 8 from rfl]; omega), f 3 d (by rw [e]; simp only [show 24 - 8 * 3 = 0 from rfl]; omega)]
end Go.Proofs.YtogihpofkjpokaaGreatDoor.F5
namespace Go.Proofs.YtogihpofkjpokaaGreatDoor.F5
open Go

theorem odd_iff (x : BitVec 32) : u x % 2 = 1 ↔ x.getLsbD 0 = true := by
  unfold u
  rw [BitVec.getLsbD, Nat.testBit_zero]
  simp
  omega
theorem crcBit_lsb (x : BitVec 32) : crcBit x = (x >>> 1) ^^^ (if x.getLsbD 0 then poly else 0#32) := by
  by_cases h : x.getLsbD 0 = true
  · rw [crcBit_odd x ((odd_iff x).2 h), if_pos h]
  · rw [crcBit_even x (fun e => h ((odd_iff x).1 e)), if_neg h, BitVec.xor_zero]
theorem shr1_xor (x y : BitVec 32) : (x ^^^ y) >>> 1 = (x >>> 1) ^^^ (y >>> 1) := by
  apply BitVec.eq_of_getLsbD_eq
  intro i hi
  simp
theorem crcBit_xor (x y : BitVec 32) : crcBit (x ^^^ y) = crcBit x ^^^ crcBit y := by
  rw [crcBit_lsb, crcBit_lsb, crcBit_lsb, shr1_xor, BitVec.getLsbD_xor]
  generalize x >>> 1 = a
  generalize y >>> 1 = b
  have e : ∀ p : BitVec 32, (a ^^^ p) ^^^ (b ^^^ p) = a ^^^ b := fun p => by
    rw [BitVec.xor_assoc, ← BitVec.xor_assoc p b p, BitVec.xor_comm p b, BitVec.xor_assoc b p p, BitVec.xor_self, BitVec.xor_zero]
  cases x.getLsbD 0 <;> cases y.getLsbD 0
  · simp
  · simp [BitVec.xor_assoc]
  · simp only [if_pos, Bool.false_eq_true, if_neg, not_false_eq_true, BitVec.xor_zero, Bool.xor_false]
    rw [BitVec.xor_assoc, BitVec.xor_comm b poly, ← BitVec.xor_assoc]
  · simp [e]
theorem crcBit_zero (x : BitVec 32) (h : crcBit x = 0#32) : x = 0#32 := by
  rw [crcBit_lsb] at h
  by_cases hx : x.getLsbD 0 = true
  · rw [if_pos hx] at h
    have h31 := congrArg (fun v => v.getLsbD 31) h
    simp [poly] at h31
  · rw [if_neg hx, BitVec.xor_zero] at h
    apply BitVec.eq_of_getLsbD_eq
    intro i hi
    cases i with
    | zero => simpa using hx
    | succ i =>
      have h1 := congrArg (fun v => v.getLsbD i) h
      simp at h1
      rw [Nat.add_comm] at h1
      simp [h1]
theorem crcN_xor (n : Nat) (x y : BitVec 32) : crcN n (x ^^^ y) = crcN n x ^^^ crcN n y := by
  induction n with
  | zero => rfl
  | succ n ih => rw [crcN, crcN, crcN, ih, crcBit_xor]
theorem crcN_inj (n : Nat) (x y : BitVec 32) (h : crcN n x = crcN n y) : x = y := by
  have h0 : ∀ n z, crcN n z = 0#32 → z = 0#32 := fun n z hz => by
    induction n with
    | zero => exact hz
    | succ n ih => exact ih (crcBit_zero _ hz)
  have h1 : crcN n (x ^^^ y) = 0#32 := by rw [crcN_xor, h, BitVec.xor_self]
  have h2 := h0 n _ h1
  have h3 : x ^^^ y ^^^ y = 0#32 ^^^ y := by rw [h2]
  rwa [BitVec.xor_assoc, BitVec.xor_self, BitVec.xor_zero, BitVec.zero_xor] at h3
theorem crcN_add (a b : Nat) (x : BitVec 32) : crcN (a + b) x = crcN a (crcN b x) := by
  induction a with
  | zero => rw [Nat.zero_add]; rfl
  | succ a ih => rw [show a + 1 + b = (a + b) + 1 by omega, crcN, crcN, ih]
/-- What stands above the lowest bits is shifted down. -/
theorem crcN_shl (n : Nat) (y : BitVec 32) (h : ∀ i, 32 ≤ i + n → y.getLsbD i = false) : crcN n (y <<< n) = y := by
  induction n with
  | zero => show y <<< 0 = y; simp
  | succ n ih =>
    have e : crcN (n + 1) (y <<< (n + 1)) = crcN n (crcBit (y <<< (n + 1))) := crcN_add n 1 _
    have hb : crcBit (y <<< (n + 1)) = y <<< n := by
      rw [crcBit_lsb]
      have h0 : (y <<< (n + 1)).getLsbD 0 = false := by simp
      rw [h0]
      simp only [Bool.false_eq_true, if_neg, not_false_eq_true, BitVec.xor_zero]
      apply BitVec.eq_of_getLsbD_eq
      intro i hi
      simp only [BitVec.getLsbD_ushiftRight, BitVec.getLsbD_shiftLeft]
      by_cases h1 : 1 + i < 32
      · by_cases h2 : i < n
        · simp [h2, show 1 + i < n + 1 by omega]
        · simp [h2, hi, h1, show ¬ 1 + i < n + 1 by omega, show 1 + i - (n + 1) = i - n by omega]
      · have hy := h (i - n) (by omega)
        simp [h1, hy]
    rw [e, hb]
    exact ih fun i hi => h i (by omega)
/-- Bytes as one word, the first one lowest. -/
def pack : List UInt8 → BitVec 32
  | [] => 0#32
  | b :: m => wb b ^^^ (pack m <<< 8)
theorem wb_high (b : UInt8) (i : Nat) (h : 8 ≤ i) : (wb b).getLsbD i = false := by
  unfold wb
  rw [BitVec.getLsbD_ofNat]
  have : b.toNat.testBit i = false := Nat.testBit_lt_two_pow (Nat.lt_of_lt_of_le b.toNat_lt (Nat.pow_le_pow_right (by omega) h))
  simp [this]
theorem pack_high : ∀ (m : List UInt8) (i : Nat), 8 * m.length ≤ i → (pack m).getLsbD i = false
  | [], i, _ => by simp [pack]
  | b :: m, i, h => by
    have h8 : 8 ≤ i := by simp at h; omega
    have ih := pack_high m (i - 8) (by simp at h; omega)
    rw [pack, BitVec.getLsbD_xor, wb_high b i h8, BitVec.getLsbD_shiftLeft, ih]
    simp
theorem crcRun_pack : ∀ (m : List UInt8) (v : BitVec 32), m.length ≤ 4 → crcRun v m = crcN (8 * m.length) (v ^^^ pack m)
  | [], v, _ => by simp [crcRun, pack, crcN]
  | b :: m, v, h => by
    have ih := crcRun_pack m (crcN 8 (v ^^^ wb b)) (by simp at h; omega)
    have e : crcRun v (b :: m) = crcRun (crcN 8 (v ^^^ wb b)) m := rfl
    have hp : crcN 8 (pack m <<< 8) = pack m := crcN_shl 8 _ fun i hi => pack_high m i (by simp at h; omega)
    rw [e, ih]
    conv => lhs; arg 2; arg 2; rw [← hp]
    rw [← crcN_xor, ← crcN_add, BitVec.xor_assoc]
    show _ = crcN (8 * (m.length + 1)) _
    rw [show 8 * m.length + 8 = 8 * (m.length + 1) by omega]
    rfl
theorem pack_inj : ∀ (m m' : List UInt8), m.length = m'.length → m.length ≤ 4 → pack m = pack m' → m = m'
  | [], [], _, _, _ => rfl
  | b :: m, b' :: m', hl, h4, h => by
    have hb : b = b' := by
      have : wb b = wb b' := by
        apply BitVec.eq_of_getLsbD_eq
        intro i hi
        by_cases h8 : i < 8
        · have := congrArg (fun v => v.getLsbD i) h
          simpa [pack, h8] using this
        · rw [wb_high _ _ (by omega), wb_high _ _ (by omega)]
      have h2 := congrArg BitVec.toNat this
      unfold wb at h2
      rw [BitVec.toNat_ofNat, BitVec.toNat_ofNat] at h2
      have l1 := b.toNat_lt
      have l2 := b'.toNat_lt
      exact UInt8.toNat_inj.1 (by omega)
    subst hb
    have hm : pack m = pack m' := by
      apply BitVec.eq_of_getLsbD_eq
      intro i hi
      by_cases h24 : i < 24
      · have t := congrArg (fun v => v.getLsbD (i + 8)) h
        simp only [pack, BitVec.getLsbD_xor, BitVec.getLsbD_shiftLeft, wb_high b (i + 8) (by omega), Bool.false_xor, Nat.add_sub_cancel, decide_eq_true (show i + 8 < 32 by omega), decide_eq_false (show ¬ i + 8 < 8 by omega), Bool.not_false, Bool.true_and] at t
        exact t
      · rw [pack_high m i (by simp at h4; omega), pack_high m' i (by simp at h4 hl; omega)]
    rw [pack_inj m m' (by simpa using hl) (by simp at h4; omega) hm]
theorem crcRun_inj (q : List UInt8) : ∀ a b : BitVec 32, crcRun a q = crcRun b q → a = b := by
  induction q with
  | nil => exact fun _ _ h => h
  | cons c q ih =>
    intro a b h
    have h1 := ih (crcStep a c) (crcStep b c) h
    have h2 := crcN_inj 8 _ _ h1
    have h3 : a ^^^ wb c ^^^ wb c = b ^^^ wb c ^^^ wb c := by rw [h2]
    rwa [BitVec.xor_assoc, BitVec.xor_self, BitVec.xor_zero, BitVec.xor_assoc, BitVec.xor_self, BitVec.xor_zero] at h3
/-- Two texts that differ in up to four bytes side by side have unlike check sums. -/
theorem crcL_unlike (p m m' q : List UInt8) (hl : m.length = m'.length) (h4 : m.length ≤ 4) (h : crcL (p ++ m ++ q) = crcL (p ++ m' ++ q)) : m = m' := by
  unfold crcL at h
  have h1 : crcRun (BitVec.allOnes 32) (p ++ m ++ q) = crcRun (BitVec.allOnes 32) (p ++ m' ++ q) := by
    have := congrArg (fun v => ~~~v) h
    simpa using this
  have e : ∀ m : List UInt8, crcRun (BitVec.allOnes 32) (p ++ m ++ q) = crcRun (crcRun (crcRun (BitVec.allOnes 32) p) m) q := fun m => by
    simp [crcRun, List.foldl_append]
  rw [e, e] at h1
  have h2 := crcRun_inj q _ _ h1
  rw [crcRun_pack m _ h4, crcRun_pack m' _ (by omega), ← hl] at h2
  have h3 := crcN_inj _ _ _ h2
  have h4' : pack m = pack m' := by
    have := congrArg (fun v => crcRun (BitVec.allOnes 32) p ^^^ v) h3
    simpa [← BitVec.xor_assoc] using this
  exact pack_inj m m' hl h4 h4'

end Go.Proofs.YtogihpofkjpokaaGreatDoor.F5
namespace Go.Proofs.YtogihpofkjpokaaGreatDoor.F5
open Go

/-- The number in the first four bytes. -/
def num4 (l : List UInt8) : BitVec 32 := w4 (l.getD 0 0) (l.getD 1 0) (l.getD 2 0) (l.getD 3 0)
/-- A payload's length as a word. -/
def lenW (p : List UInt8) : BitVec 32 := BitVec.ofNat 32 p.length
/-- A payload's frame. -/
def frameL (p : List UInt8) : List UInt8 := be4 (lenW p) ++ (be4 (crcL (be4 (lenW p))) ++ (be4 (crcL p) ++ p))
/-- The payload of the frame that a text begins with. -/
def firstL (s : List UInt8) : Option (List UInt8) :=
  if s.length < 12 then none
  else if 1048577 < (num4 s).toNat then none
  else if num4 (s.drop 4) ≠ crcL (s.take 4) then none
  else if s.length - 12 < (num4 s).toNat then none
  else if num4 (s.drop 8) ≠ crcL ((s.drop 12).take (num4 s).toNat) then none
  else some ((s.drop 12).take (num4 s).toNat)
def flat (xs : List (List UInt8)) : List UInt8 := xs.flatMap frameL
/-- xs are the payloads of the frames that s begins with. -/
def Scanned (s : List UInt8) (xs : List (List UInt8)) : Prop := ∃ r, s = flat xs ++ r ∧ firstL r = none ∧ ∀ x ∈ xs, x.length ≤ 1048577

theorem be4_length (v : BitVec 32) : (be4 v).length = 4 := rfl
theorem num4_be4 (v : BitVec 32) (r : List UInt8) : num4 (be4 v ++ r) = v := w4_be4 v
theorem be4_num4 {l : List UInt8} (h : 4 ≤ l.length) : be4 (num4 l) = l.take 4 := by
  match l, h with
  | a :: b :: c :: d :: l, _ => unfold num4; rw [be4_w4]; rfl
theorem be4_inj {v v' : BitVec 32} (h : be4 v = be4 v') : v = v' := by
  rw [← num4_be4 v [], h, num4_be4]
theorem frameL_length (p : List UInt8) : (frameL p).length = 12 + p.length := by
  unfold frameL; simp only [List.length_append, be4_length]; omega
theorem lenW_toNat {p : List UInt8} (h : p.length ≤ 1048577) : (lenW p).toNat = p.length := by
  unfold lenW; rw [BitVec.toNat_ofNat]; omega
theorem flat_cons (x : List UInt8) (xs : List (List UInt8)) : flat (x :: xs) = frameL x ++ flat xs := by simp [flat]
theorem flat_nil : flat [] = [] := rfl
theorem flat_append (xs ys : List (List UInt8)) : flat (xs ++ ys) = flat xs ++ flat ys := by simp [flat]
theorem flat_snoc (xs : List (List UInt8)) (x : List UInt8) : flat (xs ++ [x]) = flat xs ++ frameL x := by simp [flat]
theorem drop_app {a b : List UInt8} {n : Nat} (h : a.length = n) : (a ++ b).drop n = b := by subst h; simp
theorem take_app {a b : List UInt8} {n : Nat} (h : a.length = n) : (a ++ b).take n = a := by subst h; simp

/-- A frame is told, whatever stands behind it. -/
theorem first_frame (p r : List UInt8) (h : p.length ≤ 1048577) : firstL (frameL p ++ r) = some p := by
  have e : frameL p ++ r = be4 (lenW p) ++ (be4 (crcL (be4 (lenW p))) ++ (be4 (crcL p) ++ (p ++ r))) := by
    unfold frameL; simp only [List.append_assoc]
  have hl : (frameL p ++ r).length = 12 + p.length + r.length := by rw [List.length_append, frameL_length]
  unfold firstL
  rw [if_neg (by omega)]
  rw [hl]
  rw [e, num4_be4, lenW_toNat h, if_neg (by omega), drop_app (n := 4) (be4_length _), take_app (n := 4) (be4_length _), num4_be4, if_neg (by simp), if_neg (by omega)]
  have d8 : (be4 (lenW p) ++ (be4 (crcL (be4 (lenW p))) ++ (be4 (crcL p) ++ (p ++ r)))).drop 8 = be4 (crcL p) ++ (p ++ r) := by
    rw [← List.append_assoc, drop_app (by rw [List.length_append, be4_length, be4_length])]
  have d12 : (be4 (lenW p) ++ (be4 (crcL (be4 (lenW p))) ++ (be4 (crcL p) ++ (p ++ r)))).drop 12 = p ++ r := by
    rw [← List.append_assoc, ← List.append_assoc, drop_app (by rw [List.length_append, List.length_append, be4_length, be4_length, be4_length])]
  rw [d8, d12, num4_be4, take_app rfl, if_neg (by simp)]
/-- What is told is a frame that stands there. -/
theorem first_some {s p : List UInt8} (h : firstL s = some p) : p.length ≤ 1048577 ∧ ∃ r, s = frameL p ++ r := by
  unfold firstL at h
  split at h
  · cases h
  · rename_i h1
    split at h
    · cases h
    · rename_i h2
      split at h
      · cases h
      · rename_i h3
        split at h
        · cases h
        · rename_i h4
          split at h
          · cases h
          · rename_i h5
            have hp := Option.some.inj h
            have hl : p.length = (num4 s).toNat := by rw [← hp, List.length_take, List.length_drop]; omega
            refine ⟨by omega, (s.drop 12).drop p.length, ?_⟩
            have hn : lenW p = num4 s := by unfold lenW; rw [hl]; simp
            have e0 : be4 (lenW p) = s.take 4 := by rw [hn, be4_num4 (by omega)]
            have e1 : be4 (crcL (be4 (lenW p))) = (s.drop 4).take 4 := by rw [e0, ← Decidable.of_not_not h3, be4_num4 (by rw [List.length_drop]; omega)]
            have e2 : be4 (crcL p) = (s.drop 8).take 4 := by rw [← hp, ← Decidable.of_not_not h5, be4_num4 (by rw [List.length_drop]; omega)]
            unfold frameL
            have a1 : s = s.take 4 ++ s.drop 4 := (List.take_append_drop 4 s).symm
            have a2 : s.drop 4 = (s.drop 4).take 4 ++ s.drop 8 := by
              rw [show s.drop 8 = (s.drop 4).drop 4 by rw [List.drop_drop]]; exact (List.take_append_drop 4 _).symm
            have a3 : s.drop 8 = (s.drop 8).take 4 ++ s.drop 12 := by
              rw [show s.drop 12 = (s.drop 8).drop 4 by rw [List.drop_drop]]; exact (List.take_append_drop 4 _).symm
            have a4 : s.drop 12 = p ++ (s.drop 12).drop p.length := by
              conv => lhs; rw [← List.take_append_drop (num4 s).toNat (s.drop 12)]
              rw [hp, hl]
            rw [e1, e0, e2]
            refine a1.trans ?_
            conv => lhs; rw [a2, a3, a4]
            simp only [List.append_assoc]
theorem first_nil : firstL [] = none := rfl
theorem first_short {s : List UInt8} (h : s.length < 12) : firstL s = none := by unfold firstL; rw [if_pos h]
/-- A frame that is cut off is none. -/
theorem first_cut (p : List UInt8) (h : p.length ≤ 1048577) (m : Nat) (hm : m < 12 + p.length) : firstL ((frameL p).take m) = none := by
  cases hf : firstL ((frameL p).take m) with
  | none => rfl
  | some q =>
    obtain ⟨hq, r, e⟩ := first_some hf
    have h1 := first_frame p [] h
    rw [List.append_nil, ← List.take_append_drop m (frameL p), e, List.append_assoc, first_frame q _ hq] at h1
    have hqp := Option.some.inj h1
    subst hqp
    have hl := congrArg List.length e
    rw [List.length_take, List.length_append, frameL_length] at hl
    omega
theorem Scanned.unique {s : List UInt8} : ∀ {xs ys : List (List UInt8)}, Scanned s xs → Scanned s ys → xs = ys := by
  intro xs
  induction xs generalizing s with
  | nil =>
    rintro ys ⟨r, e, hn, _⟩ ⟨r', e', hn', hl'⟩
    cases ys with
    | nil => rfl
    | cons y ys =>
      rw [flat_nil, List.nil_append] at e
      rw [e, flat_cons, List.append_assoc] at e'
      rw [e', first_frame y _ (hl' y (by simp))] at hn
      cases hn
  | cons x xs ih =>
    rintro ys ⟨r, e, hn, hl⟩ ⟨r', e', hn', hl'⟩
    have hx := first_frame x (flat xs ++ r) (hl x (by simp))
    rw [← List.append_assoc, ← flat_cons, ← e, e'] at hx
    cases ys with
    | nil =>
      rw [flat_nil, List.nil_append] at hx
      rw [hn'] at hx
      cases hx
    | cons y ys =>
      rw [flat_cons, List.append_assoc, first_frame y _ (hl' y (by simp))] at hx
      have hyx := Option.some.inj hx
      subst hyx
      rw [flat_cons, List.append_assoc] at e e'
      rw [e] at e'
      have e2 := List.append_cancel_left e'
      rw [ih ⟨r, rfl, hn, fun z hz => hl z (by simp [hz])⟩ ⟨r', e2, hn', fun z hz => hl' z (by simp [hz])⟩]
theorem Scanned.length {s : List UInt8} {xs : List (List UInt8)} (h : Scanned s xs) : (flat xs).length ≤ s.length := by
  obtain ⟨r, e, _⟩ := h
  have := congrArg List.length e
  rw [List.length_append] at this
  omega
theorem flat_count : ∀ xs : List (List UInt8), 12 * xs.length ≤ (flat xs).length
  | [] => by simp
  | x :: xs => by rw [flat_cons, List.length_append, frameL_length, List.length_cons]; have := flat_count xs; omega
end Go.Proofs.YtogihpofkjpokaaGreatDoor.F5
namespace Go.Proofs.YtogihpofkjpokaaGreatDoor.F5
open Go Go.RowKit

/-- A text of these bytes. -/
def txt (l : List UInt8) : ByteArray := ⟨l.toArray⟩
theorem txt_data (s : ByteArray) : txt s.data.toList = s := rfl
theorem data_txt (l : List UInt8) : (txt l).data.toList = l := rfl
theorem txt_size (l : List UInt8) : (txt l).size = l.length := rfl
theorem txt_inj {l m : List UInt8} (h : txt l = txt m) : l = m := by rw [← data_txt l, h, data_txt]
theorem cat (l m : List UInt8) (h : l.length + m.length ≤ 4000000000) : binOp .add 9 (.string (txt l)) (.string (txt m)) = pure (.string (txt (l ++ m))) := by
  have e : txt l ++ txt m = txt (l ++ m) := by apply ByteArray.ext; simp [txt]
  have h2 : ¬ (((txt l).size + (txt m).size : Nat) : Int) > IntKind.i64.max := by rw [txt_size, txt_size, show IntKind.i64.max = 9223372036854775807 by decide]; omega
  simp only [binOp, Op.stringOp]
  rw [if_neg h2, e]
theorem check_txt (l : List UInt8) (h : l.length ≤ 4000000) (w : World) :
    Calls Tryz.prog 76 #[.string (txt l)] w fun e w' => e = .returned (.int .u32 (u (crcL l))) ∧ w' = w :=
  (check_any (txt l) w (by rw [txt_size]; unfold maxLen; omega)).mono fun _ _ ⟨he, hw⟩ => ⟨he, hw.symm⟩
theorem u_lenW {p : List UInt8} (h : p.length ≤ 1048577) : ((p.length : Nat) : Int) = u (lenW p) := by
  unfold u; rw [lenW_toNat h]
theorem frame_cat (p : List UInt8) : be4 (lenW p) ++ be4 (crcL (be4 (lenW p))) ++ be4 (crcL p) ++ p = frameL p := by
  unfold frameL; simp only [List.append_assoc]

set_option maxRecDepth 100000 in
set_option maxHeartbeats 1000000 in
theorem wrap_any (p : List UInt8) (hp : p.length ≤ 100000) (w : World) :
    Calls Tryz.prog 83 #[.string (txt p)] w fun e w' => e = .returned (.tuple #[.string (txt (frameL p)), .bool true]) ∧ Below w.heap.size w w' := by
  have h0 : (p.length : Int) ≤ 1048577 := by omega
  have hz := txt_size p
  have P : Hid (∀ w, Calls Tryz.prog 101 #[.int .u32 (p.length : Int)] w fun e w' => e = .returned (.string (txt (be4 (lenW p)))) ∧ Below w.heap.size w w') := Lib.hid fun w => by
    rw [u_lenW (by omega)]; exact word_any _ w
  have P1 := Lib.hid (check_txt (be4 (lenW p)) (by rw [be4_length]; omega))
  have P2 := Lib.hid (word_any (crcL (be4 (lenW p))))
  have P3 := Lib.hid (check_txt p (by omega))
  have P4 := Lib.hid (word_any (crcL p))
  have c1 := cat (be4 (lenW p)) (be4 (crcL (be4 (lenW p)))) (by rw [be4_length, be4_length]; omega)
  have c2 := cat (be4 (lenW p) ++ be4 (crcL (be4 (lenW p)))) (be4 (crcL p)) (by rw [List.length_append, be4_length, be4_length, be4_length]; omega)
  have c3 := cat (be4 (lenW p) ++ be4 (crcL (be4 (lenW p))) ++ be4 (crcL p)) p (by rw [List.length_append, List.length_append, be4_length, be4_length, be4_length]; omega)
  rw [frame_cat] at c3
  generalize u (crcL (be4 (lenW p))) = n1 at P1 P2
  generalize u (crcL p) = n2 at P3 P4
  have P2' : Hid (∀ w, Calls Tryz.prog 101 #[.int .u32 n1] w fun e w' => e = .returned (.string (txt (be4 (crcL (be4 (lenW p)))))) ∧ Below w.heap.size w w') := P2
  have P4' : Hid (∀ w, Calls Tryz.prog 101 #[.int .u32 n2] w fun e w' => e = .returned (.string (txt (be4 (crcL p)))) ∧ Below w.heap.size w w') := P4
  generalize txt (be4 (crcL p)) = t2 at P4' c2
  generalize txt (be4 (lenW p) ++ be4 (crcL (be4 (lenW p))) ++ be4 (crcL p)) = a2 at c2 c3
  generalize txt (be4 (lenW p) ++ be4 (crcL (be4 (lenW p)))) = a1 at c1 c2
  generalize txt (be4 (crcL (be4 (lenW p)))) = t1 at P2' c1
  generalize txt (be4 (lenW p)) = t0 at P P1 c1
  generalize txt (frameL p) = t3 at c3 ⊢
  clear P2 P4
  go_enter Tryz.func83, Tryz.ntmps83
  go_wp2_with (first
    | (go_at_call 76; (first | (with_reducible refine (P1.out _).mono ?_) | (with_reducible refine (P3.out _).mono ?_)); rintro e w' ⟨rfl, rfl⟩)
    | (go_at_call 101; (with_reducible refine (P.out _).mono ?_); rintro e w1 ⟨rfl, hb1⟩)
    | (go_at_call 101; (with_reducible refine (P2'.out _).mono ?_); rintro e w2 ⟨rfl, hb2⟩)
    | (go_at_call 101; (with_reducible refine (P4'.out _).mono ?_); rintro e w3 ⟨rfl, hb3⟩))
  go_ret2
  have hz1 := hb1.size
  have hz2 := hb2.size
  exact ⟨rfl, (hb1.trans (hb2.mono hz1)).trans (hb3.mono (Nat.le_trans hz1 hz2))⟩
end Go.Proofs.YtogihpofkjpokaaGreatDoor.F5
namespace Go.Proofs.YtogihpofkjpokaaGreatDoor.F5
open Go Go.RowKit

theorem txt_at (l : List UInt8) (n : Nat) (h : n < l.length) : (txt l)[n]? = some (l.getD n 0) := by
  rw [getElem?_pos (txt l) n h, List.getD_eq_getElem?_getD, List.getElem?_eq_getElem h]
  rfl
theorem number_txt (l : List UInt8) (h : 4 ≤ l.length) (w : World) :
    Calls Tryz.prog 93 #[.string (txt l)] w fun e w' => e = .returned (.int .u32 (u (num4 l))) ∧ ∃ m, w' = w.drewN m :=
  number_any (txt l) _ _ _ _ (txt_at l 0 (by omega)) (txt_at l 1 (by omega)) (txt_at l 2 (by omega)) (txt_at l 3 (by omega)) w
theorem txt_take (l : List UInt8) (k : Nat) : (txt l).extract 0 k = txt (l.take k) := by
  apply ByteArray.ext
  simp [txt]
theorem txt_drop (l : List UInt8) (k : Nat) : (txt l).extract k l.length = txt (l.drop k) := by
  apply ByteArray.ext
  have h : (l.drop k).take (l.length - k) = l.drop k := List.take_of_length_le (by rw [List.length_drop]; omega)
  simp [txt, h]

set_option maxRecDepth 100000 in
set_option maxHeartbeats 1000000 in
theorem first_any (s : List UInt8) (hs : s.length ≤ 100000) (w : World) :
    Calls Tryz.prog 72 #[.string (txt s)] w fun e w' => e = .returned (.tuple #[.string (txt ((firstL s).getD [])), .bool (firstL s).isSome]) ∧ ∃ m, w' = w.drewN m := by
  have hz := txt_size s
  have hs' : (s.length : Int) ≤ 100000 := by omega
  by_cases h1 : s.length < 12
  · have HF := Lib.hid (first_short h1)
    have h1' : (s.length : Int) < 12 := by omega
    go_enter Tryz.func72, Tryz.ntmps72
    go_wp2
    go_ret2
    rw [HF.out]
    exact ⟨rfl, 0, rfl⟩
  have h1' : (12 : Int) ≤ (s.length : Int) := by omega
  have HF : Hid (firstL s = if 1048577 < (num4 s).toNat then none
      else if num4 (s.drop 4) ≠ crcL (s.take 4) then none
      else if s.length - 12 < (num4 s).toNat then none
      else if num4 (s.drop 8) ≠ crcL ((s.drop 12).take (num4 s).toNat) then none
      else some ((s.drop 12).take (num4 s).toNat)) := Lib.hid (by unfold firstL; rw [if_neg h1])
  have P0 : Hid (∀ w, Calls Tryz.prog 93 #[.string (txt s)] w fun e w' => e = .returned (.int .u32 ((num4 s).toNat : Int)) ∧ ∃ m, w' = w.drewN m) := Lib.hid (number_txt s (by omega))
  have P1 := Lib.hid (number_txt (s.drop 4) (by rw [List.length_drop]; omega))
  have P2 := Lib.hid (check_txt (s.take 4) (by rw [List.length_take]; omega))
  have P3 := Lib.hid (number_txt (s.drop 8) (by rw [List.length_drop]; omega))
  have P4 := Lib.hid (check_txt ((s.drop 12).take (num4 s).toNat) (by rw [List.length_take, List.length_drop]; omega))
  have e12 := txt_drop s 12
  have e4 := txt_drop s 4
  have e8 := txt_drop s 8
  have e0 := txt_take s 4
  have hb : (txt (s.drop 12)).size = s.length - 12 := by rw [txt_size, List.length_drop]
  have ep := txt_take (s.drop 12) (num4 s).toNat
  have HP : Hid ((txt ((s.drop 12).take (num4 s).toNat)) = txt ((s.drop 12).take (num4 s).toNat)) := Lib.hid rfl
  have hn : (0 : Int) ≤ ((num4 s).toNat : Int) := by omega
  generalize (num4 s).toNat = n at HF P0 P4 ep HP hn
  have h12 : ((s.length - 12 : Nat) : Int) = (s.length : Int) - 12 := by omega
  obtain ⟨bl, hbl⟩ : ∃ bl : Nat, bl = s.length - 12 := ⟨_, rfl⟩
  rw [← hbl] at hb h12
  have HB := Lib.hid (And.intro hbl h12)
  clear hbl h12
  generalize txt (s.drop 12) = body at e12 hb ep
  generalize txt (s.drop 4) = t4 at e4 P1
  generalize txt (s.drop 8) = t8 at e8 P3
  generalize txt (s.take 4) = a4 at e0 P2
  generalize hpay : txt ((s.drop 12).take n) = pay at ep P4 HP
  have HP' := Lib.hid hpay
  clear hpay HP
  by_cases c1 : 1048577 < n
  · have HE : Hid (firstL s = none) := Lib.hid (by rw [HF.out, if_pos c1])
    have c1' : (1048577 : Int) < (n : Int) := by omega
    have C1 := Lib.hid c1
    clear c1
    go_enter Tryz.func72, Tryz.ntmps72
    go_wp2
    go_big_quiet ((go_at_call 93; with_reducible exact Calls.quiet_of (P0.out _)))
    obtain ⟨wa, hwa⟩ : ∃ x, x = w.drewN nq := ⟨_, rfl⟩
    rw [← hwa]
    have HW := Lib.hid hwa
    clear hwa
    go_wp2
    go_big_quiet (fail)
    go_wp2
    go_ret2
    rw [HE.out]
    exact ⟨rfl, _, by rw [HW.out, World.drewN_drewN]⟩
  have c1' : (n : Int) ≤ 1048577 := by omega
  have c1d : decide ((1048577 : Int) < (n : Int)) = false := decide_eq_false (by omega)
  rw [if_neg c1] at HF
  have C1 := Lib.hid c1
  clear c1
  by_cases c2 : num4 (s.drop 4) = crcL (s.take 4)
  · rw [if_neg (by simpa using c2)] at HF
    rw [c2] at P1
    generalize u (crcL (s.take 4)) = n1 at P1 P2
    by_cases c3 : s.length - 12 < n
    · have HE : Hid (firstL s = none) := Lib.hid (by rw [HF.out, if_pos c3])
      have c3' : (bl : Int) < (n : Int) := by have := HB.out.1; omega
      go_enter Tryz.func72, Tryz.ntmps72
      go_wp2
      go_big_quiet ((go_at_call 93; with_reducible exact Calls.quiet_of (P0.out _)))
      obtain ⟨wa, hwa⟩ : ∃ x, x = w.drewN nq := ⟨_, rfl⟩
      rw [← hwa]
      have HW := Lib.hid hwa
      clear hwa
      go_wp2
      go_big_quiet (first | (go_at_call 93; with_reducible exact Calls.quiet_of (P1.out _)) | (go_at_call 76; with_reducible exact Calls.quiet_of_same (P2.out _)))
      go_wp2
      go_ret2
      rw [HE.out]
      exact ⟨rfl, _, by rw [HW.out, World.drewN_drewN]⟩
    have c3' : (n : Int) ≤ (bl : Int) := by have := HB.out.1; omega
    rw [if_neg c3] at HF
    by_cases c4 : num4 (s.drop 8) = crcL ((s.drop 12).take n)
    · rw [if_neg (by simpa using c4)] at HF
      rw [c4] at P3
      generalize u (crcL ((s.drop 12).take n)) = n2 at P3 P4
      go_enter Tryz.func72, Tryz.ntmps72
      go_wp2
      go_big_quiet ((go_at_call 93; with_reducible exact Calls.quiet_of (P0.out _)))
      obtain ⟨wa, hwa⟩ : ∃ x, x = w.drewN nq := ⟨_, rfl⟩
      rw [← hwa]
      have HW := Lib.hid hwa
      clear hwa
      go_wp2
      go_big_quiet (first | (go_at_call 93; with_reducible exact Calls.quiet_of (P1.out _)) | (go_at_call 76; with_reducible exact Calls.quiet_of_same (P2.out _)))
      go_wp2_with (first | (go_at_call 93; (with_reducible refine (P3.out _).mono ?_); rintro e w' ⟨rfl, m, rfl⟩) | (go_at_call 76; (with_reducible refine (P4.out _).mono ?_); rintro e w' ⟨rfl, rfl⟩))
      go_ret2
      rw [HF.out, ← HP'.out]
      exact ⟨rfl, _, by rw [HW.out, World.drewN_drewN]⟩
    · have HE : Hid (firstL s = none) := Lib.hid (by rw [HF.out, if_pos (by simpa using c4)])
      have c4' : (u (num4 (s.drop 8)) != u (crcL ((s.drop 12).take n))) = true := by
        rw [bne_iff_ne]; exact fun h => c4 (u_inj h)
      have c4'' : ¬ u (num4 (s.drop 8)) = u (crcL ((s.drop 12).take n)) := fun h => c4 (u_inj h)
      generalize u (crcL ((s.drop 12).take n)) = n2 at P4 c4' c4''
      generalize u (num4 (s.drop 8)) = n3 at P3 c4' c4''
      clear c4
      go_enter Tryz.func72, Tryz.ntmps72
      go_wp2
      go_big_quiet ((go_at_call 93; with_reducible exact Calls.quiet_of (P0.out _)))
      obtain ⟨wa, hwa⟩ : ∃ x, x = w.drewN nq := ⟨_, rfl⟩
      rw [← hwa]
      have HW := Lib.hid hwa
      clear hwa
      go_wp2
      go_big_quiet (first | (go_at_call 93; with_reducible exact Calls.quiet_of (P1.out _)) | (go_at_call 76; with_reducible exact Calls.quiet_of_same (P2.out _)))
      go_wp2_with (first | (go_at_call 93; (with_reducible refine (P3.out _).mono ?_); rintro e w' ⟨rfl, m, rfl⟩) | (go_at_call 76; (with_reducible refine (P4.out _).mono ?_); rintro e w' ⟨rfl, rfl⟩))
      go_ret2
      rw [HE.out]
      exact ⟨rfl, _, by rw [HW.out, World.drewN_drewN]⟩
  · have HE : Hid (firstL s = none) := Lib.hid (by rw [HF.out, if_pos (by simpa using c2)])
    have c2' : (u (num4 (s.drop 4)) != u (crcL (s.take 4))) = true := by
      rw [bne_iff_ne]; exact fun h => c2 (u_inj h)
    have c2'' : ¬ u (num4 (s.drop 4)) = u (crcL (s.take 4)) := fun h => c2 (u_inj h)
    generalize u (crcL (s.take 4)) = n2 at P2 c2' c2''
    generalize u (num4 (s.drop 4)) = n3 at P1 c2' c2''
    clear c2
    go_enter Tryz.func72, Tryz.ntmps72
    go_wp2
    go_big_quiet ((go_at_call 93; with_reducible exact Calls.quiet_of (P0.out _)))
    obtain ⟨wa, hwa⟩ : ∃ x, x = w.drewN nq := ⟨_, rfl⟩
    rw [← hwa]
    have HW := Lib.hid hwa
    clear hwa
    go_wp2
    go_big_quiet (first | (go_at_call 93; with_reducible exact Calls.quiet_of (P1.out _)) | (go_at_call 76; with_reducible exact Calls.quiet_of_same (P2.out _)))
    go_wp2
    go_ret2
    rw [HE.out]
    exact ⟨rfl, _, by rw [HW.out, World.drewN_drewN]⟩
end Go.Proofs.YtogihpofkjpokaaGreatDoor.F5
namespace Go.Proofs.YtogihpofkjpokaaGreatDoor.F5
open Go Go.RowKit

theorem clone_any (s : ByteArray) (w : World) (hs : s.size ≤ 281474976710656) :
    Calls Tryz.prog 39 #[.string s] w fun e w' => e = .returned (.string s) ∧ Below w.heap.size w w' := by
  have P := Lib.hid (Tryz.stringslite_Clone s w hs)
  go_enter Tryz.func39, Tryz.ntmps39
  go_wp2_with (go_at_call 65; (with_reducible refine P.out.mono ?_); rintro e w1 ⟨rfl, hb⟩)
  go_ret
  exact ⟨rfl, hb⟩
end Go.Proofs.YtogihpofkjpokaaGreatDoor.F5
namespace Go.Proofs.YtogihpofkjpokaaGreatDoor.F5
open Go Go.RowKit

def sv (x : List UInt8) : Value := .string (txt x)
/-- The slice of the address has these texts. -/
def RdT (w : World) (a : Option Addr) (xs : List (List UInt8)) : Prop :=
  ∀ i, i < xs.length → ∃ b off, a = some ⟨b, off, none⟩ ∧ w.cell? ⟨b, off + i, none⟩ = some (.string (txt (xs.getD i [])))
theorem RdT.keep {P : Nat → Prop} {w w' : World} {a : Option Addr} {xs : List (List UInt8)} (h : RdT w a xs) (hc : Ch P w w') (hs : ∀ ad, a = some ad → ¬ P ad.block) : RdT w' a xs := fun i hi => by
  obtain ⟨b, off, ha, h1⟩ := h i hi
  exact ⟨b, off, ha, hc.cell (p := ⟨b, off + i, none⟩) h1 (hs ⟨b, off, none⟩ ha)⟩
theorem RdT.new {w w' : World} {a : Option Addr} {xs : List (List UInt8)} (h : RdT w a xs) (hb : Below w.heap.size w w') : RdT w' a xs := h.keep (Ch.of_new (S := fun _ => False) hb) (fun _ _ => id)
theorem RdT.nil (w : World) (a : Option Addr) : RdT w a [] := fun i hi => absurd hi (by simp)
theorem RdT.take {w : World} {a : Option Addr} {xs : List (List UInt8)} (h : RdT w a xs) (k : Nat) : RdT w a (xs.take k) := fun i hi => by
  rw [List.length_take] at hi
  obtain ⟨b, off, ha, h1⟩ := h i (by omega)
  refine ⟨b, off, ha, ?_⟩
  rw [h1, List.getD_eq_getElem?_getD, List.getD_eq_getElem?_getD, List.getElem?_take_of_lt (by omega)]
theorem Tryz.info9 : (Tryz.prog.info? 9).map (fun i => (i.zero, i.size, i.bytes)) = some (some (.string ByteArray.empty), 1, 16) := by kernel_rfl
/-- A slice of texts that a call made itself. -/
def OwT (w : World) (base : Nat) (v : Value) (xs : List (List UInt8)) : Prop := w.ownsRow base 9 1 v xs.length (xs.map sv)
theorem lt_of_heap {w : World} {g : Nat} {o : Obj} (h : w.heap[g]? = some o) : g < w.heap.size := (Array.getElem?_eq_some_iff.1 h).1
section
variable {w w' : World} {base : Nat} {v : Value} {xs : List (List UInt8)}
theorem OwT.own (h : OwT w base v xs) (k : Nat) (hk : v.ownBlock = some k) : base ≤ k ∧ k < w.heap.size := by
  rcases h.2 with ⟨hv, _⟩ | ⟨g, cap, cur, hv, hb, hg, _⟩
  · rw [hv] at hk; cases hk
  · rw [hv] at hk; cases hk; exact ⟨hb, lt_of_heap hg⟩
theorem OwT.keep {P : Nat → Prop} (h : OwT w base v xs) (hc : Ch P w w') (hs : ∀ k, v.ownBlock = some k → ¬ P k) : OwT w' base v xs := by
  refine ⟨h.1, ?_⟩
  rcases h.2 with h2 | ⟨g, cap, cur, hv, hb, hg, r⟩
  · exact .inl h2
  · exact .inr ⟨g, cap, cur, hv, hb, (hc.block g (lt_of_heap hg) (hs g (by rw [hv]; rfl))).trans hg, r⟩
theorem OwT.new (h : OwT w base v xs) (hb : Below w.heap.size w w') : OwT w' base v xs := h.keep (Ch.of_new (S := fun _ => False) hb) (fun _ _ => id)
theorem OwT.nil (w : World) (base : Nat) : OwT w base (.slice none 0 0) [] := World.ownsRow_nil _ _ _ _
theorem OwT.rd (h : OwT w base v xs) : ∃ a cap, v = .slice a xs.length cap ∧ RdT w a xs ∧ (a = none → cap = 0) ∧ ∀ ad, a = some ad → base ≤ ad.block ∧ ad.block < w.heap.size := by
  rcases h.2 with ⟨hv, h0⟩ | ⟨g, cap, cur, hv, hb, hg, hnc, hcm, hcs, ht⟩
  · exact ⟨none, 0, by rw [hv, h0], fun i hi => absurd hi (by omega), fun _ => rfl, fun ad h => by cases h⟩
  · refine ⟨some ⟨g, 0, none⟩, cap, hv, fun i hi => ⟨g, 0, rfl, ?_⟩, fun h => (by cases h), fun ad h => by cases h; exact ⟨hb, lt_of_heap hg⟩⟩
    rw [cell_of_row _ _ _ _ _ _ hg, Nat.zero_add]
    have h3 : (cur.toList.take (xs.length * 1))[i]? = (xs.map sv)[i]? := by rw [ht]
    rw [List.getElem?_take_of_lt (by omega)] at h3
    rw [← Array.getElem?_toList, h3, List.getElem?_map, List.getElem?_eq_getElem hi, List.getD_eq_getElem?_getD, List.getElem?_eq_getElem hi]
    rfl
theorem OwT.form (h : OwT w base v xs) : ∃ a c, v = .slice a xs.length c := by
  obtain ⟨a, c, hv, _⟩ := h.rd
  exact ⟨a, c, hv⟩
theorem OwT.empty (w : World) (base : Nat) (h : base ≤ w.heap.size) : OwT (w.alloc (.cells #[] 9)) base (.slice (some ⟨w.heap.size, 0, none⟩) 0 0) [] :=
  ⟨rfl, .inr ⟨w.heap.size, 0, #[], rfl, h, heap_alloc_new w _, Nat.le_refl _, by unfold maxLen; omega, rfl, rfl⟩⟩
end
section
variable {w : World} {o : Oper} {a : Act} {Q : Exit → Act → World → Prop}
/-- append of one text. -/
theorem wpList_one {ops : Array Oper} {rest : List Oper} (hgd : o.guard = none) (s x : Operand) (ho : o.op = .call { callee := .builtin .append, args := #[s, x], argTypes := #[25, 25] })
    (base : Nat) (v : Value) (xs : List (List UInt8)) (hs : a.eval s = v) (hown : OwT w base v xs) (g : Nat) (n : List UInt8)
    (hx : a.eval x = .slice (some ⟨g, 0, none⟩) 1 1) (hrow : w.heap[g]? = some (.cells #[.string (txt n)] 9 (0, 0))) (hlen : xs.length + 1 ≤ 100000000) (hbase : base ≤ w.heap.size)
    (h : ∀ v' w', OwT w' base v' (xs ++ [n]) → Ch (fun j => v.ownBlock = some j) w w' → wpList Tryz.prog ops Q rest (a.put o.dst v') w') : wpList Tryz.prog ops Q (o :: rest) a w := by
  obtain ⟨i0, hi, hz0, hz1, hz2⟩ := info_parts Tryz.info9
  refine wpList_append_own _ hgd s x 25 ho base 9 i0 _ 1 16 Tryz.underlying25 hi hz0 hz1 hz2 rfl (by decide) v xs.length (xs.map sv) hs hown ⟨g, 0, none⟩ 1 1 [.string (txt n)] hx (by simp) ?_ ?_ (by unfold maxLen; omega) (by omega) hbase ?_
  · intro j z hj
    rw [add0, cell_of_row _ _ _ _ _ _ hrow]
    simpa using hj
  · intro z hz
    simp only [List.mem_cons, List.not_mem_nil, or_false] at hz
    rw [hz]; rfl
  · intro v' w' h1 h2 _
    refine h v' w' ?_ (Ch.of_grown h2 fun k hk => hk)
    unfold OwT
    rw [List.length_append, List.map_append, show [n].map sv = [.string (txt n)] from rfl]
    exact h1
end
theorem srow (W : World) (i : Nat) (hi : W.heap.size = i) (n : List UInt8) : (W.alloc (.cells #[.string (txt n)] 9)).heap[i]? = some (.cells #[.string (txt n)] 9 (0, 0)) := by
  subst hi
  exact heap_alloc_new W _
theorem getD_at {xs : List (List UInt8)} {i : Nat} (h : i < xs.length) : xs.getD i [] = xs[i] := by
  rw [List.getD_eq_getElem?_getD, List.getElem?_eq_getElem h]; rfl
theorem take_at {xs : List (List UInt8)} {i : Nat} (h : i < xs.length) : xs.take (i + 1) = xs.take i ++ [xs.getD i []] := by
  rw [List.take_succ_eq_append_getElem h, getD_at h]
theorem txt_eq (l m : List UInt8) : ((txt l).toList == (txt m).toList) = decide (l = m) := by
  rw [ByteArray.toList_eq, ByteArray.toList_eq, data_txt, data_txt]
  by_cases h : l = m
  · rw [decide_eq_true h, h]; exact beq_self_eq_true _
  · rw [decide_eq_false h]; exact beq_eq_false_iff_ne.2 h

end Go.Proofs.YtogihpofkjpokaaGreatDoor.F5
namespace Go.Proofs.YtogihpofkjpokaaGreatDoor.F5
open Go Go.RowKit
attribute [-go_sem] Builtin.append_

/-- What has been told so far: the frames of xs stand ahead of r. -/
structure SI (w wr : World) (s : List UInt8) (v : Value) (xs : List (List UInt8)) (r : List UInt8) : Prop where
  own : OwT wr w.heap.size v xs
  ch : Below w.heap.size w wr
  cut : s = flat xs ++ r
  few : ∀ x ∈ xs, x.length ≤ 1048577
theorem SI.rest {w wr : World} {s : List UInt8} {v : Value} {xs : List (List UInt8)} {r : List UInt8} (h : SI w wr s v xs r) : s.drop (flat xs).length = r := by
  rw [h.cut]; simp
theorem SI.len {w wr : World} {s : List UInt8} {v : Value} {xs : List (List UInt8)} {r : List UInt8} (h : SI w wr s v xs r) : s.length = (flat xs).length + r.length := by
  rw [h.cut, List.length_append]
theorem SI.app {w wr w1 w2 : World} {s : List UInt8} {v v2 : Value} {xs : List (List UInt8)} {r p : List UInt8} (h : SI w wr s v xs r) (hf : firstL r = some p) (h1 : Ch (fun _ => False) wr w1)
    (ho : OwT w2 w.heap.size v2 (xs ++ [p])) (hc : Ch (fun j => v.ownBlock = some j) w1 w2) : ∃ r2, SI w w2 s v2 (xs ++ [p]) r2 := by
  obtain ⟨hp, r2, hr⟩ := first_some hf
  have hC : Ch (fun j => v.ownBlock = some j) wr w2 := (Ch.mono h1 fun _ _ e => False.elim e).tr hc
  have hge : ∀ j, v.ownBlock = some j → w.heap.size ≤ j := fun j hj => (h.own.own j hj).1
  refine ⟨r2, ho, h.ch.trans (hC.below h.ch.size fun k hk e => by have := hge _ e; omega), ?_, fun x hx => ?_⟩
  · rw [flat_snoc, List.append_assoc, ← hr, ← h.cut]
  · rcases List.mem_append.1 hx with hx | hx
    · exact h.few x hx
    · rw [List.mem_singleton.1 hx]; exact hp

set_option maxRecDepth 100000 in
set_option maxHeartbeats 1000000 in
theorem scan_any (s : List UInt8) (hs : s.length ≤ 100000) (w : World) :
    Calls Tryz.prog 51 #[.string (txt s)] w fun e w' => ∃ v xs, e = .returned (.tuple #[v, .int .i64 ((flat xs).length : Int)]) ∧ OwT w' w.heap.size v xs ∧ Scanned s xs ∧ Below w.heap.size w w' := by
  have hz := txt_size s
  have hs' : (s.length : Int) ≤ 100000 := by omega
  have H0 : Hid (SI w w s (.slice none 0 0) [] s) := Lib.hid ⟨OwT.nil _ _, Below.refl _ _, rfl, fun x hx => by simp at hx⟩
  go_enter Tryz.func51, Tryz.ntmps51
  go_wp2
  go_loopw [4, 5, 6, 7] (fun v t _ _ wr => ∃ (xs : List (List UInt8)) (r : List UInt8) (n : Nat), t = .int .i64 (n : Int) ∧ Hid (n = (flat xs).length) ∧ Hid (SI w wr s v xs r)) (fun _ t _ _ _ => s.length - (intOf t).toNat)
  case atStart => exact ⟨[], s, 0, rfl, Lib.hid rfl, H0⟩
  case round =>
    clear H0
    obtain ⟨xs, r, n, rfl, HN, HI⟩ := hrel
    obtain ⟨a, c, hv⟩ := HI.out.own.form
    subst hv
    have hn : n ≤ s.length := by rw [HN.out, HI.out.len]; omega
    have hn' : (n : Int) ≤ (s.length : Int) := by omega
    have hn0 : (0 : Int) ≤ (n : Int) := by omega
    have e1 : (txt s).extract n s.length = txt r := by rw [txt_drop, HN.out, HI.out.rest]
    have P := Lib.hid (first_any r (by have := HI.out.len; omega))
    cases hf : firstL r with
    | none =>
      rw [hf] at P
      have P' : Hid (∀ w, Calls Tryz.prog 72 #[.string (txt r)] w fun e w' => e = .returned (.tuple #[.string (txt []), .bool false]) ∧ ∃ m, w' = w.drewN m) := P
      clear P
      have HF := Lib.hid hf
      clear hf
      go_wp2_with (go_at_call 72; (with_reducible refine (P'.out _).mono ?_); rintro e w1 ⟨rfl, m, rfl⟩)
      go_ret2
      refine ⟨.slice a xs.length c, xs, (by rw [← HN.out]; rfl), HI.out.own.keep (Ch.drewN (fun _ => False) _ _) (fun _ _ => id), ⟨r, HI.out.cut, HF.out, HI.out.few⟩, HI.out.ch.trans ((Ch.drewN (fun _ => False) _ _).below HI.out.ch.size fun _ _ => id)⟩
    | some p =>
      rw [hf] at P
      have P' : Hid (∀ w, Calls Tryz.prog 72 #[.string (txt r)] w fun e w' => e = .returned (.tuple #[.string (txt p), .bool true]) ∧ ∃ m, w' = w.drewN m) := P
      clear P
      have HF := Lib.hid hf
      clear hf
      have hpl : n + (12 + p.length) ≤ s.length := by
        obtain ⟨_, r2, hr⟩ := first_some HF.out
        have h1 := HI.out.len
        have h2 := congrArg List.length hr
        rw [List.length_append, frameL_length] at h2
        rw [← HN.out] at h1
        omega
      have hpl' : (n : Int) + (12 + (p.length : Int)) ≤ (s.length : Int) := by omega
      have hzp := txt_size p
      have C := Lib.hid (fun w => clone_any (txt p) w (by rw [txt_size]; omega))
      have hxl : xs.length + 1 ≤ 100000000 := by
        have h1 := flat_count xs
        have h2 := HN.out
        omega
      have hcs := HI.out.ch.size
      have HX := Lib.hid (And.intro hn hpl)
      clear hn hpl
      go_wp2_with (first
        | (go_at_call 72; (with_reducible refine (P'.out _).mono ?_); rintro e w1 ⟨rfl, m, rfl⟩)
        | (go_at_call 39; (with_reducible refine (C.out _).mono ?_); rintro e w2 ⟨rfl, hb2⟩
           have hC2 : Ch (fun _ => False) wr w2 := (Ch.drewN _ wr m).tr (Ch.of_new hb2)
           have hs2 := hC2.size)
        | (at_builtin; refine wpList_one rfl (.tmp 19) (.tmp 22) rfl w.heap.size (.slice a xs.length c) xs rfl (HI.out.own.keep (hC2.tr (Ch.alloc _ _ _)) (fun _ _ => id)) w2.heap.size p rfl (srow _ _ rfl _) hxl (by simp; omega) ?_; intro g3 w3 ho3 hc3))
      go_roundw
      case rel =>
        obtain ⟨r2, h2⟩ := HI.out.app HF.out (hC2.tr (Ch.alloc _ _ _)) ho3 hc3
        exact ⟨xs ++ [p], r2, n + (12 + p.length), by go_num, Lib.hid (by rw [flat_snoc, List.length_append, frameL_length, HN.out]), Lib.hid h2⟩
      case measure => simp [intOf]; omega
end Go.Proofs.YtogihpofkjpokaaGreatDoor.F5
