/- Words in four bytes, and back; the walks of word, four and number. -/
import Derived.Test.YtogihpofkjpokaaGreatDoorFWalkC
import Derived.BigQuiet
namespace Go.Proofs.YtogihpofkjpokaaGreatDoor.F5
open Go Go.RowKit

/-- Byte i of a word, the highest first. -/
def wbyte (x : BitVec 32) (i : Nat) : UInt8 := UInt8.ofNat (x.toNat / 2 ^ (24 - 8 * i))
theorem wbyte_toNat (x : BitVec 32) (i : Nat) : ((wbyte x i).toNat : Int) = u x / 2 ^ (24 - 8 * i) % 256 := by
  unfold wbyte u
  rw [UInt8.toNat_ofNat']
  simp
/-- A word's four bytes. -/
def be4 (x : BitVec 32) : List UInt8 := [wbyte x 0, wbyte x 1, wbyte x 2, wbyte x 3]
/-- The word of four bytes. -/
def w4 (a b c d : UInt8) : BitVec 32 := (wb a <<< 24) ||| (wb b <<< 16) ||| (wb c <<< 8) ||| wb d
theorem run_index (s : ByteArray) (k : IntKind) (i : Int) (n : Nat) (hi : i = (n : Int)) (b : UInt8) (h : s[n]? = some b) (w : World) :
    (Instr.index 9 (.string s) (.int k i)).run Tryz.prog w = .ok (.int .u8 (b.toNat : Int)) w := by
  subst hi
  simp only [Instr.index, asIntOf, Sem.run_bind, Sem.run_pure, Result.andThen_ok, run_underlying Tryz.underlying9]
  rw [if_pos (Int.natCast_nonneg n), Int.toNat_natCast, h]
  rfl

theorem b0_u (v : BitVec 32) : u v / (16777216 : Int) = ((wbyte v 0).toNat : Int) := by
  rw [wbyte_toNat]
  have h0 := u_nonneg v
  have h1 := u_lt v
  show _ = u v / 16777216 % 256
  omega
theorem b1_u (v : BitVec 32) : u v / (65536 : Int) % 256 = ((wbyte v 1).toNat : Int) := by rw [wbyte_toNat]; rfl
theorem b2_u (v : BitVec 32) : u v / (256 : Int) % 256 = ((wbyte v 2).toNat : Int) := by rw [wbyte_toNat]; rfl
theorem b3_u (v : BitVec 32) : u v % 256 = ((wbyte v 3).toNat : Int) := by rw [wbyte_toNat]; simp
theorem be4_run (v : BitVec 32) (w : World) : (convert 110 9 (.slice (some ⟨w.heap.size, 0, none⟩) 4 4)).run Tryz.prog
    (w.alloc (.cells #[.int .u8 (u v / 16777216), .int .u8 (u v / 65536 % 256), .int .u8 (u v / 256 % 256), .int .u8 (u v % 256)] 5)) =
    .ok (.string ⟨(be4 v).toArray⟩) (w.alloc (.cells #[.int .u8 (u v / 16777216), .int .u8 (u v / 65536 % 256), .int .u8 (u v / 256 % 256), .int .u8 (u v % 256)] 5)) := by
  rw [b0_u, b1_u, b2_u, b3_u]
  refine run_convert_bytes_back _ 110 9 5 ⟨w.heap.size, 0, none⟩ 4 (be4 v) Tryz.underlying110 Tryz.underlying5 Tryz.underlying9 ?_
  intro j hj
  rw [add0, cell_of_row _ _ _ _ _ _ (heap_alloc_new _ _)]
  match j, hj with
  | 0, _ => rfl
  | 1, _ => rfl
  | 2, _ => rfl
  | 3, _ => rfl

set_option maxRecDepth 100000 in
set_option maxHeartbeats 400000 in
theorem word_any (v : BitVec 32) (w : World) :
    Calls Tryz.prog 101 #[.int .u32 (u v)] w fun e w' => e = .returned (.string ⟨(be4 v).toArray⟩) ∧ Below w.heap.size w w' := by
  have h0 := u_nonneg v
  have h1 := u_lt v
  have hc := be4_run v w
  go_enter Tryz.func101, Tryz.ntmps101
  go_wp2
  go_ret
  exact ⟨rfl, (Below.refl _ _).alloc (Nat.le_refl _) _⟩
theorem u_shl24 (a : BitVec 32) : u a % (4294967296 : Int) * (16777216 : Int) % (4294967296 : Int) = u (a <<< 24) := by
  have := u_shl a 24
  rw [IntKind.wrap_u32'] at this
  rw [u_mod, ← this]
  rfl
theorem u_shl16 (a : BitVec 32) : u a % (4294967296 : Int) * (65536 : Int) % (4294967296 : Int) = u (a <<< 16) := by
  have := u_shl a 16
  rw [IntKind.wrap_u32'] at this
  rw [u_mod, ← this]
  rfl
theorem u_shl8 (a : BitVec 32) : u a % (4294967296 : Int) * (256 : Int) % (4294967296 : Int) = u (a <<< 8) := by
  have := u_shl a 8
  rw [IntKind.wrap_u32'] at this
  rw [u_mod, ← this]
  rfl
set_option maxRecDepth 100000 in
set_option maxHeartbeats 400000 in
theorem number_any (s : ByteArray) (b0 b1 b2 b3 : UInt8) (h0 : s[0]? = some b0) (h1 : s[1]? = some b1) (h2 : s[2]? = some b2) (h3 : s[3]? = some b3) (w : World) :
    Calls Tryz.prog 93 #[.string s] w fun e w' => e = .returned (.int .u32 (u (w4 b0 b1 b2 b3))) ∧ ∃ m, w' = w.drewN m := by
  have r0 := run_index s .i64 0 0 rfl b0 h0
  have r1 := run_index s .i64 1 1 rfl b1 h1
  have r2 := run_index s .i64 2 2 rfl b2 h2
  have r3 := run_index s .i64 3 3 rfl b3 h3
  clear h0 h1 h2 h3
  have hb := wb_u
  go_enter Tryz.func93, Tryz.ntmps93
  go_wp2
  go_big_quiet (fail)
  rw [u_shl24, u_shl16, u_shl8, u_mod, u_or, u_or, u_or]
  go_wp2
  go_ret
  exact ⟨rfl, nq, rfl⟩

theorem w4_toNat (a b c d : UInt8) : (w4 a b c d).toNat = a.toNat * 16777216 + b.toNat * 65536 + c.toNat * 256 + d.toNat := by
  have ha := a.toNat_lt
  have hb := b.toNat_lt
  have hc := c.toNat_lt
  have hd := d.toNat_lt
  have hw : ∀ x : UInt8, (wb x).toNat = x.toNat := fun x => by
    unfold wb; rw [BitVec.toNat_ofNat]; have := x.toNat_lt; omega
  unfold w4
  rw [BitVec.toNat_or, BitVec.toNat_or, BitVec.toNat_or, BitVec.toNat_shiftLeft, BitVec.toNat_shiftLeft, BitVec.toNat_shiftLeft, hw, hw, hw, hw, Nat.shiftLeft_eq, Nat.shiftLeft_eq, Nat.shiftLeft_eq]
  rw [Nat.mod_eq_of_lt (by omega), Nat.mod_eq_of_lt (by omega), Nat.mod_eq_of_lt (by omega)]
  have e1 : a.toNat * 2 ^ 24 ||| b.toNat * 2 ^ 16 = 2 ^ 16 * (a.toNat * 256 + b.toNat) := by
    have := Nat.two_pow_add_eq_or_of_lt (i := 24) (show b.toNat * 2 ^ 16 < 2 ^ 24 by omega) a.toNat
    rw [Nat.mul_comm a.toNat, ← this]; omega
  have e2 : 2 ^ 16 * (a.toNat * 256 + b.toNat) ||| c.toNat * 2 ^ 8 = 2 ^ 8 * ((a.toNat * 256 + b.toNat) * 256 + c.toNat) := by
    have := Nat.two_pow_add_eq_or_of_lt (i := 16) (show c.toNat * 2 ^ 8 < 2 ^ 16 by omega) (a.toNat * 256 + b.toNat)
    rw [← this]; omega
  have e3 : 2 ^ 8 * ((a.toNat * 256 + b.toNat) * 256 + c.toNat) ||| d.toNat = 2 ^ 8 * ((a.toNat * 256 + b.toNat) * 256 + c.toNat) + d.toNat :=
    (Nat.two_pow_add_eq_or_of_lt (i := 8) (show d.toNat < 2 ^ 8 by omega) _).symm
  rw [e1, e2, e3]
  omega
theorem wbyte_nat (x : BitVec 32) (i : Nat) : (wbyte x i).toNat = x.toNat / 2 ^ (24 - 8 * i) % 256 := by
  unfold wbyte; rw [UInt8.toNat_ofNat']
theorem w4_be4 (x : BitVec 32) : w4 (wbyte x 0) (wbyte x 1) (wbyte x 2) (wbyte x 3) = x := by
  apply BitVec.eq_of_toNat_eq
  rw [w4_toNat, wbyte_nat, wbyte_nat, wbyte_nat, wbyte_nat]
  have := x.isLt
  simp only [Nat.mul_zero, Nat.sub_zero, Nat.mul_one, show 24 - 8 = 16 from rfl, show 24 - 8 * 2 = 8 from rfl, show 24 - 8 * 3 = 0 from rfl, Nat.pow_zero, Nat.div_one]
  omega
theorem be4_w4 (a b c d : UInt8) : be4 (w4 a b c d) = [a, b, c, d] := by
  have ha := a.toNat_lt
  have hb := b.toNat_lt
  have hc := c.toNat_lt
  have hd := d.toNat_lt
  have e := w4_toNat a b c d
  have f : ∀ i (z : UInt8), (w4 a b c d).toNat / 2 ^ (24 - 8 * i) % 256 = z.toNat → wbyte (w4 a b c d) i = z := fun i z h => UInt8.toNat_inj.1 (by rw [wbyte_nat, h])
  unfold be4
  rw [f 0 a (by rw [e]; simp only [Nat.mul_zero, Nat.sub_zero]; omega), f 1 b (by rw [e]; simp only [Nat.mul_one, show 24 - 8 = 16 from rfl]; omega), f 2 c (by rw [e]; simp only [show 24 - 8 * 2 = 8 from rfl]; omega), f 3 d (by rw [e]; simp only [show 24 - 8 * 3 = 0 from rfl]; omega)]
end Go.Proofs.YtogihpofkjpokaaGreatDoor.F5
