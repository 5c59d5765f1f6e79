/- Walks of Check. -/
import Derived.Test.YtmjlijhikmjmlaaBase
import Derived.Test.YtmjlijhikmjmlaaCrc
namespace Go.Proofs.Ytmjlijhikmjmlaa
open Go.RowKit

theorem ret_i {k : IntKind} {a b : Int} (h : a = b) : Ending.returned (.int k a) = .returned (.int k b) := by rw [h]
set_option maxHeartbeats 400000 in
theorem step_any (v : BitVec 32) (w : World) :
    Calls Try.prog 20 #[.int .u32 (u v)] w fun e w' => e = .returned (.int .u32 (u (crcN 8 v))) ∧ w = w' := by
  go_enter Try.func20, Try.ntmps20
  go_wp2
  go_loop [0, 4] (fun s i => ∃ k : Nat, ∃ x : BitVec 32, k ≤ 8 ∧ i = .int .i64 k ∧ s = .int .u32 (u x) ∧ Hid (x = crcN k v)) (fun _ i => 8 - (intOf i).toNat)
  case atStart => exact ⟨0, v, Nat.zero_le _, rfl, rfl, Lib.hid rfl⟩
  case round =>
    obtain ⟨k, x, hk, rfl, rfl, hx⟩ := hrel
    by_cases hlt : k < 8
    · go_wp2
      go_round
      case rel => exact ⟨k + 1, crcBit x, by omega, by go_num, by rw [crcBit_u], Lib.hid (by rw [crcN, hx.out])⟩
      case measure => simp [intOf]; omega
    · go_wp2
      go_ret
      exact ⟨ret_i (by rw [hx.out, show k = 8 by omega]), rfl⟩

set_option maxHeartbeats 400000 in
theorem check_any (s : ByteArray) (w : World) (hs : s.size ≤ maxLen) :
    Calls Try.prog 15 #[.string s] w fun e w' => e = .returned (.int .u32 (u (crcL s.data.toList))) ∧ w = w' := by
  unfold maxLen at hs
  go_enter Try.func15, Try.ntmps15
  go_wp2
  go_loop [3, 7] (fun v i => ∃ k : Nat, ∃ x : BitVec 32, k ≤ s.size ∧ i = .int .i64 k ∧ v = .int .u32 (u x) ∧ Hid (x = crcRun (BitVec.allOnes 32) (s.data.toList.take k))) (fun _ i => s.size - (intOf i).toNat)
  case atStart => exact ⟨0, BitVec.allOnes 32, Nat.zero_le _, rfl, rfl, Lib.hid rfl⟩
  case round =>
    obtain ⟨k, x, hk, rfl, rfl, hx⟩ := hrel
    by_cases hlt : k < s.size
    · have hb := wb_u
      have hxo := u_xor
      have hmo := u_mod
      go_wp2_with (go_at_call 20; refine (step_any _ _).mono ?_; rintro e w' ⟨rfl, rfl⟩)
      go_round
      case rel => exact ⟨k + 1, _, by omega, by go_num, rfl, Lib.hid (by rw [take_snoc s k hlt, crcRun_snoc, ← hx.out]; rfl)⟩
      case measure => simp [intOf]; omega
    · have hn := u_notc
      go_wp2
      go_ret
      exact ⟨ret_i (by rw [hx.out, List.take_of_length_le (by simp; omega)]; rfl), rfl⟩
set_option maxHeartbeats 400000 in
theorem rcheck_any (s : ByteArray) (w : World) (hs : s.size ≤ maxLen) :
    Calls Try.prog 17 #[.string s] w fun e w' => e = .returned (.int .u32 (u (crcL s.data.toList))) ∧ w = w' := by
  unfold maxLen at hs
  go_enter Try.func17, Try.ntmps17
  go_wp2
  go_loop [3, 4, 5] (fun v i _ => ∃ k : Nat, ∃ x : BitVec 32, k ≤ s.size ∧ i = .int .i64 k ∧ v = .int .u32 (u x) ∧ Hid (x = crcRun (BitVec.allOnes 32) (s.data.toList.take k))) (fun _ i _ => s.size - (intOf i).toNat)
  case atStart => exact ⟨0, BitVec.allOnes 32, Nat.zero_le _, rfl, rfl, Lib.hid rfl⟩
  case round =>
    obtain ⟨k, x, hk, rfl, rfl, hx⟩ := hrel
    by_cases hlt : k < s.size
    · have hb := wb_u
      have hxo := u_xor
      have hmo := u_mod
      go_wp2
      generalize hy : x ^^^ wb s[k] = y
      have HY := Lib.hid hy
      clear hy hb hxo hmo
      go_loop [3, 5] (fun v i => ∃ j : Nat, ∃ z : BitVec 32, j ≤ 8 ∧ i = .int .i64 j ∧ v = .int .u32 (u z) ∧ Hid (z = crcN j y)) (fun _ i => 8 - (intOf i).toNat)
      case atStart => exact ⟨0, y, Nat.zero_le _, rfl, rfl, Lib.hid rfl⟩
      case round =>
        obtain ⟨j, z, hj, rfl, rfl, hz⟩ := hrel
        by_cases hl8 : j < 8
        · have z0 := u_nonneg z
          have z1 : u z ≤ 4294967295 := by have := u_lt z; omega
          by_cases hodd : u z % 2 = 1
          · have ho : (u z % 2 == 1) = true := by simp [hodd]
            have HO := Lib.hid hodd
            clear hodd
            go_wp2
            go_round
            case rel => exact ⟨j + 1, crcBit z, by omega, by go_num, by rw [u_poly, crcBit_odd z HO.out, u_shr1, u_xor], Lib.hid (by rw [crcN, hz.out])⟩
            case measure => simp [intOf]; omega
          · have ho : (u z % 2 == 1) = false := by simp [hodd]
            have HO := Lib.hid hodd
            clear hodd
            go_wp2
            go_round
            case rel => exact ⟨j + 1, crcBit z, by omega, by go_num, by rw [crcBit_even z HO.out, u_shr1], Lib.hid (by rw [crcN, hz.out])⟩
            case measure => simp [intOf]; omega
        · go_wp2
          go_round
          case rel => exact ⟨k + 1, z, by omega, by go_num, rfl, Lib.hid (by rw [take_snoc s k hlt, crcRun_snoc, ← hx.out, hz.out, show j = 8 by omega, ← HY.out]; rfl)⟩
          case measure => simp [intOf]; omega
    · go_wp2
      go_ret
      refine ⟨ret_i ?_, rfl⟩
      rw [u_ones, u_xor, hx.out, List.take_of_length_le (by simp; omega), BitVec.xor_allOnes]
      rfl
end Go.Proofs.Ytmjlijhikmjmlaa
