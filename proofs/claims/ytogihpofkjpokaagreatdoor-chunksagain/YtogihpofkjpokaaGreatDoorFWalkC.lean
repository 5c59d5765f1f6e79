/- Walks of Check. -/
import Derived.Test.YtogihpofkjpokaaGreatDoorBase
import Derived.Test.YtogihpofkjpokaaGreatDoorFCrc
namespace Go.Proofs.YtogihpofkjpokaaGreatDoor.F5
open Go.RowKit

theorem ret_i {k : IntKind} {a b : Int} (h : a = b) : Ending.returned (.int k a) = .returned (.int k b) := by rw [h]
set_option maxHeartbeats 400000 in
theorem step_any (v : BitVec 32) (w : World) :
    Calls Tryz.prog 94 #[.int .u32 (u v)] w fun e w' => e = .returned (.int .u32 (u (crcN 8 v))) ∧ w = w' := by
  go_enter Tryz.func94, Tryz.ntmps94
  go_wp2
  go_loop [0, 4] (fun s i => ∃ k : Nat, ∃ x : BitVec 32, k ≤ 8 ∧ i = .int .i64 k ∧ s = .int .u32 (u x) ∧ Hid (x = crcN k v)) (fun _ i => 8 - (intOf i).toNat)
  case atStart => exact ⟨0, v, Nat.zero_le _, rfl, rfl, Lib.hid rfl⟩
  case round =>
    obtain ⟨k, x, hk, rfl, rfl, hx⟩ := hrel
    by_cases hlt : k < 8
    · go_wp2
      go_round
      case rel => exact ⟨k + 1, crcBit x, by omega, by go_num, by rw [crcBit_u], Lib.hid (by rw [crcN, hx.out])⟩
      case measure => simp [intOf]; omega
    · go_wp2
      go_ret
      exact ⟨ret_i (by rw [hx.out, show k = 8 by omega]), rfl⟩

set_option maxHeartbeats 400000 in
theorem check_any (s : ByteArray) (w : World) (hs : s.size ≤ maxLen) :
    Calls Tryz.prog 76 #[.string s] w fun e w' => e = .returned (.int .u32 (u (crcL s.data.toList))) ∧ w = w' := by
  unfold maxLen at hs
  go_enter Tryz.func76, Tryz.ntmps76
  go_wp2
  go_loop [3, 7] (fun v i => ∃ k : Nat, ∃ x : BitVec 32, k ≤ s.size ∧ i = .int .i64 k ∧ v = .int .u32 (u x) ∧ Hid (x = crcRun (BitVec.allOnes 32) (s.data.toList.take k))) (fun _ i => s.size - (intOf i).toNat)
  case atStart => exact ⟨0, BitVec.allOnes 32, Nat.zero_le _, rfl, rfl, Lib.hid rfl⟩
  case round =>
    obtain ⟨k, x, hk, rfl, rfl, hx⟩ := hrel
    by_cases hlt : k < s.size
    · have hb := wb_u
      have hxo := u_xor
      have hmo := u_mod
      go_wp2_with (go_at_call 94; refine (step_any _ _).mono ?_; rintro e w' ⟨rfl, rfl⟩)
      go_round
      case rel => exact ⟨k + 1, _, by omega, by go_num, rfl, Lib.hid (by rw [take_snoc s k hlt, crcRun_snoc, ← hx.out]; rfl)⟩
      case measure => simp [intOf]; omega
    · have hn := u_notc
      go_wp2
      go_ret
      exact ⟨ret_i (by rw [hx.out, List.take_of_length_le (by simp; omega)]; rfl), rfl⟩
end Go.Proofs.YtogihpofkjpokaaGreatDoor.F5
