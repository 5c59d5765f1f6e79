/- The walk of awake; of FrameWraps. -/
import Derived.Test.YtmjlijhikmjmlaaScan
namespace Go.Proofs.Ytmjlijhikmjmlaa
open Go Go.RowKit

set_option maxRecDepth 100000 in
set_option maxHeartbeats 1000000 in
theorem awake_any (w : World) : Calls Try.prog 8 #[] w fun e w' => e = .returned (.bool true) ∧ Below w.heap.size w w' := by
  have P : Hid (∀ w, Calls Try.prog 9 #[.string ⟨#[97, 98]⟩] w fun e w' => e = .returned (.tuple #[.string (txt (frameL [97, 98])), .bool true]) ∧ Below w.heap.size w w') := Lib.hid (wrap_any [97, 98] (by simp))
  have hc : binOp .add 9 (.string (txt (frameL [97, 98]))) (.string ⟨#[120]⟩) = pure (.string (txt (frameL [97, 98] ++ [120]))) := cat (frameL [97, 98]) [120] (by rw [frameL_length]; simp)
  have S : Hid (∀ w, Calls Try.prog 11 #[.string (txt (frameL [97, 98] ++ [120]))] w fun e w' => ∃ a c, e = .returned (.tuple #[.slice a 1 c, .int .i64 14]) ∧ (∃ b off, a = some ⟨b, off, none⟩ ∧ w'.cell? ⟨b, off, none⟩ = some (.string ⟨#[97, 98]⟩)) ∧ Below w.heap.size w w') := Lib.hid fun w => by
    refine (scan_any _ (by rw [List.length_append, frameL_length]; simp) w).mono ?_
    rintro e w' ⟨v, xs, rfl, ho, hs, hb⟩
    have h1 : Scanned (frameL [97, 98] ++ [120]) [[97, 98]] := ⟨[120], by rw [flat_cons, flat_nil, List.append_nil], first_short (by simp), fun x hx => by rw [List.mem_singleton.1 hx]; simp⟩
    have := hs.unique h1
    subst this
    obtain ⟨a, c, rfl, hr, _, _⟩ := ho.rd
    obtain ⟨b, off, ha, hcell⟩ := hr 0 (by simp)
    refine ⟨a, c, ?_, ⟨b, off, ha, hcell⟩, hb⟩
    rw [flat_cons, flat_nil, List.append_nil, frameL_length]
    rfl
  have hz : (txt (frameL [97, 98])).size = 14 := by rw [txt_size, frameL_length]; rfl
  generalize txt (frameL [97, 98] ++ [120]) = G at hc S
  generalize txt (frameL [97, 98]) = F at hc hz P
  go_enter Try.func8, Try.ntmps8
  go_wp2_with (first
    | (go_at_call 9; (with_reducible refine (P.out _).mono ?_); rintro e w1 ⟨rfl, hb1⟩)
    | (go_at_call 11; (with_reducible refine (S.out _).mono ?_); rintro e w2 ⟨a, c, rfl, ⟨b, off, rfl, hcell⟩, hb2⟩))
  go_ret
  exact ⟨rfl, hb1.trans (hb2.mono hb1.size)⟩
set_option maxRecDepth 100000 in
set_option maxHeartbeats 1000000 in
theorem frameWraps_any (p : List UInt8) (hp : p.length ≤ 5000) (w : World) : Calls Try.prog 3 #[.string (txt p)] w fun e w' => e = .returned (.bool true) ∧ Below w.heap.size w w' := by
  have hz := txt_size p
  have hp' : (p.length : Int) ≤ 5000 := by omega
  have A := Lib.hid awake_any
  have P := Lib.hid (wrap_any p (by omega))
  have R := Lib.hid (rwrap_any p (by omega))
  generalize txt (frameL p) = F at P R
  go_enter Try.func3, Try.ntmps3
  go_wp2_with (first
    | (go_at_call 8; (with_reducible refine (A.out _).mono ?_); rintro e w1 ⟨rfl, hb1⟩)
    | (go_at_call 9; (with_reducible refine (P.out _).mono ?_); rintro e w2 ⟨rfl, hb2⟩)
    | (go_at_call 10; (with_reducible refine (R.out _).mono ?_); rintro e w3 ⟨rfl, hb3⟩))
  go_ret
  have h1 := hb1.size
  have h2 := hb2.size
  exact ⟨by simp, (hb1.trans (hb2.mono h1)).trans (hb3.mono (Nat.le_trans h1 h2))⟩
set_option maxRecDepth 100000 in
set_option maxHeartbeats 1000000 in
theorem frameWraps_long (s : ByteArray) (hs : 5000 < s.size) (w : World) : Calls Try.prog 3 #[.string s] w fun e w' => e = .returned (.bool true) ∧ Below w.heap.size w w' := by
  have hs' : (5000 : Int) < (s.size : Int) := by omega
  have A := Lib.hid awake_any
  go_enter Try.func3, Try.ntmps3
  go_wp2_with (go_at_call 8; (with_reducible refine (A.out _).mono ?_); rintro e w1 ⟨rfl, hb1⟩)
  go_ret
  exact ⟨rfl, hb1⟩
end Go.Proofs.Ytmjlijhikmjmlaa
