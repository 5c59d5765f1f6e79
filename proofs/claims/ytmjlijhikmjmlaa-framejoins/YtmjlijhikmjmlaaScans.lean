/- The walk of FrameScans. -/
import Derived.Test.YtmjlijhikmjmlaaRScan
import Derived.Test.YtmjlijhikmjmlaaAwake
namespace Go.Proofs.Ytmjlijhikmjmlaa
open Go Go.RowKit

theorem Scanned.few {s : List UInt8} {xs : List (List UInt8)} (h : Scanned s xs) (hs : s.length ≤ 100000) : xs.length ≤ 100000 ∧ (flat xs).length ≤ 100000 := by
  have h1 := flat_count xs
  have h2 := h.length
  omega
set_option maxRecDepth 100000 in
set_option maxHeartbeats 1000000 in
theorem frameScans_any (s : List UInt8) (hs : s.length ≤ 5000) (w : World) : Calls Try.prog 4 #[.string (txt s)] w fun e w' => e = .returned (.bool true) ∧ Below w.heap.size w w' := by
  have hz := txt_size s
  have hs' : (s.length : Int) ≤ 5000 := by omega
  have A := Lib.hid awake_any
  have P : Hid (∀ w, Calls Try.prog 11 #[.string (txt s)] w fun e w' => ∃ a c xs, e = .returned (.tuple #[.slice a xs.length c, .int .i64 ((flat xs).length : Int)]) ∧ RdT w' a xs ∧ Hid (Scanned s xs) ∧ Below w.heap.size w w') := Lib.hid fun w => by
    refine (scan_any s (by omega) w).mono ?_
    rintro e w' ⟨v, xs, rfl, ho, hsc, hb⟩
    obtain ⟨a, c, rfl, hr, _, _⟩ := ho.rd
    exact ⟨a, c, xs, rfl, hr, Lib.hid hsc, hb⟩
  have R : Hid (∀ w, Calls Try.prog 12 #[.string (txt s)] w fun e w' => ∃ a c xs, e = .returned (.tuple #[.slice a xs.length c, .int .i64 ((flat xs).length : Int)]) ∧ RdT w' a xs ∧ Hid (Scanned s xs) ∧ Below w.heap.size w w') := Lib.hid fun w => by
    refine (rscan_any s (by omega) w).mono ?_
    rintro e w' ⟨v, xs, rfl, ho, hsc, hb⟩
    obtain ⟨a, c, rfl, hr, _, _⟩ := ho.rd
    exact ⟨a, c, xs, rfl, hr, Lib.hid hsc, hb⟩
  have HS := Lib.hid hs
  clear hs
  go_enter Try.func4, Try.ntmps4
  go_wp2_with (first
    | (go_at_call 8; (with_reducible refine (A.out _).mono ?_); rintro e w1 ⟨rfl, hb1⟩)
    | (go_at_call 11; (with_reducible refine (P.out _).mono ?_); rintro e w2 ⟨a, c, xs, rfl, hr, hsc, hb2⟩)
    | (go_at_call 12; (with_reducible refine (R.out _).mono ?_); rintro e w3 ⟨a', c', ys, rfl, hr', hsc', hb3⟩
       obtain rfl : xs = ys := hsc.out.unique hsc'.out
       have hS := Lib.hid (same_any w3 a a' c c' xs xs (hr.new hb3) hr' (by have := hsc.out.few (by have := HS.out; omega); omega))
       clear hr hr')
    | (go_at_call 13; (with_reducible refine hS.out.mono ?_); rintro e w4 ⟨rfl, rfl⟩))
  go_ret
  have h1 := hb1.size
  have h2 := hb2.size
  exact ⟨by simp, (hb1.trans (hb2.mono h1)).trans (hb3.mono (Nat.le_trans h1 h2))⟩
set_option maxRecDepth 100000 in
set_option maxHeartbeats 1000000 in
theorem frameScans_long (s : ByteArray) (hs : 5000 < s.size) (w : World) : Calls Try.prog 4 #[.string s] w fun e w' => e = .returned (.bool true) ∧ Below w.heap.size w w' := by
  have hs' : (5000 : Int) < (s.size : Int) := by omega
  have A := Lib.hid awake_any
  go_enter Try.func4, Try.ntmps4
  go_wp2_with (go_at_call 8; (with_reducible refine (A.out _).mono ?_); rintro e w1 ⟨rfl, hb1⟩)
  go_ret
  exact ⟨rfl, hb1⟩
end Go.Proofs.Ytmjlijhikmjmlaa
