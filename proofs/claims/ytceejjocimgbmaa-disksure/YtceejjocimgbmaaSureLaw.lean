/- The walk of the law DiskSure, whole. -/
import Derived.Test.YtceejjocimgbmaaSure
namespace Go.Proofs.Ytceejjocimgbmaa
open Go Go.RowKit Go.Maps

set_option maxRecDepth 100000 in
set_option maxHeartbeats 4000000 in
theorem diskSure_long (a0 : Option Addr) (cap n : Nat) (sy ke : Int) (hn : 20 < n) (hn2 : n ≤ 9223372036854775807) (w : World) :
    Calls Try.prog 4 #[.slice a0 n cap, .int .i64 sy, .int .i64 ke] w fun e w' => e = .returned (.bool true) ∧ Below w.heap.size w w' := by
  have H1 := Lib.hid (awake_any w)
  have H2 : Hid (∀ W, _) := Lib.hid fun W => new_up W 100000 (by omega) (by omega)
  have hnI : (20 : Int) < (n : Int) := by omega
  unfold dp at H2
  go_enter Try.func4, Try.ntmps4
  go_wp2_with (first
    | (go_at_call 7; (with_reducible refine H1.out.mono ?_); rintro e w1 ⟨rfl, b1⟩; have z1 := b1.size)
    | (go_at_call 8; (with_reducible refine (H2.out _).mono ?_); rintro e w2 ⟨rfl, h2, b2, z2⟩))
  go_ret
  exact ⟨rfl, b1.trans (b2.mono z1)⟩

set_option maxRecDepth 100000 in
set_option maxHeartbeats 8000000 in
theorem diskSure_any (a0 : Option Addr) (cap : Nat) (xs : List (List UInt8)) (sy ke : Int) (hx : xs.length ≤ 20) (w : World) (hR : RdS w a0 xs) (hsz : ∀ x ∈ xs, x.length ≤ maxLen) :
    Calls Try.prog 4 #[.slice a0 xs.length cap, .int .i64 sy, .int .i64 ke] w fun e w' => e = .returned (.bool true) ∧ Below w.heap.size w w' := by
  have H1 := Lib.hid (awake_any w)
  have H2 : Hid (∀ W, _) := Lib.hid fun W => new_up W 100000 (by omega) (by omega)
  have hxI : (xs.length : Int) ≤ 20 := by omega
  have HR := Lib.hid hR
  have HS := Lib.hid hsz
  clear hR hsz
  unfold dp at H2
  go_enter Try.func4, Try.ntmps4
  go_wp2_with (first
    | (go_at_call 7; (with_reducible refine H1.out.mono ?_); rintro e w1 ⟨rfl, b1⟩; have z1 := b1.size)
    | (go_at_call 8; (with_reducible refine (H2.out _).mono ?_); rintro e w2 ⟨rfl, h2, b2, z2⟩))
  have HI : Hid (SureI w w2 w1.heap.size 0 ⟨#[]⟩ ⟨#[]⟩) := Lib.hid ⟨(Ch.of_new b1).tr (Ch.of_below (b2.mono z1)), by omega, z1, h2⟩
  clear H1 H2 b1 b2 z1 z2 h2
  generalize w1.heap.size = b at *
  go_loopw [9, 10, 26] (fun su al i wr => ∃ (ii : Nat) (s a : ByteArray), i = .int .i64 (ii : Int) ∧ ii ≤ xs.length ∧ su = .string s ∧ al = .string a ∧ s.size ≤ a.size ∧ a.size ≤ 200 * ii ∧ Hid (SureI w wr b ii s a)) (fun _ _ i _ => xs.length - (intOf i).toNat)
  case atStart => exact ⟨0, _, _, rfl, Nat.zero_le _, rfl, rfl, Nat.le_refl _, Nat.zero_le _, HI⟩
  case round =>
    clear HI
    obtain ⟨ii, s, a, rfl, hi, rfl, rfl, hsa, ha, HC⟩ := hrel
    have haI : (a.size : Int) ≤ 200 * (ii : Int) := by omega
    by_cases hlt : ii < xs.length
    · have hlt' : (ii : Int) < (xs.length : Int) := by omega
      have hi0 : (0 : Int) ≤ (ii : Int) := by omega
      obtain ⟨b0, off, rfl, hc0⟩ := HR.out ii hlt
      have hc1 : wr.cell? ⟨b0, off + ii, none⟩ = some (.string ⟨(xs.getD ii []).toArray⟩) := HC.out.ch.cell hc0 (by have := World.block_lt_of_cell? _ _ hc0; simp only at this ⊢; omega)
      have htl : (⟨(xs.getD ii []).toArray⟩ : ByteArray).size ≤ maxLen := by
        have e : xs.getD ii [] = xs[ii] := by rw [List.getD_eq_getElem?_getD, List.getElem?_eq_getElem hlt]; rfl
        show (xs.getD ii []).toArray.size ≤ _
        rw [List.size_toArray, e]
        exact HS.out _ (List.getElem_mem hlt)
      clear hc0
      generalize (⟨(xs.getD ii []).toArray⟩ : ByteArray) = t at *
      unfold maxLen at htl
      by_cases hbig : 200 < t.size
      · have hbig' : (200 : Int) < (t.size : Int) := by omega
        go_wp2_with fail
        go_ret
        refine ⟨rfl, Ch.below HC.out.ch (Nat.le_refl _) ?_⟩
        intro k hk h
        omega
      · have hbig' : (t.size : Int) ≤ 200 := by omega
        have HA := Lib.hid (HC.out.app (t := t) hsa ha (by omega) (by omega))
        have HY : Hid (∀ W, SureI w W b (ii + 1) s (a ++ t) → _) := Lib.hid fun W h => SureI.sync h
        unfold dp at HA HY
        have hsz2 : (a ++ t).size = a.size + t.size := by simp
        clear HC
        by_cases hsy : sy = (ii : Int)
        · subst hsy
          go_wp2_with (first
            | (go_at_call 10; (with_reducible refine HA.out.mono ?_); rintro e w4 ⟨rfl, h4⟩)
            | (go_at_call 15; (with_reducible refine (HY.out _ h4).mono ?_); rintro e w5 ⟨rfl, h5⟩))
          go_roundw
          case rel => exact ⟨ii + 1, _, _, by go_num, by omega, rfl, rfl, Nat.le_refl _, by rw [hsz2]; omega, Lib.hid h5⟩
          case measure => simp [intOf]; omega
        · have hsy' : ¬ (ii : Int) = sy := fun e => hsy e.symm
          go_wp2_with (first
            | (go_at_call 10; (with_reducible refine HA.out.mono ?_); rintro e w4 ⟨rfl, h4⟩))
          go_roundw
          case rel => exact ⟨ii + 1, _, _, by go_num, by omega, rfl, rfl, by rw [hsz2]; omega, by rw [hsz2]; omega, Lib.hid h4⟩
          case measure => simp [intOf]; omega
    · have hlt' : (xs.length : Int) ≤ (ii : Int) := by omega
      have ej : ii = xs.length := by omega
      subst ej
      have hU := HC.out.up
      have hc := HC.out.ch
      have hbb := HC.out.base
      have HF := Lib.hid (fall_new hU (Nat.le_trans (lgS_len _ _ _) (by omega)) ke 3)
      rw [lgS_fall, size_data] at HF
      clear hU HC HR HS
      cases xs with
      | nil =>
        have HD : Hid (∀ W, Up b W b (lgS 0 (a.data.toList.take (kept a.size s.size ke)) (kept a.size s.size ke)) → Calls Try.prog 17 #[dp b, .string ⟨#[102]⟩] W fun e w' => e = .returned (.tuple #[.string ⟨#[]⟩, .int .i64 4]) ∧ w' = W) := Lib.hid fun W h => by
          have := read_any h ⟨#[102]⟩
          rwa [show (⟨#[102]⟩ : ByteArray).data.toList = [102] from rfl, (lgS_none _ _).1, (lgS_none _ _).2] at this
        unfold dp at HF HD
        go_wp2_with (first
          | (go_at_call 16; (with_reducible refine HF.out.mono ?_); rintro e w5 ⟨rfl, h5, b5⟩)
          | (go_at_call 17; (with_reducible refine (HD.out _ h5).mono ?_); rintro e w6 ⟨rfl, rfl⟩))
        go_ret
        refine ⟨rfl, Ch.below (hc.tr (b5.mono fun k _ hk => Nat.le_trans hbb hk)) (Nat.le_refl _) ?_⟩
        intro k hk h
        omega
      | cons x r =>
        have HD : Hid (∀ W, Up b W b (lgS (x :: r).length (a.data.toList.take (kept a.size s.size ke)) (kept a.size s.size ke)) → Calls Try.prog 17 #[dp b, .string ⟨#[102]⟩] W fun e w' => e = .returned (.tuple #[.string (fellB s a ke), .int .i64 0]) ∧ w' = W) := Lib.hid fun W h => by
          have := read_any h ⟨#[102]⟩
          rwa [show (⟨#[102]⟩ : ByteArray).data.toList = [102] from rfl, List.length_cons, (lgS_read _ _ _).1, (lgS_read _ _ _).2] at this
        have hk := kept_le ke hsa
        have hk2 := kept_int ke hsa
        have hk3 : s.size ≤ kept a.size s.size ke := by unfold kept; omega
        have hfs := fellB_size s a ke hsa
        have hfe := fellB_ext s a ke hsa
        have hsl : ∀ W : World, (Instr.slice 9 (.string a) none (some (.int .i64 ((fellB s a ke).size : Int))) none).run Try.prog W = .ok (.string (fellB s a ke)) W := by
          intro W
          rw [run_slice_string_h (P := Try.prog) W 9 a Try.underlying9 .i64 _ (by omega) (by omega), Int.toNat_natCast, hfe]
        have hq : ((fellB s a ke).size : Int) = (s.size : Int) + max 0 (min ke ((a.size : Int) - (s.size : Int))) := by rw [hfs, ← hk2]; omega
        have hq1 : (s.size : Int) ≤ ((fellB s a ke).size : Int) := by omega
        have hq2 : ((fellB s a ke).size : Int) ≤ (a.size : Int) := by omega
        have hsI : (s.size : Int) ≤ (a.size : Int) := by omega
        have haI2 : (a.size : Int) ≤ 4000 := by omega
        have hx1 : (1 : Int) ≤ ((x :: r).length : Int) := by simp only [List.length_cons]; omega
        have hq3 : ((fellB s a ke).size : Int) ≤ (s.size : Int) + max 0 (min ke ((a.size : Int) - (s.size : Int))) := by omega
        have hq4 : (s.size : Int) + max 0 (min ke ((a.size : Int) - (s.size : Int))) ≤ ((fellB s a ke).size : Int) := by omega
        generalize (x :: r).length = L at *
        generalize fellB s a ke = f at *
        clear hk hk2 hk3 hfs hfe ha haI hq
        unfold dp at HF HD
        go_wp2_with (first
          | (go_at_call 16; (with_reducible refine HF.out.mono ?_); rintro e w5 ⟨rfl, h5, b5⟩)
          | (go_at_call 17; (with_reducible refine (HD.out _ h5).mono ?_); rintro e w6 ⟨rfl, rfl⟩))
        go_ret
        refine ⟨ret_bool (beq_iff_eq.2 (by omega)), Ch.below (hc.tr (b5.mono fun k _ hk => Nat.le_trans hbb hk)) (Nat.le_refl _) ?_⟩
        intro k hk h
        omega
end Go.Proofs.Ytceejjocimgbmaa
