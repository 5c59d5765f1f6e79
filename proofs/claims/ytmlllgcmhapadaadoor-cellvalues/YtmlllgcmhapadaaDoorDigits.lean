/- The walk of the document's Digits. -/
import Derived.Test.YtmlllgcmhapadaaDoorShow
import Derived.Lib.ItoaLen
namespace Go.Proofs.YtmlllgcmhapadaaDoor
open Go Go.RowKit

theorem conv_one (b : UInt8) (W : World) : (convert 43 9 (.slice (some ⟨W.heap.size, 0, none⟩) 1 1)).run Tryd.prog (W.alloc (.cells #[.int .u8 (b.toNat : Int)] 5)) = .ok (.string (txt [b])) (W.alloc (.cells #[.int .u8 (b.toNat : Int)] 5)) := by
  refine run_convert_bytes_back _ 43 9 5 ⟨W.heap.size, 0, none⟩ 1 [b] Tryd.underlying43 Tryd.underlying5 Tryd.underlying9 ?_
  intro j hj
  obtain rfl : j = 0 := by simp at hj; omega
  rw [add0, cell_of_row _ _ _ _ _ _ (heap_alloc_new W _)]
  rfl
theorem dec_small (u : Nat) (h : u < 10) : Lib.decDigits u = [UInt8.ofNat (48 + u)] := by rw [Lib.decDigits, dif_pos h]
theorem dec_big (u : Nat) (h : ¬ u < 10) : Lib.decDigits u = Lib.decDigits (u / 10) ++ [UInt8.ofNat (48 + u % 10)] := by rw [Lib.decDigits, dif_neg h]

set_option maxRecDepth 100000 in
set_option maxHeartbeats 1000000 in
theorem digits_nonneg (u0 : Nat) (hu : u0 ≤ 9223372036854775807) (w : World) :
    Calls Tryd.prog 29 #[.int .i64 (u0 : Int)] w fun e w' => e = .returned (.string (txt (Lib.decDigits u0))) ∧ Below w.heap.size w w' := by
  have hu' : (u0 : Int) ≤ 9223372036854775807 := by omega
  have hu0 : (0 : Int) ≤ (u0 : Int) := by omega
  have hne : ((u0 : Int) == -9223372036854775808) = false := beq_eq_false_iff_ne.2 (by omega)
  have HLn : Hid ((Lib.decDigits u0).length ≤ 20) := Lib.hid (by rw [Lib.decDigits_length]; exact Lib.nDigits_le20 u0 (by omega))
  go_enter Tryd.func29, Tryd.ntmps29
  go_wp2
  go_loopw [0, 3] (fun n s wr => ∃ (u : Nat) (l : List UInt8), n = .int .i64 (u : Int) ∧ u ≤ 9223372036854775807 ∧ s = .string (txt l) ∧ Hid (Lib.decDigits u ++ l = Lib.decDigits u0) ∧ Ch (fun _ => False) w wr) (fun n _ _ => (intOf n).toNat)
  case atStart => exact ⟨u0, [], rfl, hu, rfl, Lib.hid (by simp), Ch.refl _ _⟩
  case round =>
    clear hne hu0 hu'
    obtain ⟨u, l, rfl, hu1, rfl, HD, hch⟩ := hrel
    have hu' : (u : Int) ≤ 9223372036854775807 := by omega
    have hu0 : (0 : Int) ≤ (u : Int) := by omega
    have hll : l.length ≤ 20 := by
      have h1 := congrArg List.length HD.out
      rw [List.length_append] at h1
      have := HLn.out
      omega
    by_cases h9 : 9 < u
    · have h9' : 9 < (u : Int) := by omega
      have hx : 48 + (u : Int) % 10 = ((UInt8.ofNat (48 + u % 10)).toNat : Int) := by rw [UInt8.toNat_ofNat']; omega
      have HB := Lib.hid (dec_big u (by omega))
      generalize UInt8.ofNat (48 + u % 10) = b at hx HB
      have hcv := conv_one b
      have hct := cat [b] l (by simp; omega)
      have hq : ((u / 10 : Nat) : Int) = (u : Int) / 10 := by omega
      have HQ := Lib.hid hq
      clear hq
      go_wp2
      refine ⟨⟨u / 10, b :: l, by rw [HQ.out], by omega, rfl, Lib.hid ?_, hch.tr (Ch.alloc _ _ _)⟩, by simp [intOf]; omega⟩
      rw [← HD.out, HB.out]
      simp
    · have h9' : (u : Int) ≤ 9 := by omega
      have hx : 48 + (u : Int) = ((UInt8.ofNat (48 + u)).toNat : Int) := by rw [UInt8.toNat_ofNat']; omega
      have HB := Lib.hid (dec_small u (by omega))
      generalize UInt8.ofNat (48 + u) = b at hx HB
      have hcv := conv_one b
      have hct := cat [b] l (by simp; omega)
      go_wp2
      go_ret
      exact ⟨by rw [← HD.out, HB.out]; rfl, (hch.tr (Ch.alloc _ _ _)).new⟩
set_option maxRecDepth 100000 in
set_option maxHeartbeats 1000000 in
theorem digits_neg (u : Nat) (h1 : 1 ≤ u) (hu : u ≤ 9223372036854775807) (w : World) :
    Calls Tryd.prog 29 #[.int .i64 (-(u : Int))] w fun e w' => e = .returned (.string (txt (45 :: Lib.decDigits u))) ∧ Below w.heap.size w w' := by
  have hu' : (u : Int) ≤ 9223372036854775807 := by omega
  have hu0 : (1 : Int) ≤ (u : Int) := by omega
  have hn : -(u : Int) < 0 := by omega
  have hne : (-(u : Int) == -9223372036854775808) = false := beq_eq_false_iff_ne.2 (by omega)
  have HC := Lib.hid (digits_nonneg u hu)
  have hl : (Lib.decDigits u).length ≤ 20 := by rw [Lib.decDigits_length]; exact Lib.nDigits_le20 u (by omega)
  have hct : binOp .add 9 (.string ⟨#[45]⟩) (.string (txt (Lib.decDigits u))) = pure (.string (txt ([45] ++ Lib.decDigits u))) := cat [45] (Lib.decDigits u) (by simp; omega)
  clear hl
  generalize Lib.decDigits u = d at HC hct
  go_enter Tryd.func29, Tryd.ntmps29
  go_wp2_with (go_at_call 29; (with_reducible refine (HC.out _).mono ?_); rintro e w1 ⟨rfl, hb1⟩)
  go_ret
  exact ⟨rfl, hb1⟩
def minText : List UInt8 := [45, 57, 50, 50, 51, 51, 55, 50, 48, 51, 54, 56, 53, 52, 55, 55, 53, 56, 48, 56]
theorem itoa_min : Lib.itoa (-9223372036854775808) = minText := by decide +kernel
set_option maxRecDepth 100000 in
set_option maxHeartbeats 1000000 in
theorem digits_min (w : World) : Calls Tryd.prog 29 #[.int .i64 (-9223372036854775808)] w fun e w' => e = .returned (.string (txt minText)) ∧ Below w.heap.size w w' := by
  go_enter Tryd.func29, Tryd.ntmps29
  go_wp2
  go_ret
  exact ⟨rfl, Below.refl _ _⟩
theorem digits_any (n : Int) (h0 : -9223372036854775808 ≤ n) (h1 : n ≤ 9223372036854775807) (w : World) :
    Calls Tryd.prog 29 #[.int .i64 n] w fun e w' => e = .returned (.string (txt (Lib.itoa n))) ∧ Below w.heap.size w w' := by
  by_cases hm : n = -9223372036854775808
  · subst hm
    rw [itoa_min]
    exact digits_min w
  by_cases hn : n < 0
  · obtain ⟨u, rfl⟩ : ∃ u : Nat, n = -(u : Int) := ⟨n.natAbs, by omega⟩
    rw [Lib.itoa_neg u (by omega)]
    exact digits_neg u (by omega) (by omega) w
  · obtain ⟨u, rfl⟩ : ∃ u : Nat, n = u := ⟨n.toNat, by omega⟩
    rw [Lib.itoa_nonneg]
    exact digits_nonneg u (by omega) w
end Go.Proofs.YtmlllgcmhapadaaDoor
