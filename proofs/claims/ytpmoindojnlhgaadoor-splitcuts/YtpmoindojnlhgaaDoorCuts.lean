/- The walk of SplitCuts. -/
import Derived.Test.YtpmoindojnlhgaaDoorCutW
namespace Go.Proofs.YtpmoindojnlhgaaDoor
open Go Go.RowKit

theorem Few.each {xs : List (List UInt8)} (h : Few xs) : xs.length ≤ 1000 ∧ ∀ x ∈ xs, x.length ≤ 100000 := ⟨by have := h.1; omega, fun x hx => by have := len_tot hx; have := h.2; omega⟩
/-- Cut, as a law meets it. -/
theorem cutC {w : World} (hK : S1.KR w) {a : Option Addr} {c : Nat} {xs : List (List UInt8)} (hR : RdT w a xs) (hl : xs.length ≤ 1000) (hx : ∀ x ∈ xs, x.length ≤ 100000) :
    Calls Tryd.prog 11 #[.slice a xs.length c] w fun e w' => ∃ b d, e = .returned (.slice b (cutG E 0 xs).length d) ∧ RdN w' b (cutG E 0 xs) ∧ (cutG E 0 xs).length ≤ d ∧ Below w.heap.size w w' := by
  refine (cut_any hK a c xs hR hl hx).mono ?_
  rintro e w' ⟨v, rfl, ho, hb⟩
  obtain ⟨b, d, rfl, hr⟩ := ho.rd
  refine ⟨b, d, rfl, hr, ?_, hb⟩
  rcases ho.2 with ⟨_, h0⟩ | ⟨g, cap, cur, hv, _, _, hn, _⟩
  · omega
  · cases hv; exact hn
theorem rcutC {w : World} {a : Option Addr} {c : Nat} {xs : List (List UInt8)} (hR : RdT w a xs) (hl : xs.length ≤ 1000) (hx : ∀ x ∈ xs, x.length ≤ 100000) :
    Calls Tryd.prog 12 #[.slice a xs.length c] w fun e w' => ∃ b d, e = .returned (.slice b (cutG E 0 xs).length d) ∧ RdN w' b (cutG E 0 xs) ∧ Below w.heap.size w w' := by
  refine (rcut_any a c xs hR hl hx).mono ?_
  rintro e w' ⟨v, rfl, ho, hb⟩
  obtain ⟨b, d, rfl, hr⟩ := ho.rd
  exact ⟨b, d, rfl, hr, hb⟩
set_option maxRecDepth 100000 in
set_option maxHeartbeats 4000000 in
theorem splitCuts_any {w : World} (hK : S1.KR w) (a : Option Addr) (c : Nat) (xs : List (List UInt8)) (hR : RdT w a xs) (hx : ∀ x ∈ xs, x.length ≤ 140737488355328) (hl : xs.length ≤ maxLen) :
    Calls Tryd.prog 3 #[.slice a xs.length c] w fun e w' => e = .returned (.bool true) ∧ Below w.heap.size w w' := by
  have P6 := Lib.hid (awake_any hK)
  have P7 : Hid (∀ W, Below w.heap.size w W → Calls Tryd.prog 7 #[.slice a xs.length c] W fun e w' => e = .returned (.bool (decide (Few xs))) ∧ w' = W) := Lib.hid fun W hW => few_any (hR.new hW) hx hl
  by_cases hF : Few xs
  · rw [decide_eq_true hF] at P7
    have hl' : (xs.length : Int) ≤ 200 := by have := hF.1; omega
    have hcl := cutG_len E xs 0
    have HR := Lib.hid (And.intro hR (And.intro hF.each (And.intro hK (show (cutG E 0 xs).length ≤ 100000 by have := hF.1; omega))))
    clear hR hx hl hF hK hcl
    go_enter Tryd.func3, Tryd.ntmps3
    go_wp2_with (first
      | (go_at_call 6; (with_reducible refine P6.out.mono ?_); rintro e w1 ⟨rfl, hb1⟩)
      | (go_at_call 7; (with_reducible refine (P7.out _ hb1).mono ?_); rintro e w2 ⟨rfl, hw2⟩; subst w2))
    go_loopw [4, 12] (fun _ i wr => ∃ ii : Nat, i = .int .i64 (ii : Int) ∧ ii ≤ xs.length ∧ Hid (Below w.heap.size w wr)) (fun _ i _ => xs.length - (intOf i).toNat)
    case atStart => exact ⟨0, rfl, Nat.zero_le _, Lib.hid hb1⟩
    case round =>
      obtain ⟨ii, rfl, hi, HI⟩ := hrel
      by_cases hlt : ii < xs.length
      · have hlt' : (ii : Int) < (xs.length : Int) := by omega
        have hi0 : (0 : Int) ≤ (ii : Int) := by omega
        obtain ⟨b, off, rfl, hc1⟩ := (HR.out.1.new HI.out) ii hlt
        rw [getD_at hlt] at hc1
        have hxl := HR.out.2.1.2 _ (List.getElem_mem hlt)
        generalize xs[ii] = x at hc1 hxl
        have PE := Lib.hid (ends_any x hxl wr (HR.out.2.2.1.step HI.out))
        have PR := Lib.hid (rends_any x hxl)
        generalize E x = q at PE PR
        generalize txt x = tx at *
        go_wp2_with (first
          | (go_at_call 8; (with_reducible refine PE.out.mono ?_); rintro e w2 ⟨rfl, hb2⟩)
          | (go_at_call 9; (with_reducible refine (PR.out _).mono ?_); rintro e w3 ⟨rfl, hb3⟩))
        go_roundw
        case rel => exact ⟨ii + 1, by go_num, by omega, Lib.hid (by have z1 := HI.out.size; have z2 := hb2.size; exact (HI.out.trans (hb2.mono z1)).trans (hb3.mono (Nat.le_trans z1 z2)))⟩
        case measure => simp [intOf]; omega
      · have hlt' : (xs.length : Int) ≤ (ii : Int) := by omega
        have PC := Lib.hid (cutC (c := c) (HR.out.2.2.1.step HI.out) (HR.out.1.new HI.out) HR.out.2.1.1 HR.out.2.1.2)
        have PD : Hid (∀ W, Below w.heap.size w W → Calls Tryd.prog 12 #[.slice a xs.length c] W fun e w' => ∃ b d, e = .returned (.slice b (cutG E 0 xs).length d) ∧ RdN w' b (cutG E 0 xs) ∧ Below W.heap.size W w') := Lib.hid fun W hW => rcutC (HR.out.1.new hW) HR.out.2.1.1 HR.out.2.1.2
        have HL := Lib.hid HR.out.2.2.2
        generalize cutG E 0 xs = L at *
        go_wp2_with (first
          | (go_at_call 11; (with_reducible refine PC.out.mono ?_); rintro e w2 ⟨b1, d1, rfl, r1, -, hb2⟩; have z1 := HI.out.size; have hB2 := HI.out.trans (hb2.mono z1))
          | (go_at_call 12; (with_reducible refine (PD.out _ hB2).mono ?_); rintro e w3 ⟨b2, d2, rfl, r2, hb3⟩; have hB3 := hB2.trans (hb3.mono hB2.size); have PS := Lib.hid (same_any (c := d1) (d := d2) (r1.new hb3) r2 HL.out HL.out); rw [decide_eq_true rfl] at PS)
          | (go_at_call 10; (with_reducible refine PS.out.mono ?_); rintro e w4 ⟨rfl, hw4⟩; subst w4))
        go_ret
        exact ⟨rfl, hB3⟩
  · rw [decide_eq_false hF] at P7
    clear hR hx hl hF hK
    go_enter Tryd.func3, Tryd.ntmps3
    go_wp2_with (first
      | (go_at_call 6; (with_reducible refine P6.out.mono ?_); rintro e w1 ⟨rfl, hb1⟩)
      | (go_at_call 7; (with_reducible refine (P7.out _ hb1).mono ?_); rintro e w2 ⟨rfl, hw2⟩; subst w2))
    go_ret
    exact ⟨rfl, hb1⟩
end Go.Proofs.YtpmoindojnlhgaaDoor
