/- The law SeqSorted. -/
import Derived.Test.YtlgamaldngkdnaaSortW
import Derived.Test.YtlgamaldngkdnaaLists
namespace Go.Proofs.Ytlgamaldngkdnaa
open Go Go.RowKit

theorem rise_riseN {ys : List Pr} (h : Rise ys) : ∀ n, n ≤ ys.length → riseN ys n = true
  | 0, _ => rfl
  | n + 1, hn => by
    rw [riseN, rise_riseN h n (by omega), Bool.true_and]
    by_cases e : n = 0
    · rw [e]; rfl
    · rw [h (n - 1) n (by omega) (by omega), Bool.or_true]

set_option maxRecDepth 100000 in
set_option maxHeartbeats 2000000 in
theorem seqSorted_any (a : Option Addr) (cap : Nat) (xs : List Pr) (w : World) (hr : Rd w a xs) :
    Calls Try.prog 4 #[.slice a xs.length cap] w fun e w' => e = .returned (.bool true) ∧ Ch (fun _ => False) w w' := by
  by_cases hx : xs.length ≤ 300
  · have hi1 : (xs.length : Int) ≤ 300 := by omega
    go_enter Try.func4, Try.ntmps4
    go_wp2_with fail
    refine (awake_any w).mono ?_
    rintro e w1 ⟨rfl, hw1⟩
    have hr1 := hr.keep hw1 (fun _ _ => id)
    clear hr
    go_wp2_with fail
    refine (pairs_any a cap xs (by omega) w1 hr1).mono ?_
    rintro e w2 ⟨v2, rfl, ho2, hc2⟩
    have hw2 := hw1.tr hc2
    have hr2 := hr1.keep hc2 (fun _ _ => id)
    clear hr1 hc2 hw1
    go_wp2_with fail
    refine (sorted_any _ v2 xs (by omega) w2 ho2).mono ?_
    rintro e w3 ⟨v3, ys, rfl, ho3, hl3, hs3, hc3⟩
    have hw3 := hw2.tr hc3
    have hr3 := hr2.keep hc3 (fun _ _ => id)
    have ho23 := ho2.keep hc3 (fun _ _ _ => id)
    clear hr2 hc3 hw2 ho2
    go_wp2_with fail
    refine (rsorted_sp a cap xs (by omega) w3 hr3).mono ?_
    rintro e w4 ⟨v4, zs, rfl, ho4, -, hs4, hc4⟩
    obtain rfl := hs4.unique hs3
    have hw4 := hw3.tr hc4
    have hr4 := hr3.keep hc4 (fun _ _ => id)
    have ho24 := ho23.keep hc4 (fun _ _ _ => id)
    have ho34 := ho3.keep hc4 (fun _ _ _ => id)
    have HRi := Lib.hid (rise_riseN hs3.1 zs.length (Nat.le_refl _))
    clear hr3 hc4 hw3 ho23 ho3 hs3 hs4
    obtain ⟨g2, k2, rfl, hq2, -⟩ := ho24.rd
    obtain ⟨g3, k3, rfl, hq3, -⟩ := ho34.rd
    obtain ⟨g4, k4, rfl, hq4, -⟩ := ho4.rd
    clear ho4 ho24
    go_wp2_with fail
    refine (same_any g3 g4 k3 k4 zs (by omega) w4 hq3 hq4).mono ?_
    rintro e w5 ⟨rfl, hc5⟩
    have hw5 := hw4.tr hc5
    have hr5 := hr4.keep hc5 (fun _ _ => id)
    have hq5 := hq2.keep hc5 (fun _ _ => id)
    have ho5 := ho34.keep hc5 (fun _ _ _ => id)
    clear hq3 hq4 hc5 hw4 hr4 hq2 ho34
    go_wp2_with fail
    refine (same_any g2 a k2 cap xs (by omega) w5 hq5 hr5).mono ?_
    rintro e w6 ⟨rfl, hc6⟩
    have hw6 := hw5.tr hc6
    have ho6 := ho5.keep hc6 (fun _ _ _ => id)
    clear hq5 hc6 hw5 hr5 ho5
    go_wp2_with fail
    refine (of_any _ _ zs (by omega) w6 ho6).mono ?_
    rintro e w7 ⟨b7, v7, rfl, hb7, hg7, hc7⟩
    have hw7 := hw6.tr hc7
    clear ho6 hc7 hw6 hb7
    go_wp2_with fail
    refine (rises_of b7 _ v7 zs (by omega) w7 hg7).mono ?_
    rintro e w8 ⟨rfl, hc8⟩
    rw [HRi.out]
    have hw8 := hw7.tr hc8
    clear hg7 hc8 hw7
    go_wp2_with fail
    go_ret
    exact ⟨rfl, hw8⟩
  · have hi1 : 300 < (xs.length : Int) := by omega
    go_enter Try.func4, Try.ntmps4
    go_wp2_with fail
    refine (awake_any w).mono ?_
    rintro e w1 ⟨rfl, hw1⟩
    go_wp2_with fail
    go_ret
    exact ⟨rfl, hw1⟩
end Go.Proofs.Ytlgamaldngkdnaa
