/- The walk of SplitBehind. -/
import Derived.Test.YtpmoindojnlhgaaDoorParts
namespace Go.Proofs.YtpmoindojnlhgaaDoor
open Go Go.RowKit
attribute [-go_sem] Builtin.append_

set_option maxRecDepth 100000 in
set_option maxHeartbeats 8000000 in
theorem splitBehind_any {w : World} (hK : S1.KR w) (a : Option Addr) (c : Nat) (xs : List (List UInt8)) (hR : RdT w a xs) (hx : ∀ x ∈ xs, x.length ≤ 140737488355328) (hl : xs.length ≤ maxLen) (hnil : a = none → c = 0) (a1 : Option Addr) (c1 : Nat) (ys : List (List UInt8)) (hR1 : RdT w a1 ys) (hx1 : ∀ x ∈ ys, x.length ≤ 140737488355328) (hl1 : ys.length ≤ maxLen) (hnil1 : a1 = none → c1 = 0) :
    Calls Tryd.prog 5 #[.slice a xs.length c, .slice a1 ys.length c1] w fun e w' => e = .returned (.bool true) ∧ Below w.heap.size w w' := by
  have P6 := Lib.hid (awake_any hK)
  have P7 : Hid (∀ W, Below w.heap.size w W → Calls Tryd.prog 7 #[.slice a xs.length c] W fun e w' => e = .returned (.bool (decide (Few xs))) ∧ w' = W) := Lib.hid fun W hW => few_any (hR.new hW) hx hl
  have P8 : Hid (∀ W, Below w.heap.size w W → Calls Tryd.prog 7 #[.slice a1 ys.length c1] W fun e w' => e = .returned (.bool (decide (Few ys))) ∧ w' = W) := Lib.hid fun W hW => few_any (hR1.new hW) hx1 hl1
  by_cases hF : Few xs
  · rw [decide_eq_true hF] at P7
    by_cases hG : Few ys
    · rw [decide_eq_true hG] at P8
      have hxl := hF.1
      have hyl := hG.1
      have PC : Hid (∀ W, Below w.heap.size w W → Calls Tryd.prog 11 #[.slice a xs.length c] W fun e w' => ∃ b d, e = .returned (.slice b (cutG E 0 xs).length d) ∧ RdN w' b (cutG E 0 xs) ∧ (cutG E 0 xs).length ≤ d ∧ Below W.heap.size W w') := Lib.hid fun W hW => cutC (hK.step hW) (hR.new hW) hF.each.1 hF.each.2
      have PD : Hid (∀ W b d, Below w.heap.size w W → RdT W b (xs ++ ys) → Calls Tryd.prog 11 #[.slice b (xs ++ ys).length d] W fun e w' => ∃ b d, e = .returned (.slice b (cutG E 0 (xs ++ ys)).length d) ∧ RdN w' b (cutG E 0 (xs ++ ys)) ∧ (cutG E 0 (xs ++ ys)).length ≤ d ∧ Below W.heap.size W w') := Lib.hid fun W b d hW hb => cutC (hK.step hW) hb (by rw [List.length_append]; omega) (fun x hx => (List.mem_append.1 hx).elim (hF.each.2 x) (hG.each.2 x))
      have PA : Hid (∀ W, Below w.heap.size w W → _) := Lib.hid fun W hW => both_run W a a1 c c1 xs ys (hR.new hW) (hR1.new hW) hnil hnil1 (by omega) (by omega)
      have hb1 := cutG_len E xs 0
      have hb2 := cutG_len E (xs ++ ys) 0
      rw [List.length_append] at hb2
      have HBH := Lib.hid (fun k h => cutG_behind E ys xs 0 k h)
      clear hR hR1 hx hx1 hl hl1 hF hG hK hnil hnil1
      generalize (xs ++ ys).length = n2 at *
      generalize cutG E 0 (xs ++ ys) = M at *
      generalize cutG E 0 xs = L at *
      have hL : (L.length : Int) ≤ 1000 := by omega
      have hM : (M.length : Int) ≤ 1000 := by omega
      rcases Nat.eq_zero_or_pos L.length with h0 | h0
      · have hq : ((L.length : Int) == 0) = true := by rw [h0]; rfl
        clear hb1 hb2 HBH
        go_enter Tryd.func5, Tryd.ntmps5
        go_wp2_with (first
          | (go_at_call 6; (with_reducible refine P6.out.mono ?_); rintro e w1 ⟨rfl, hb1⟩)
          | (go_at_call 7; (with_reducible refine (P7.out _ hb1).mono ?_); rintro e w2 ⟨rfl, hw2⟩; subst w2)
          | (go_at_call 7; (with_reducible refine (P8.out _ hb1).mono ?_); rintro e w2 ⟨rfl, hw2⟩; subst w2)
          | (go_at_call 11; (with_reducible refine (PC.out _ hb1).mono ?_); rintro e w2 ⟨lb, ld, rfl, r2, hd2, hb2'⟩; have hB2 := hb1.trans (hb2'.mono hb1.size); obtain ⟨q1, e1, w3, q2, e2, w4, u1, u2, r4, hb4⟩ := PA.out w2 hB2; have hB4 := hB2.trans (hb4.mono hB2.size))
          | (go_at_call 11; (with_reducible refine (PD.out _ _ _ hB4 r4).mono ?_); rintro e w5 ⟨mb, md, rfl, r5, hd5, hb5⟩))
        go_ret
        exact ⟨rfl, hB4.trans (hb5.mono hB4.size)⟩
      · obtain ⟨k, hk⟩ : ∃ k, L.length = k + 1 := ⟨L.length - 1, by omega⟩
        obtain ⟨g1, g2, g3⟩ := HBH.out k hk
        have hq : ((L.length : Int) == 0) = false := by rw [beq_eq_false_iff_ne]; omega
        have hki : (L.length : Int) - 1 = (k : Int) := by omega
        have hk0 : (0 : Int) ≤ (k : Int) := by omega
        have hkm : (k : Int) < (M.length : Int) := by omega
        have hkl : (k : Int) < (L.length : Int) := by omega
        have hge : decide (((L.getD k 0 : Nat) : Int) ≤ ((M.getD k 0 : Nat) : Int)) = true := decide_eq_true (by omega)
        have hge2 : ((L.getD k 0 : Nat) : Int) ≤ ((M.getD k 0 : Nat) : Int) := by omega
        have HFC : Hid (∀ w2 w5 lb ld mb md, Below w2.heap.size w2 w5 → RdN w2 lb L → RdN w5 mb M → Calls Tryd.prog 10 #[.slice mb k md, .slice lb k ld] w5 fun e w' => e = .returned (.bool true) ∧ w' = w5) := Lib.hid fun w2 w5 lb ld mb md hb hl hm => by
          have h1 := same_any (c := md) (d := ld) (hm.take k) ((hl.new hb).take k) (by rw [List.length_take]; omega) (by rw [List.length_take]; omega)
          rw [List.length_take, List.length_take, decide_eq_true g2, Nat.min_eq_left (by omega), Nat.min_eq_left (by omega)] at h1
          exact h1
        have HCL : Hid (∀ W lb, RdN W lb L → ∃ b off, lb = some ⟨b, off, none⟩ ∧ W.cell? ⟨b, off + k, none⟩ = some (.int .i64 ((L.getD k 0 : Nat) : Int))) := Lib.hid fun W lb h => h k (by omega)
        have HCM : Hid (∀ W lb, RdN W lb M → ∃ b off, lb = some ⟨b, off, none⟩ ∧ W.cell? ⟨b, off + k, none⟩ = some (.int .i64 ((M.getD k 0 : Nat) : Int))) := Lib.hid fun W lb h => h k (by omega)
        generalize L.getD k 0 = lk at *
        generalize M.getD k 0 = mk at *
        have hkL : k ≤ L.length := by omega
        have hkM : k ≤ M.length := by omega
        clear hb1 hb2 HBH g1 g2 g3 h0 hk
        go_enter Tryd.func5, Tryd.ntmps5
        go_wp2_with (first
          | (go_at_call 6; (with_reducible refine P6.out.mono ?_); rintro e w1 ⟨rfl, hb1⟩)
          | (go_at_call 7; (with_reducible refine (P7.out _ hb1).mono ?_); rintro e w2 ⟨rfl, hw2⟩; subst w2)
          | (go_at_call 7; (with_reducible refine (P8.out _ hb1).mono ?_); rintro e w2 ⟨rfl, hw2⟩; subst w2)
          | (go_at_call 11; (with_reducible refine (PC.out _ hb1).mono ?_); rintro e w2 ⟨lb, ld, rfl, r2, hd2, hb2'⟩; have hB2 := hb1.trans (hb2'.mono hb1.size); obtain ⟨q1, e1, w3, q2, e2, w4, u1, u2, r4, hb4⟩ := PA.out w2 hB2; have hB4 := hB2.trans (hb4.mono hB2.size))
          | (go_at_call 11; (with_reducible refine (PD.out _ _ _ hB4 r4).mono ?_); rintro e w5 ⟨mb, md, rfl, r5, hd5, hb5⟩; have hB5 := hB4.trans (hb5.mono hB4.size); have hB25 := hb4.trans (hb5.mono hb4.size); have PS := Lib.hid (HFC.out w2 w5.drew lb ld mb md (hB25.trans ((Below.refl _ _).drew.mono hB25.size)) r2 (r5.new (Below.refl _ _).drew)); obtain ⟨lbb, loff, rfl, cl⟩ := HCL.out w5 lb (r2.new hB25); obtain ⟨mbb, moff, rfl, cm⟩ := HCM.out w5 mb r5; have hdl : (k : Int) ≤ (ld : Int) := (by omega); have hdm : (k : Int) ≤ (md : Int) := (by omega)))
        go_region_held3 (fun V => V.cell? ⟨lbb, loff + k, none⟩ = some (.int .i64 (lk : Int)) ∧ V.cell? ⟨mbb, moff + k, none⟩ = some (.int .i64 (mk : Int)))
          (first | exact ⟨cl, cm⟩)
          (first
            | (go_at_call 10; (with_reducible refine PS.out.mono ?_); rintro e w6 ⟨rfl, hw6⟩; subst w6))
        go_wp2
        go_ret
        exact ⟨rfl, hB5.drew⟩
    · rw [decide_eq_false hG] at P8
      clear hR hR1 hx hx1 hl hl1 hF hG hK hnil hnil1
      go_enter Tryd.func5, Tryd.ntmps5
      go_wp2_with (first
        | (go_at_call 6; (with_reducible refine P6.out.mono ?_); rintro e w1 ⟨rfl, hb1⟩)
        | (go_at_call 7; (with_reducible refine (P7.out _ hb1).mono ?_); rintro e w2 ⟨rfl, hw2⟩; subst w2)
        | (go_at_call 7; (with_reducible refine (P8.out _ hb1).mono ?_); rintro e w2 ⟨rfl, hw2⟩; subst w2))
      go_ret
      exact ⟨rfl, hb1⟩
  · rw [decide_eq_false hF] at P7
    clear hR hR1 hx hx1 hl hl1 hF hK hnil hnil1 P8
    go_enter Tryd.func5, Tryd.ntmps5
    go_wp2_with (first
      | (go_at_call 6; (with_reducible refine P6.out.mono ?_); rintro e w1 ⟨rfl, hb1⟩)
      | (go_at_call 7; (with_reducible refine (P7.out _ hb1).mono ?_); rintro e w2 ⟨rfl, hw2⟩; subst w2))
    go_ret
    exact ⟨rfl, hb1⟩
end Go.Proofs.YtpmoindojnlhgaaDoor
