/- The walk of the law CellOrder. -/
import Derived.Test.YtmlllgcmhapadaaDoorRCmp
import Derived.Test.YtmlllgcmhapadaaDoorJoins
import Derived.Test.YtmlllgcmhapadaaDoorWrite
namespace Go.Proofs.YtmlllgcmhapadaaDoor
open Go Go.RowKit

set_option maxRecDepth 100000 in
set_option maxHeartbeats 2000000 in
theorem cellOrder_any (a b : Option Addr) (c d : Nat) (xs ys : List V) (w : World) (hE : Env w) (hx : Rd w a xs) (hy : Rd w b ys) (okx : ∀ x ∈ xs, x.ok) (oky : ∀ x ∈ ys, x.ok) (mx : xs.length ≤ maxLen) (my : ys.length ≤ maxLen) :
    Calls Tryd.prog 6 #[.slice a xs.length c, .slice b ys.length d] w fun e w' => e = .returned (.bool true) ∧ Below w.heap.size w w' := by
  have HE := Lib.hid hE
  have HX := Lib.hid (And.intro hx (And.intro hy (And.intro okx oky)))
  have HF : Hid (∀ W, Below w.heap.size w W → Calls Tryd.prog 14 #[.slice (some ⟨W.heap.size, 0, none⟩) 2 2] (W.alloc (.cells #[.slice a xs.length c, .slice b ys.length d] 27)) fun e w' => e = .returned (.bool (fewB xs && fewB ys)) ∧ Below W.heap.size W w') :=
    Lib.hid (fun W hb => few2 W ⟨a, c, xs⟩ ⟨b, d, ys⟩ (hx.new hb) (hy.new hb) mx my)
  unfold maxLen at mx my
  clear hE hx hy okx oky
  cases hf : (fewB xs && fewB ys) with
  | false =>
    rw [hf] at HF
    clear hf
    go_enter Tryd.func6, Tryd.ntmps6
    go_wp2_with fail
    refine (awake_any w HE.out).mono ?_
    rintro e w1 ⟨rfl, hb1⟩
    go_wp2_with fail
    refine (HF.out w1 hb1).mono ?_
    rintro e w2 ⟨rfl, hb2⟩
    have hB2 := hb1.trans (hb2.mono hb1.size)
    go_wp2
    go_ret
    exact ⟨rfl, hB2⟩
  | true =>
    rw [hf] at HF
    rw [Bool.and_eq_true] at hf
    have lx : xs.length ≤ 70 := by have := hf.1; unfold fewB at this; rw [Bool.and_eq_true] at this; simpa using this.1
    have ly : ys.length ≤ 70 := by have := hf.2; unfold fewB at this; rw [Bool.and_eq_true] at this; simpa using this.1
    clear hf
    go_enter Tryd.func6, Tryd.ntmps6
    go_wp2_with fail
    refine (awake_any w HE.out).mono ?_
    rintro e w1 ⟨rfl, hb1⟩
    go_wp2_with fail
    refine (HF.out w1 hb1).mono ?_
    rintro e w2 ⟨rfl, hb2⟩
    have hB2 := hb1.trans (hb2.mono hb1.size)
    clear hb1 hb2
    obtain ⟨m, hm⟩ := HE.out.1
    have HM := Lib.hid hm
    clear hm
    go_wp2_with fail
    refine (compare_any a b c d xs ys (by omega) w2 (HX.out.1.new hB2) (HX.out.2.1.new hB2)).mono ?_
    rintro e w3 ⟨rfl, hb3⟩
    have hB3 := hB2.trans (hb3.mono hB2.size)
    clear hB2 hb3
    have HC1 := Lib.hid (rcompare_any a b c d xs ys (by omega) w3 (HX.out.1.new hB3) (HX.out.2.1.new hB3))
    have HC2 : Hid (∀ W, Below w.heap.size w W → Calls Tryd.prog 24 #[.slice b ys.length d, .slice a xs.length c] W fun e w' => e = .returned (.int .i64 (-cmpL xs ys)) ∧ Below W.heap.size W w') := Lib.hid (fun W hb => by
      have := compare_any b a d c ys xs (by omega) W (HX.out.2.1.new hb) (HX.out.1.new hb)
      rwa [cmpL_neg xs ys] at this)
    have HS := Lib.hid (cmpL_small xs ys)
    have HZ := Lib.hid (@cmpL_zero xs ys)
    have HK : Hid (tupleB xs = true → tupleB ys = true → cmpB (keyL xs) (keyL ys) = cmpL xs ys) := Lib.hid (fun h1 h2 => cmp_keyL xs ys (tuple_parts h1).2 (tuple_parts h2).2 HX.out.2.2.1 HX.out.2.2.2)
    generalize cmpL xs ys = C at HC1 HC2 HS HZ HK
    have hc1 : -1 ≤ C := by have := HS.out; omega
    have hc2 : C ≤ 1 := by have := HS.out; omega
    go_wp2_with fail
    refine HC1.out.mono ?_
    rintro e w4 ⟨rfl, hb4⟩
    have hB4 := hB3.trans (hb4.mono hB3.size)
    clear hB3 hb4
    go_wp2_with fail
    refine (HC2.out w4 hB4).mono ?_
    rintro e w5 ⟨rfl, hb5⟩
    have hB5 := hB4.trans (hb5.mono hB4.size)
    clear hB4 hb5
    go_wp2_with fail
    refine (key_any m w5 ((Ch.of_new (S := fun _ => False) hB5).cell HM.out id) a c xs (HX.out.1.new hB5) HX.out.2.2.1).mono ?_
    rintro e w6 ⟨rfl, hb6⟩
    have hB6 := hB5.trans (hb6.mono hB5.size)
    clear hB5 hb6
    go_wp2_with fail
    refine (key_any m w6 ((Ch.of_new (S := fun _ => False) hB6).cell HM.out id) b d ys (HX.out.2.1.new hB6) HX.out.2.2.2).mono ?_
    rintro e w7 ⟨rfl, hb7⟩
    have hB7 := hB6.trans (hb7.mono hB6.size)
    clear hB6 hb7
    go_wp2_with fail
    refine (write_any w7 a c xs (HX.out.1.new hB7)).mono ?_
    rintro e w8 ⟨rfl, hb8⟩
    have hB8 := hB7.trans (hb8.mono hB7.size)
    clear hB7 hb8
    go_wp2_with fail
    refine (write_any w8 b d ys (HX.out.2.1.new hB8)).mono ?_
    rintro e w9 ⟨rfl, hb9⟩
    have hB9 := hB8.trans (hb9.mono hB8.size)
    clear hB8 hb9
    cases h1 : tupleB xs with
    | false =>
      clear h1
      go_wp2
      go_ret
      exact ⟨rfl, hB9⟩
    | true =>
      cases h2 : tupleB ys with
      | false =>
        clear h1 h2
        go_wp2
        go_ret
        exact ⟨rfl, hB9⟩
      | true =>
        have hk := HK.out h1 h2
        have e1 : keyT xs = txt (keyL xs) := by unfold keyT; rw [if_pos h1]
        have e2 : keyT ys = txt (keyL ys) := by unfold keyT; rw [if_pos h2]
        have e3 : writeT xs = txt (writeL xs) := by unfold writeT; rw [if_pos h1]
        have e4 : writeT ys = txt (writeL ys) := by unfold writeT; rw [if_pos h2]
        have l1 : Op.bytesLess (keyT xs).toList (keyT ys).toList = decide (C < 0) := by rw [less_text, e1, e2, txt_data, txt_data, hk]
        have l2 : ((keyT xs).toList == (keyT ys).toList) = decide (C = 0) := by rw [eq_text, e1, e2, txt_data, txt_data, hk]
        have l3 : ((writeT xs).toList == (writeT ys).toList) = decide (C = 0) := by
          rw [Bool.eq_iff_iff, beq_iff_eq, decide_eq_true_eq, HZ.out, toList_inj, e3, e4]
          constructor
          · intro h
            exact writeL_inj h1 h2 HX.out.2.2.1 HX.out.2.2.2 (by have := congrArg (fun s : ByteArray => s.data.toList) h; exact this)
          · intro h; rw [h]
        have l4 : (C == 0) = decide (C = 0) := by rw [Bool.eq_iff_iff, beq_iff_eq, decide_eq_true_eq]
        have HL := Lib.hid (And.intro l1 (And.intro l2 (And.intro l3 l4)))
        clear h1 h2 hk e1 e2 e3 e4 l1 l2 l3 l4 HK HZ HS HX HC1 HC2 HF
        generalize keyT xs = kx at HL
        generalize keyT ys = ky at HL
        generalize writeT xs = sx at HL
        generalize writeT ys = sy at HL
        have l1 := HL.out.1
        have l2 := HL.out.2.1
        have l3 := HL.out.2.2.1
        rcases (show C = -1 ∨ C = 0 ∨ C = 1 by omega) with rfl | rfl | rfl
        · rw [decide_eq_true (by decide)] at l1
          rw [decide_eq_false (by decide)] at l2 l3
          clear HL hc1 hc2
          go_wp2
          go_ret
          exact ⟨rfl, hB9⟩
        · rw [decide_eq_false (by decide)] at l1
          rw [decide_eq_true rfl] at l2 l3
          clear HL hc1 hc2
          go_wp2
          go_ret
          exact ⟨rfl, hB9⟩
        · rw [decide_eq_false (by decide)] at l1 l2 l3
          clear HL hc1 hc2
          go_wp2
          go_ret
          exact ⟨rfl, hB9⟩
end Go.Proofs.YtmlllgcmhapadaaDoor
