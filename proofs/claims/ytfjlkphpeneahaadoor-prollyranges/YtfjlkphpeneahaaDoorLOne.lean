/- The walk of ProllyOne. -/
import Derived.Test.YtfjlkphpeneahaaDoorLAwake
import Derived.Test.YtfjlkphpeneahaaDoorM3
import Derived.Test.YtfjlkphpeneahaaDoorLClash
import Derived.Test.YtfjlkphpeneahaaDoorM10
namespace Go.Proofs.YtfjlkphpeneahaaDoor
open Go Go.RowKit
attribute [-go_sem] Builtin.append_

theorem ris_len {l : List It} (h : Few l) : (risL l).length ≤ 200 := by
  have h1 := ins_len l []
  have h2 := h.1
  unfold risL
  simp only [List.length_nil] at h1
  omega
/-- Pairs and Build, as the laws meet them. -/
theorem pairsD {V : World} {a : Option Addr} {c : Nat} {l : List It} (hR : RdP V a l) (hl : l.length ≤ 1000) :
    Calls Tryd.prog 13 #[.slice a l.length c] V fun e w' => ∃ a' c', e = .returned (.slice a' l.length c') ∧ OwP w' V.heap.size 52 (.slice a' l.length c') l ∧ RdP w' a' l ∧ Below V.heap.size V w' := by
  refine (pairs_any hR (by omega)).mono ?_
  rintro e w' ⟨v, rfl, ho, hb⟩
  obtain ⟨a', c', rfl, hr, _⟩ := ho.rd
  exact ⟨a', c', rfl, ho, hr, hb⟩
theorem buildD {w : World} (hK : S1.KR w) {v : Value} {base : Nat} {m : List It} (ho : OwP w base 52 v m) (hl : m.length ≤ 1000) (hs : szL m ≤ 40000) (hm : mapOk m = true) :
    Calls Tryd.prog 12 #[v] w fun e w' => ∃ a c, e = .returned (.tuple #[.string (txt (buildL m).1), .slice a (buildL m).2.length c, .bool true]) ∧ RdT w' a (buildL m).2 ∧ (a = none → c = 0) ∧ Below w.heap.size w w' := by
  obtain ⟨a, c, rfl, hr, hc, _⟩ := ho.rd
  refine (build_any hK hr hc hl hs).mono ?_
  rw [hm]
  rintro e w' ⟨v, rfl, h1, h2⟩
  obtain ⟨b, d, rfl, h3, h4, _⟩ := h1.rd
  exact ⟨b, d, rfl, h3, h4, h2⟩
set_option maxRecDepth 100000 in
set_option maxHeartbeats 8000000 in
theorem one_any {w : World} (hK : S1.KR w) (a0 : Option Addr) (c0 : Nat) (xs : List It) (hR : RdP w a0 xs) (hx : ∀ x ∈ xs, x.1.length ≤ 140737488355328 ∧ x.2.length ≤ 140737488355328) (hl : xs.length ≤ maxLen)
    (a1 : Option Addr) (c1 : Nat) (ys : List It) (hS : RdP w a1 ys) (hy : ∀ x ∈ ys, x.1.length ≤ 140737488355328 ∧ x.2.length ≤ 140737488355328) (hm : ys.length ≤ maxLen) :
    Calls Tryd.prog 6 #[.slice a0 xs.length c0, .slice a1 ys.length c1] w fun e w' => e = .returned (.bool true) ∧ Below w.heap.size w w' := by
  have P9 := Lib.hid (awake_any hK)
  have P10a : Hid (∀ V, Below w.heap.size w V → Calls Tryd.prog 10 #[.slice a0 xs.length c0] V fun e w' => e = .returned (.bool (decide (Few xs))) ∧ Below V.heap.size V w') := Lib.hid fun V hV => few_any (hR.new hV) hx hl
  have P10b : Hid (∀ V, Below w.heap.size w V → Calls Tryd.prog 10 #[.slice a1 ys.length c1] V fun e w' => e = .returned (.bool (decide (Few ys))) ∧ Below V.heap.size V w') := Lib.hid fun V hV => few_any (hS.new hV) hy hm
  by_cases hF : Few xs
  · rw [decide_eq_true hF] at P10a
    by_cases hG : Few ys
    · rw [decide_eq_true hG] at P10b
      have P11a : Hid (∀ V, Below w.heap.size w V → Calls Tryd.prog 11 #[.slice a0 xs.length c0] V fun e w' => ∃ a' c', e = .returned (.slice a' (risL xs).length c') ∧ RdP w' a' (risL xs) ∧ (risL xs).length ≤ c' ∧ Below V.heap.size V w') := Lib.hid fun V hV => rising_any (hR.new hV) (by have := hF.1; omega)
      have P11b : Hid (∀ V, Below w.heap.size w V → Calls Tryd.prog 11 #[.slice a1 ys.length c1] V fun e w' => ∃ a' c', e = .returned (.slice a' (risL ys).length c') ∧ RdP w' a' (risL ys) ∧ (risL ys).length ≤ c' ∧ Below V.heap.size V w') := Lib.hid fun V hV => rising_any (hS.new hV) (by have := hG.1; omega)
      have m1 := ris_map hF
      have m2 := ris_map hG
      have f1 := ris_few2 hF
      have f2 := ris_few2 hG
      have n1 := ris_len hF
      have n2 := ris_len hG
      clear hF hG hR hS hx hy hl hm
      generalize risL xs = l at *
      generalize risL ys = m at *
      have s1 := build_small m1 f1.1 f1.2
      have s2 := build_small m2 f2.1 f2.2
      have P13l : Hid (∀ V a c, RdP V a l → Calls Tryd.prog 13 #[.slice a l.length c] V fun e w' => ∃ a' c', e = .returned (.slice a' l.length c') ∧ OwP w' V.heap.size 52 (.slice a' l.length c') l ∧ RdP w' a' l ∧ Below V.heap.size V w') := Lib.hid fun V a c h => pairsD h f1.1
      have P13m : Hid (∀ V a c, RdP V a m → Calls Tryd.prog 13 #[.slice a m.length c] V fun e w' => ∃ a' c', e = .returned (.slice a' m.length c') ∧ OwP w' V.heap.size 52 (.slice a' m.length c') m ∧ RdP w' a' m ∧ Below V.heap.size V w') := Lib.hid fun V a c h => pairsD h f2.1
      have P12l : Hid (∀ V base a c, Below w.heap.size w V → OwP V base 52 (.slice a l.length c) l → Calls Tryd.prog 12 #[.slice a l.length c] V fun e w' => ∃ a' c', e = .returned (.tuple #[.string (txt (buildL l).1), .slice a' (buildL l).2.length c', .bool true]) ∧ RdT w' a' (buildL l).2 ∧ (a' = none → c' = 0) ∧ Below V.heap.size V w') := Lib.hid fun V base a c hV ho => buildD (hK.step hV) ho f1.1 f1.2 m1
      have P12m : Hid (∀ V base a c, Below w.heap.size w V → OwP V base 52 (.slice a m.length c) m → Calls Tryd.prog 12 #[.slice a m.length c] V fun e w' => ∃ a' c', e = .returned (.tuple #[.string (txt (buildL m).1), .slice a' (buildL m).2.length c', .bool true]) ∧ RdT w' a' (buildL m).2 ∧ (a' = none → c' = 0) ∧ Below V.heap.size V w') := Lib.hid fun V base a c hV ho => buildD (hK.step hV) ho f2.1 f2.2 m2
      have P19 : Hid (∀ V a c b d, RdP V a l → RdP V b m → Calls Tryd.prog 19 #[.slice a l.length c, .slice b m.length d] V fun e w' => e = .returned (.bool (decide (l = m))) ∧ Below V.heap.size V w') := Lib.hid fun V a c b d h1 h2 => same_any h1 h2 (by omega) (by omega)
      have P17 : Hid (l ≠ m → (buildL l).1 = (buildL m).1 → ∀ V a c, RdT V a ((buildL l).2 ++ (buildL m).2) → Calls Tryd.prog 17 #[.slice a ((buildL l).2 ++ (buildL m).2).length c] V fun e w' => e = .returned (.bool true) ∧ Below V.heap.size V w') := Lib.hid fun hn he V a c h => (clash_any h (by rw [List.length_append]; omega) (fun t ht => by
        rcases List.mem_append.1 ht with ht | ht
        · exact s1.1 t ht
        · exact s2.1 t ht)).mono (by
        rintro e w' ⟨q, rfl, hq, hb⟩
        have hc : ClashL ((buildL l).2 ++ (buildL m).2) := Classical.byContradiction fun hc => hn (one_map m1 m2 f1 f2 hc he)
        rw [hq.2 hc]
        exact ⟨rfl, hb⟩)
      have HN := Lib.hid (And.intro s1.2.1 (And.intro s2.2.1 (And.intro n1 n2)))
      clear m1 m2 f1 f2 n1 n2 s1 s2 hK
      have hE := txt_eq (buildL l).1 (buildL m).1
      generalize (buildL l).2 = nl at *
      generalize (buildL m).2 = nm at *
      by_cases hlm : l = m
      · subst hlm
        rw [decide_eq_true rfl] at P19
        clear hE P17 HN
        generalize txt (buildL l).1 = tx at *
        go_enter Tryd.func6, Tryd.ntmps6
        go_wp2_with (first
          | (go_at_call 9; (with_reducible refine P9.out.mono ?_); rintro e w1 ⟨rfl, hb1⟩)
          | (go_at_call 10; (with_reducible refine (P10a.out _ hb1).mono ?_); rintro e w2 ⟨rfl, hb2⟩; have hB2 := hb1.trans (hb2.mono hb1.size))
          | (go_at_call 10; (with_reducible refine (P10b.out _ hB2).mono ?_); rintro e w3 ⟨rfl, hb3⟩; have hB3 := hB2.trans (hb3.mono hB2.size))
          | (go_at_call 11; (with_reducible refine (P11a.out _ hB3).mono ?_); rintro e w4 ⟨a4, c4, rfl, hr4, -, hb4⟩; have hB4 := hB3.trans (hb4.mono hB3.size))
          | (go_at_call 11; (with_reducible refine (P11b.out _ hB4).mono ?_); rintro e w5 ⟨a5, c5, rfl, hs5, -, hb5⟩; have hB5 := hB4.trans (hb5.mono hB4.size); have hr5 := hr4.new hb5)
          | (go_at_call 13; (with_reducible refine (P13l.out _ _ _ hr5).mono ?_); rintro e w6 ⟨a6, c6, rfl, ho6, -, hb6⟩; have hB6 := hB5.trans (hb6.mono hB5.size); have hr6 := hr5.new hb6; have hs6 := hs5.new hb6)
          | (go_at_call 12; (with_reducible refine (P12l.out _ _ _ _ hB6 ho6).mono ?_); rintro e w7 ⟨a7, c7, rfl, ht7, hn7, hb7⟩; have hB7 := hB6.trans (hb7.mono hB6.size); have hr7 := hr6.new hb7; have hs7 := hs6.new hb7)
          | (go_at_call 13; (with_reducible refine (P13m.out _ _ _ hs7).mono ?_); rintro e w8 ⟨a8, c8, rfl, ho8, -, hb8⟩; have hB8 := hB7.trans (hb8.mono hB7.size); have hr8 := hr7.new hb8; have hs8 := hs7.new hb8; have ht8 := ht7.new hb8)
          | (go_at_call 12; (with_reducible refine (P12m.out _ _ _ _ hB8 ho8).mono ?_); rintro e w9 ⟨a9, c9, rfl, hu9, hn9, hb9⟩; have hB9 := hB8.trans (hb9.mono hB8.size); have hr9 := hr8.new hb9; have hs9 := hs8.new hb9; have ht9 := ht8.new hb9)
          | (go_at_call 13; (with_reducible refine (P13l.out _ _ _ hr9).mono ?_); rintro e w10 ⟨a10, c10, rfl, -, hd10, hb10⟩; have hB10 := hB9.trans (hb10.mono hB9.size); have hs10 := hs9.new hb10; have ht10 := ht9.new hb10; have hu10 := hu9.new hb10)
          | (go_at_call 19; (with_reducible refine (P19.out _ _ _ _ _ hd10 hs10).mono ?_); rintro e w11 ⟨rfl, hb11⟩; have hB11 := hB10.trans (hb11.mono hB10.size)))
        go_ret
        exact ⟨rfl, hB11⟩
      · rw [decide_eq_false hlm] at P19
        by_cases hxy : (buildL l).1 = (buildL m).1
        · rw [← hxy] at P12m
          have P17' := Lib.hid (P17.out hlm hxy)
          rw [List.length_append] at P17'
          clear P17 hE hxy
          generalize txt (buildL l).1 = tx at *
          go_enter Tryd.func6, Tryd.ntmps6
          go_wp2_with (first
          | (go_at_call 9; (with_reducible refine P9.out.mono ?_); rintro e w1 ⟨rfl, hb1⟩)
          | (go_at_call 10; (with_reducible refine (P10a.out _ hb1).mono ?_); rintro e w2 ⟨rfl, hb2⟩; have hB2 := hb1.trans (hb2.mono hb1.size))
          | (go_at_call 10; (with_reducible refine (P10b.out _ hB2).mono ?_); rintro e w3 ⟨rfl, hb3⟩; have hB3 := hB2.trans (hb3.mono hB2.size))
          | (go_at_call 11; (with_reducible refine (P11a.out _ hB3).mono ?_); rintro e w4 ⟨a4, c4, rfl, hr4, -, hb4⟩; have hB4 := hB3.trans (hb4.mono hB3.size))
          | (go_at_call 11; (with_reducible refine (P11b.out _ hB4).mono ?_); rintro e w5 ⟨a5, c5, rfl, hs5, -, hb5⟩; have hB5 := hB4.trans (hb5.mono hB4.size); have hr5 := hr4.new hb5)
          | (go_at_call 13; (with_reducible refine (P13l.out _ _ _ hr5).mono ?_); rintro e w6 ⟨a6, c6, rfl, ho6, -, hb6⟩; have hB6 := hB5.trans (hb6.mono hB5.size); have hr6 := hr5.new hb6; have hs6 := hs5.new hb6)
          | (go_at_call 12; (with_reducible refine (P12l.out _ _ _ _ hB6 ho6).mono ?_); rintro e w7 ⟨a7, c7, rfl, ht7, hn7, hb7⟩; have hB7 := hB6.trans (hb7.mono hB6.size); have hr7 := hr6.new hb7; have hs7 := hs6.new hb7)
          | (go_at_call 13; (with_reducible refine (P13m.out _ _ _ hs7).mono ?_); rintro e w8 ⟨a8, c8, rfl, ho8, -, hb8⟩; have hB8 := hB7.trans (hb8.mono hB7.size); have hr8 := hr7.new hb8; have hs8 := hs7.new hb8; have ht8 := ht7.new hb8)
          | (go_at_call 12; (with_reducible refine (P12m.out _ _ _ _ hB8 ho8).mono ?_); rintro e w9 ⟨a9, c9, rfl, hu9, hn9, hb9⟩; have hB9 := hB8.trans (hb9.mono hB8.size); have hr9 := hr8.new hb9; have hs9 := hs8.new hb9; have ht9 := ht8.new hb9)
          | (go_at_call 13; (with_reducible refine (P13l.out _ _ _ hr9).mono ?_); rintro e w10 ⟨a10, c10, rfl, -, hd10, hb10⟩; have hB10 := hB9.trans (hb10.mono hB9.size); have hs10 := hs9.new hb10; have ht10 := ht9.new hb10; have hu10 := hu9.new hb10)
          | (go_at_call 19; (with_reducible refine (P19.out _ _ _ _ _ hd10 hs10).mono ?_); rintro e w11 ⟨rfl, hb11⟩; have hB11 := hB10.trans (hb11.mono hB10.size); obtain ⟨a12, c12, w12, a13, c13, w13, u1, u2, r13, hb13⟩ := both_run w11 a7 a9 c7 c9 nl nm (ht10.new hb11) (hu10.new hb11) hn7 hn9 (by have := HN.out; omega) (by have := HN.out; omega); have hB13 := hB11.trans (hb13.mono hB11.size))
          | (go_at_call 17; (with_reducible refine (P17'.out _ _ _ r13).mono ?_); rintro e w14 ⟨rfl, hb14⟩))
          go_ret
          exact ⟨rfl, hB13.trans (hb14.mono hB13.size)⟩
        · rw [decide_eq_false hxy] at hE
          have e3 : ¬ (txt (buildL l).1).toList = (txt (buildL m).1).toList := beq_eq_false_iff_ne.1 hE
          clear P17 HN hxy
          generalize txt (buildL l).1 = tx at *
          generalize txt (buildL m).1 = ty at *
          go_enter Tryd.func6, Tryd.ntmps6
          go_wp2_with (first
          | (go_at_call 9; (with_reducible refine P9.out.mono ?_); rintro e w1 ⟨rfl, hb1⟩)
          | (go_at_call 10; (with_reducible refine (P10a.out _ hb1).mono ?_); rintro e w2 ⟨rfl, hb2⟩; have hB2 := hb1.trans (hb2.mono hb1.size))
          | (go_at_call 10; (with_reducible refine (P10b.out _ hB2).mono ?_); rintro e w3 ⟨rfl, hb3⟩; have hB3 := hB2.trans (hb3.mono hB2.size))
          | (go_at_call 11; (with_reducible refine (P11a.out _ hB3).mono ?_); rintro e w4 ⟨a4, c4, rfl, hr4, -, hb4⟩; have hB4 := hB3.trans (hb4.mono hB3.size))
          | (go_at_call 11; (with_reducible refine (P11b.out _ hB4).mono ?_); rintro e w5 ⟨a5, c5, rfl, hs5, -, hb5⟩; have hB5 := hB4.trans (hb5.mono hB4.size); have hr5 := hr4.new hb5)
          | (go_at_call 13; (with_reducible refine (P13l.out _ _ _ hr5).mono ?_); rintro e w6 ⟨a6, c6, rfl, ho6, -, hb6⟩; have hB6 := hB5.trans (hb6.mono hB5.size); have hr6 := hr5.new hb6; have hs6 := hs5.new hb6)
          | (go_at_call 12; (with_reducible refine (P12l.out _ _ _ _ hB6 ho6).mono ?_); rintro e w7 ⟨a7, c7, rfl, ht7, hn7, hb7⟩; have hB7 := hB6.trans (hb7.mono hB6.size); have hr7 := hr6.new hb7; have hs7 := hs6.new hb7)
          | (go_at_call 13; (with_reducible refine (P13m.out _ _ _ hs7).mono ?_); rintro e w8 ⟨a8, c8, rfl, ho8, -, hb8⟩; have hB8 := hB7.trans (hb8.mono hB7.size); have hr8 := hr7.new hb8; have hs8 := hs7.new hb8; have ht8 := ht7.new hb8)
          | (go_at_call 12; (with_reducible refine (P12m.out _ _ _ _ hB8 ho8).mono ?_); rintro e w9 ⟨a9, c9, rfl, hu9, hn9, hb9⟩; have hB9 := hB8.trans (hb9.mono hB8.size); have hr9 := hr8.new hb9; have hs9 := hs8.new hb9; have ht9 := ht8.new hb9)
          | (go_at_call 13; (with_reducible refine (P13l.out _ _ _ hr9).mono ?_); rintro e w10 ⟨a10, c10, rfl, -, hd10, hb10⟩; have hB10 := hB9.trans (hb10.mono hB9.size); have hs10 := hs9.new hb10; have ht10 := ht9.new hb10; have hu10 := hu9.new hb10)
          | (go_at_call 19; (with_reducible refine (P19.out _ _ _ _ _ hd10 hs10).mono ?_); rintro e w11 ⟨rfl, hb11⟩; have hB11 := hB10.trans (hb11.mono hB10.size)))
          go_ret
          exact ⟨rfl, hB11⟩
    · rw [decide_eq_false hG] at P10b
      clear hR hS hx hy hl hm hF hG hK
      go_enter Tryd.func6, Tryd.ntmps6
      go_wp2_with (first
        | (go_at_call 9; (with_reducible refine P9.out.mono ?_); rintro e w1 ⟨rfl, hb1⟩)
        | (go_at_call 10; (with_reducible refine (P10a.out _ hb1).mono ?_); rintro e w2 ⟨rfl, hb2⟩; have hB2 := hb1.trans (hb2.mono hb1.size))
        | (go_at_call 10; (with_reducible refine (P10b.out _ hB2).mono ?_); rintro e w3 ⟨rfl, hb3⟩))
      go_ret
      exact ⟨rfl, hB2.trans (hb3.mono hB2.size)⟩
  · rw [decide_eq_false hF] at P10a
    clear hR hS hx hy hl hm hF hK P10b
    go_enter Tryd.func6, Tryd.ntmps6
    go_wp2_with (first
      | (go_at_call 9; (with_reducible refine P9.out.mono ?_); rintro e w1 ⟨rfl, hb1⟩)
      | (go_at_call 10; (with_reducible refine (P10a.out _ hb1).mono ?_); rintro e w2 ⟨rfl, hb2⟩))
    go_ret
    exact ⟨rfl, hb1.trans (hb2.mono hb1.size)⟩
end Go.Proofs.YtfjlkphpeneahaaDoor
