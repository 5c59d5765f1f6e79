/- The walk of ProllyRanges. -/
import Derived.Test.YtfjlkphpeneahaaDoorLOne
import Derived.Test.YtfjlkphpeneahaaDoorTRange
import Derived.Test.YtfjlkphpeneahaaDoorDRange
import Derived.Test.YtfjlkphpeneahaaDoorDLen
namespace Go.Proofs.YtfjlkphpeneahaaDoor
open Go Go.RowKit
attribute [-go_sem] Builtin.append_

theorem min_run (a b : Bs) (V : World) : (Builtin.min_ #[9, 9] 9 #[.string (txt a), .string (txt b)]).run Tryd.prog V = .ok (.string (txt (minL a b))) V := by
  have h := less_txt a b
  have e := txt_eq a b
  unfold minL
  by_cases hab : a = b
  · subst hab; simp [Builtin.min_, Builtin.min2, Op.stringOp, asBool]
  · have e2 : ¬ (txt a).toList = (txt b).toList := by rw [decide_eq_false hab] at e; exact beq_eq_false_iff_ne.1 e
    cases hl : ltL a b with
    | true => rw [hl] at h; simp [Builtin.min_, Builtin.min2, Op.stringOp, asBool, h]
    | false => rw [hl] at h; simp [Builtin.min_, Builtin.min2, Op.stringOp, asBool, h, e2, hab]
theorem max_run (a b : Bs) (V : World) : (Builtin.max_ #[9, 9] 9 #[.string (txt a), .string (txt b)]).run Tryd.prog V = .ok (.string (txt (maxL a b))) V := by
  have h := less_txt a b
  have e := txt_eq a b
  unfold maxL
  by_cases hab : a = b
  · subst hab; simp [Builtin.max_, Builtin.max2, Op.stringOp, asBool]
  · have e2 : ¬ (txt a).toList = (txt b).toList := by rw [decide_eq_false hab] at e; exact beq_eq_false_iff_ne.1 e
    cases hl : ltL b a with
    | true =>
      have h3 : ltL a b = false := Bool.eq_false_iff.2 fun h3 => by have := ltL_trans h3 hl; rw [ltL_irrefl] at this; cases this
      rw [h3] at h
      simp [Builtin.max_, Builtin.max2, Op.stringOp, asBool, h]
    | false =>
      have h3 : ltL a b = true := ltL_tot (by rw [hl]; simp) (fun e => hab e.symm)
      rw [h3] at h
      simp [Builtin.max_, Builtin.max2, Op.stringOp, asBool, h, hab]
/-- What stands ahead of the ranges. -/
structure RaO (w V : World) (h : Nat) (mm : Option Nat) (lx : Tx) (L : List It) (nl : List Bs) (a4 a6 : Option Addr) : Prop where
  hp : HpM h mm lx V
  rp : RdP V a4 L
  rt : RdT V a6 nl
  low : Below w.heap.size w V
theorem RaO.new {w V V' : World} {h : Nat} {mm : Option Nat} {lx : Tx} {L : List It} {nl : List Bs} {a4 a6 : Option Addr} (H : RaO w V h mm lx L nl a4 a6) (hb : Below V.heap.size V V') : RaO w V' h mm lx L nl a4 a6 :=
  ⟨HpM.stab h mm lx V V' H.hp (Ch.of_new hb), H.rp.new hb, H.rt.new hb, H.low.trans (hb.mono H.low.size)⟩
theorem OwP.rdp {w : World} {base e n c : Nat} {a : Option Addr} {xs : List It} (h : OwP w base e (.slice a n c) xs) : RdP w a xs := by
  obtain ⟨a', c', hv, hr, _⟩ := h.rd
  cases hv
  exact hr
set_option maxRecDepth 100000 in
set_option maxHeartbeats 16000000 in
theorem ranges_any {w : World} (hK : S1.KR w) (a0 : Option Addr) (c0 : Nat) (xs : List It) (hR : RdP w a0 xs) (hx : ∀ x ∈ xs, x.1.length ≤ 140737488355328 ∧ x.2.length ≤ 140737488355328) (hl : xs.length ≤ maxLen) (k0 k1 : Bs) :
    Calls Tryd.prog 7 #[.slice a0 xs.length c0, .agg #[.string (txt k0), .string (txt k1)]] w fun e w' => e = .returned (.bool true) ∧ Below w.heap.size w w' := by
  obtain ⟨WB, hWB⟩ : ∃ WB, WB = w.alloc (.cells #[.string (txt k0), .string (txt k1)] 39) := ⟨_, rfl⟩
  have hb0 : Below w.heap.size w WB := by rw [hWB]; exact (Below.refl _ _).alloc (Nat.le_refl _) _
  have hrow : WB.heap[w.heap.size]? = some (.cells #[.string (txt k0), .string (txt k1)] 39 (0, 0)) := by rw [hWB]; exact heap_alloc_new w _
  have HX : Hid (∀ V, Below WB.heap.size WB V → V.cell? ⟨w.heap.size, 0, none⟩ = some (.string (txt k0)) ∧ V.cell? ⟨w.heap.size, 1, none⟩ = some (.string (txt k1)) ∧ Below w.heap.size w V) := Lib.hid fun V hV => by
    have h1 := (hV.block w.heap.size (lt_of_heap hrow)).trans hrow
    exact ⟨cell_of_row _ _ 0 _ _ _ h1, cell_of_row _ _ 1 _ _ _ h1, hb0.trans (hV.mono hb0.size)⟩
  have hKB := hK.step hb0
  have hRB := hR.new hb0
  have P9 := Lib.hid (awake_any hKB)
  have P10 : Hid (∀ V, Below WB.heap.size WB V → Calls Tryd.prog 10 #[.slice a0 xs.length c0] V fun e w' => e = .returned (.bool (decide (Few xs))) ∧ Below V.heap.size V w') := Lib.hid fun V hV => few_any (hRB.new hV) hx hl
  have hzk := txt_size k0
  have hzv := txt_size k1
  by_cases hF : Few xs
  · rw [decide_eq_true hF] at P10
    by_cases hk : k0.length ≤ 2000
    · have hk' : ¬ (2000 : Int) < (k0.length : Int) := by omega
      have hk'' : (k0.length : Int) ≤ 2000 := by omega
      by_cases hv : k1.length ≤ 2000
      · have hv' : ¬ (2000 : Int) < (k1.length : Int) := by omega
        have hv'' : (k1.length : Int) ≤ 2000 := by omega
        have P11 : Hid (∀ V, Below WB.heap.size WB V → Calls Tryd.prog 11 #[.slice a0 xs.length c0] V fun e w' => ∃ a' c', e = .returned (.slice a' (risL xs).length c') ∧ RdP w' a' (risL xs) ∧ Below V.heap.size V w') := Lib.hid fun V hV => (rising_any (hRB.new hV) (by have := hF.1; omega)).mono (by
          rintro e w' ⟨a', c', h1, h2, h3, h4⟩
          exact ⟨a', c', h1, h2, h4⟩)
        have m1 := ris_map hF
        have f1 := ris_few2 hF
        have f0 := ris_len hF
        have s1 := build_small m1 f1.1 f1.2
        have t1 := build_tots m1 f1.1 f1.2
        clear hRB hR hx hl hF hb0 hrow
        generalize risL xs = L at *
        have P13 : Hid (∀ V a c, RdP V a L → Calls Tryd.prog 13 #[.slice a L.length c] V fun e w' => ∃ a' c', e = .returned (.slice a' L.length c') ∧ OwP w' V.heap.size 52 (.slice a' L.length c') L ∧ RdP w' a' L ∧ Below V.heap.size V w') := Lib.hid fun V a c h => pairsD h f1.1
        have P12 : Hid (∀ V base a c, Below WB.heap.size WB V → OwP V base 52 (.slice a L.length c) L → Calls Tryd.prog 12 #[.slice a L.length c] V fun e w' => ∃ a' c', e = .returned (.tuple #[.string (txt (buildL L).1), .slice a' (buildL L).2.length c', .bool true]) ∧ RdT w' a' (buildL L).2 ∧ (a' = none → c' = 0) ∧ Below V.heap.size V w') := Lib.hid fun V base a c hV ho => buildD (hKB.step hV) ho f1.1 f1.2 m1
        have HKL : Hid (∀ x ∈ L, x.1.length ≤ 2000) := Lib.hid fun x hx => (((mapOk_iff L).1 m1).1 x hx).1
        have HPL : Hid (Asc2 L ∧ (¬ ClashL (buildL L).2 → ∀ f t, witL f t (leavesP (putAll [] (buildL L).2) (buildL L).1 f).flatten = L.filter (inP f t))) := Lib.hid ⟨((mapOk_iff L).1 m1).2, fun hc f t => range_in f t m1 f1.1 f1.2 fun t ht => at_mem hc ht⟩
        have hll := leaves_len t1 (buildL L).1
        have hsm := small_put s1.1
        have hrl := s1.2.2
        have hsl := s1.1
        have hnl : (buildL L).2.length ≤ 3000 := by omega
        clear m1 f1 s1 t1
        generalize (buildL L).2 = nl at *
        generalize (buildL L).1 = root at *
        have P20 : Hid (∀ V a c, Below WB.heap.size WB V → RdT V a nl → Calls Tryd.prog 20 #[.slice a nl.length c] V fun e w' => ∃ h mm, e = .returned (.pointer (some ⟨h, 0, none⟩)) ∧ HpM h mm (putAll [] nl) w' ∧ Below V.heap.size V w') := Lib.hid fun V a c hV h => (newHeap_any (hKB.step hV) h (by omega) hsl).mono (by
          rintro e w' ⟨rfl, h1, h2⟩
          obtain ⟨mm, h3⟩ := h1.toM
          exact ⟨_, mm, rfl, h3, h2⟩)
        have P17 : Hid (∀ V a c, RdT V a nl → Calls Tryd.prog 17 #[.slice a nl.length c] V fun e w' => ∃ q : Bool, e = .returned (.bool q) ∧ (q = true ↔ ClashL nl) ∧ Below V.heap.size V w') := Lib.hid fun V a c h => clash_any h (by omega) hsl
        have P22 : Hid (∀ V h mm f t, HpM h mm (putAll [] nl) V → Calls Tryd.prog 22 #[.iface 40 (.pointer (some ⟨h, 0, none⟩)), .string (txt root), .string (txt f), .string (txt t)] V fun e w' => ∃ b b2, e = .returned (withinRun b2) ∧ WithinG b2 (.func (.func 77) #[] #[.pointer (some ⟨b, 0, none⟩)]) f t (PairsG b (leavesRun V.heap.size) (LeavesG V.heap.size h mm (putAll [] nl) root f)) w' ∧ V.heap.size + 3 ≤ b ∧ b < b2 ∧ Below V.heap.size V w') := Lib.hid fun V h mm f t H => range_any root f t V H
        have P21 : Hid (∀ n0 b b2 h mm f t V, n0 + 3 ≤ b → b < b2 → HpM h mm (putAll [] nl) V → WithinG b2 (.func (.func 77) #[] #[.pointer (some ⟨b, 0, none⟩)]) f t (PairsG b (leavesRun n0) (LeavesG n0 h mm (putAll [] nl) root f)) V → Calls Tryd.prog 21 #[withinRun b2] V fun e w' => ∃ a c, e = .returned (.slice a (witL f t (leavesP (putAll [] nl) root f).flatten).length c) ∧ OwP w' V.heap.size 52 (.slice a (witL f t (leavesP (putAll [] nl) root f).flatten).length c) (witL f t (leavesP (putAll [] nl) root f).flatten) ∧ RdP w' a (witL f t (leavesP (putAll [] nl) root f).flatten) ∧ (a = none → c = 0) ∧ Below V.heap.size V w') := Lib.hid fun n0 b b2 h mm f t V h1 h2 h3 h4 => (listRange_any hsm root f t (by omega) (by have := hll f; omega) n0 b b2 V h1 h2 (fun k hk => h3.lt k hk) h4).mono (by
          rintro e w' ⟨v, rfl, ho, hb⟩
          obtain ⟨a, c, rfl, hr, _, hn, _⟩ := ho.rd
          exact ⟨a, c, rfl, ho, hr, hn, hb⟩)
        have HLEN : Hid (∀ f t, (witL f t (leavesP (putAll [] nl) root f).flatten).length ≤ 1000) := Lib.hid fun f t => Nat.le_trans (wit_len f t _) (hll f)
        have P19 : Hid (∀ (V : World) (ms : List It) a c b d, ms.length ≤ 10000 → RdP V a ms → RdP V b L → Calls Tryd.prog 19 #[.slice a ms.length c, .slice b L.length d] V fun e w' => e = .returned (.bool (decide (ms = L))) ∧ Below V.heap.size V w') := Lib.hid fun V ms a c b d h0 h1 h2 => same_any h1 h2 (by omega) (by omega)
        clear hll hsm hrl hsl hKB hK
        have hmin := min_run k0 k1
        have hmax := max_run k0 k1
        have HMM : Hid (ltL (maxL k0 k1) (minL k0 k1) = false) := Lib.hid (min_max k0 k1)
        have f0' : (L.length : Int) ≤ 200 := by omega
        have hnl' : (nl.length : Int) ≤ 3000 := by omega
        subst hWB
        generalize minL k0 k1 = ka at *
        generalize maxL k0 k1 = kb at *
        generalize txt root = tr at *
        generalize putAll [] nl = lx at *
        generalize txt k0 = t0 at *
        generalize txt k1 = t1 at *
        go_enter Tryd.func7, Tryd.ntmps7
        go_wp2_with (first
          | (go_at_call 9; (with_reducible refine P9.out.mono ?_); rintro e w1 ⟨rfl, hb1⟩)
          | (go_at_call 10; (with_reducible refine (P10.out _ hb1).mono ?_); rintro e w2 ⟨rfl, hb2⟩; have hB2 := hb1.trans (hb2.mono hb1.size); obtain ⟨x0, x1, -⟩ := HX.out _ hB2)
          | (go_at_call 11; (with_reducible refine (P11.out _ hB2).mono ?_); rintro e w3 ⟨a3, c3, rfl, hr3, hb3⟩; have hB3 := hB2.trans (hb3.mono hB2.size); clear x0 x1)
          | (go_at_call 13; (with_reducible refine (P13.out _ _ _ hr3).mono ?_); rintro e w4 ⟨a4, c4, rfl, ho4, -, hb4⟩; have hB4 := hB3.trans (hb4.mono hB3.size); have hr4 := hr3.new hb4)
          | (go_at_call 12; (with_reducible refine (P12.out _ _ _ _ hB4 ho4).mono ?_); rintro e w5 ⟨a5, c5, rfl, ht5, -, hb5⟩; have hB5 := hB4.trans (hb5.mono hB4.size); have hr5 := hr4.new hb5)
          | (go_at_call 20; (with_reducible refine (P20.out _ _ _ hB5 ht5).mono ?_); rintro e w6 ⟨h, mm, rfl, hp6, hb6⟩; have hB6 := hB5.trans (hb6.mono hB5.size); obtain ⟨x0, x1, hlow⟩ := HX.out _ hB6))
        have HO : Hid (RaO w w6 h mm lx L nl a3 a5) := Lib.hid ⟨hp6, hr5.new hb6, ht5.new hb6, hlow⟩
        clear hb1 hb2 hb3 hb4 hb5 hb6 hB2 hB3 hB4 hB5 hB6 hr3 hr4 hr5 ht5 ho4 hp6 hlow P9 P10 P11 P12 P13 P20 HX
        go_region
        have hD : Below w6.heap.size w6 w6.drew := (Below.refl _ _).drew
        generalize w6.drew = wA at hD ⊢
        have hA := HO.out.new hD
        clear x0 x1 HO hD hmin hmax
        have P22a : Hid (∀ V h mm, HpM h mm lx V → Calls Tryd.prog 22 #[.iface 40 (.pointer (some ⟨h, 0, none⟩)), .string tr, .string ⟨#[]⟩, .string (txt ka)] V fun e w' => ∃ b b2, e = .returned (withinRun b2) ∧ WithinG b2 (.func (.func 77) #[] #[.pointer (some ⟨b, 0, none⟩)]) [] ka (PairsG b (leavesRun V.heap.size) (LeavesG V.heap.size h mm lx root [])) w' ∧ V.heap.size + 3 ≤ b ∧ b < b2 ∧ Below V.heap.size V w') := Lib.hid fun V h mm H => P22.out V h mm [] ka H
        have P22b := Lib.hid (fun V h mm H => P22.out V h mm ka kb H)
        have P22c := Lib.hid (fun V h mm H => P22.out V h mm kb (maxL (topL L) kb) H)
        have P21a := Lib.hid (fun n0 b b2 h mm V => P21.out n0 b b2 h mm [] ka V)
        have P21b := Lib.hid (fun n0 b b2 h mm V => P21.out n0 b b2 h mm ka kb V)
        have P21c := Lib.hid (fun n0 b b2 h mm V => P21.out n0 b b2 h mm kb (maxL (topL L) kb) V)
        have HW := Lib.hid (And.intro (HLEN.out [] ka) (And.intro (HLEN.out ka kb) (HLEN.out kb (maxL (topL L) kb))))
        have HCL : Hid (¬ ClashL nl → witL [] ka (leavesP lx root []).flatten ++ (witL ka kb (leavesP lx root ka).flatten ++ witL kb (maxL (topL L) kb) (leavesP lx root kb).flatten) = L) := Lib.hid fun hc => by
          rw [HPL.out.2 hc, HPL.out.2 hc, HPL.out.2 hc]
          exact three HPL.out.1 HMM.out (top_all HPL.out.1 kb)
        clear P22 P21 HLEN HPL HMM
        generalize witL [] ka (leavesP lx root []).flatten = W1 at *
        generalize witL ka kb (leavesP lx root ka).flatten = W2 at *
        generalize witL kb (maxL (topL L) kb) (leavesP lx root kb).flatten = W3 at *
        have hw1 : (W1.length : Int) ≤ 1000 := by have := HW.out; omega
        have hw2 : (W2.length : Int) ≤ 1000 := by have := HW.out; omega
        have hw3 : (W3.length : Int) ≤ 1000 := by have := HW.out; omega
        have P19' : Hid (∀ (V : World) a c b d, RdP V a (W1 ++ W2 ++ W3) → RdP V b L → Calls Tryd.prog 19 #[.slice a (W1.length + W2.length + W3.length) c, .slice b L.length d] V fun e w' => e = .returned (.bool (decide (W1 ++ W2 ++ W3 = L))) ∧ Below V.heap.size V w') := Lib.hid fun V a c b d h1 h2 => by
          have h := P19.out V (W1 ++ W2 ++ W3) a c b d (by have := HW.out; rw [List.length_append, List.length_append]; omega) h1 h2
          rwa [List.length_append, List.length_append] at h
        have P17' : Hid (¬ (W1 ++ W2 ++ W3 = L) → ∀ V a c, RdT V a nl → Calls Tryd.prog 17 #[.slice a nl.length c] V fun e w' => e = .returned (.bool true) ∧ Below V.heap.size V w') := Lib.hid fun hn V a c h => (P17.out V a c h).mono (by
          rintro e w' ⟨q, rfl, hq, hb⟩
          have hc : ClashL nl := Classical.byContradiction fun hc => hn (by rw [List.append_assoc]; exact HCL.out hc)
          rw [hq.2 hc]
          exact ⟨rfl, hb⟩)
        have ho13pre : ∀ {V : World} {base : Nat} {v : Value}, OwP V base 52 v (W1 ++ W2) → OwP V base 52 v (W1 ++ W2) := fun h => h
        clear P17 P19 HCL
        by_cases hL0 : L = []
        · have hz : (L.length : Int) = 0 := by rw [hL0]; rfl
          have hmx : ∀ V, (Builtin.max_ #[9, 9] 9 #[.string ⟨#[]⟩, .string (txt kb)]).run Tryd.prog V = .ok (.string (txt (maxL (topL L) kb))) V := fun V => by
            have h := max_run [] kb V
            have e : topL L = [] := by unfold topL; rw [if_pos hL0]
            rw [e]
            exact h
          clear hL0
          by_cases hq : W1 ++ W2 ++ W3 = L
          · rw [decide_eq_true hq] at P19'
            clear P17' hq
            generalize txt (maxL (topL L) kb) = tt at *
            generalize txt ka = ta at *
            generalize txt kb = tb at *
            go_wp2_with (first
          | (go_at_call 22; (with_reducible refine (P22a.out _ _ _ hA.hp).mono ?_); rintro e v1 ⟨b1, q1, rfl, hG1, hx1, hy1, hc1⟩; have hB1 := hc1)
          | (go_at_call 21; (with_reducible refine (P21a.out _ _ _ _ _ _ hx1 hy1 (hA.new hB1).hp hG1).mono ?_); rintro e v2 ⟨a1, c1, rfl, ho1, hr1, hn1, hc2⟩; have hB2 := hB1.trans (hc2.mono hB1.size))
          | (go_at_call 22; (with_reducible refine (P22b.out _ _ _ (hA.new hB2).hp).mono ?_); rintro e v3 ⟨b2, q2, rfl, hG2, hx2, hy2, hc3⟩; have hB3 := hB2.trans (hc3.mono hB2.size))
          | (go_at_call 21; (with_reducible refine (P21b.out _ _ _ _ _ _ hx2 hy2 (hA.new hB3).hp hG2).mono ?_); rintro e v4 ⟨a2, c2, rfl, ho2, hr2, hn2, hc4⟩; have hB4 := hB3.trans (hc4.mono hB3.size); obtain ⟨a12, c12, v5, u1, ho12, hch5⟩ := app_pairs v4 v1.heap.size _ W1 ((ho1.new hc3).new hc4) a2 c2 W2 hr2 hn2 (by have := HW.out; omega) (by have := hc2.size; have := hc3.size; have := hc4.size; omega); have hB5 := hB4.trans (hch5.below hB4.size (fun k hk e => by have := (((ho1.new hc3).new hc4).own k e).1; have := hB1.size; omega)))
          | (go_at_call 22; (with_reducible refine (P22c.out _ _ _ (hA.new hB5).hp).mono ?_); rintro e v6 ⟨b3, q3, rfl, hG3, hx3, hy3, hc6⟩; clear u1; have hB6 := hB5.trans (hc6.mono hB5.size))
          | (go_at_call 21; (with_reducible refine (P21c.out _ _ _ _ _ _ hx3 hy3 (hA.new hB6).hp hG3).mono ?_); rintro e v7 ⟨a3', c3', rfl, ho3, hr3, hn3, hc7⟩; have hB7 := hB6.trans (hc7.mono hB6.size); obtain ⟨a13, c13, v8, u2, ho13, hch8⟩ := app_pairs v7 v1.heap.size _ (W1 ++ W2) (ho13pre ((ho12.new hc6).new hc7)) a3' c3' W3 hr3 hn3 (by have := HW.out; rw [List.length_append]; omega) (by have := hc2.size; have := hc3.size; have := hc4.size; have := hch5.size; have := hc6.size; have := hc7.size; omega); have hB8 := hB7.trans (hch8.below hB7.size (fun k hk e => by have := (((ho12.new hc6).new hc7).own k e).1; have := hB1.size; omega)); have hr13 := ho13.rdp; rw [List.length_append] at u2)
          | (go_at_call 19; (with_reducible refine (P19'.out _ _ _ _ _ hr13 (hA.new hB8).rp).mono ?_); rintro e v9 ⟨rfl, hc9⟩; clear u2; have hB9 := hB8.trans (hc9.mono hB8.size)))
            go_ret
            exact ⟨rfl, (hA.new hB9).low⟩
          · rw [decide_eq_false hq] at P19'
            have P17'' := Lib.hid (P17'.out hq)
            clear P17' hq
            generalize txt (maxL (topL L) kb) = tt at *
            generalize txt ka = ta at *
            generalize txt kb = tb at *
            go_wp2_with (first
          | (go_at_call 22; (with_reducible refine (P22a.out _ _ _ hA.hp).mono ?_); rintro e v1 ⟨b1, q1, rfl, hG1, hx1, hy1, hc1⟩; have hB1 := hc1)
          | (go_at_call 21; (with_reducible refine (P21a.out _ _ _ _ _ _ hx1 hy1 (hA.new hB1).hp hG1).mono ?_); rintro e v2 ⟨a1, c1, rfl, ho1, hr1, hn1, hc2⟩; have hB2 := hB1.trans (hc2.mono hB1.size))
          | (go_at_call 22; (with_reducible refine (P22b.out _ _ _ (hA.new hB2).hp).mono ?_); rintro e v3 ⟨b2, q2, rfl, hG2, hx2, hy2, hc3⟩; have hB3 := hB2.trans (hc3.mono hB2.size))
          | (go_at_call 21; (with_reducible refine (P21b.out _ _ _ _ _ _ hx2 hy2 (hA.new hB3).hp hG2).mono ?_); rintro e v4 ⟨a2, c2, rfl, ho2, hr2, hn2, hc4⟩; have hB4 := hB3.trans (hc4.mono hB3.size); obtain ⟨a12, c12, v5, u1, ho12, hch5⟩ := app_pairs v4 v1.heap.size _ W1 ((ho1.new hc3).new hc4) a2 c2 W2 hr2 hn2 (by have := HW.out; omega) (by have := hc2.size; have := hc3.size; have := hc4.size; omega); have hB5 := hB4.trans (hch5.below hB4.size (fun k hk e => by have := (((ho1.new hc3).new hc4).own k e).1; have := hB1.size; omega)))
          | (go_at_call 22; (with_reducible refine (P22c.out _ _ _ (hA.new hB5).hp).mono ?_); rintro e v6 ⟨b3, q3, rfl, hG3, hx3, hy3, hc6⟩; clear u1; have hB6 := hB5.trans (hc6.mono hB5.size))
          | (go_at_call 21; (with_reducible refine (P21c.out _ _ _ _ _ _ hx3 hy3 (hA.new hB6).hp hG3).mono ?_); rintro e v7 ⟨a3', c3', rfl, ho3, hr3, hn3, hc7⟩; have hB7 := hB6.trans (hc7.mono hB6.size); obtain ⟨a13, c13, v8, u2, ho13, hch8⟩ := app_pairs v7 v1.heap.size _ (W1 ++ W2) (ho13pre ((ho12.new hc6).new hc7)) a3' c3' W3 hr3 hn3 (by have := HW.out; rw [List.length_append]; omega) (by have := hc2.size; have := hc3.size; have := hc4.size; have := hch5.size; have := hc6.size; have := hc7.size; omega); have hB8 := hB7.trans (hch8.below hB7.size (fun k hk e => by have := (((ho12.new hc6).new hc7).own k e).1; have := hB1.size; omega)); have hr13 := ho13.rdp; rw [List.length_append] at u2)
          | (go_at_call 19; (with_reducible refine (P19'.out _ _ _ _ _ hr13 (hA.new hB8).rp).mono ?_); rintro e v9 ⟨rfl, hc9⟩; clear u2; have hB9 := hB8.trans (hc9.mono hB8.size))
          | (go_at_call 17; (with_reducible refine (P17''.out _ _ _ (hA.new hB9).rt).mono ?_); rintro e v10 ⟨rfl, hc10⟩; have hB10 := hB9.trans (hc10.mono hB9.size)))
            go_ret
            exact ⟨rfl, (hA.new hB10).low⟩
        · have hlp := List.length_pos_iff.2 hL0
          have hz : (0 : Int) < (L.length : Int) := by omega
          have hz2 : ¬ (L.length : Int) = 0 := by omega
          have i1 : IntKind.i64.wrap ((L.length : Int) - 1) = (L.length : Int) - 1 := IntWalk.i64_in _ (by omega)
          have i2 : (0 : Int) ≤ (L.length : Int) - 1 := by omega
          have i3 : (L.length : Int) - 1 < (L.length : Int) := by omega
          have i4 : ((L.length : Int) - 1).toNat = L.length - 1 := by omega
          obtain ⟨bq, oq, ha3, z0, -⟩ := hA.rp (L.length - 1) (by omega)
          subst ha3
          have hkl : (itD L (L.length - 1)).1.length ≤ 2000 := HKL.out _ (itD_mem (by omega))
          have hcat : binOp .add 9 (.string (txt (itD L (L.length - 1)).1)) (.string ⟨#[0]⟩) = pure (.string (txt ((itD L (L.length - 1)).1 ++ [0]))) := cat _ [0] (by simp; omega)
          have hmx : ∀ V, (Builtin.max_ #[9, 9] 9 #[.string (txt ((itD L (L.length - 1)).1 ++ [0])), .string (txt kb)]).run Tryd.prog V = .ok (.string (txt (maxL (topL L) kb))) V := fun V => by
            have h := max_run ((itD L (L.length - 1)).1 ++ [0]) kb V
            have e : topL L = (itD L (L.length - 1)).1 ++ [0] := by unfold topL; rw [if_neg hL0]
            rw [e]
            exact h
          clear hL0 hkl
          generalize txt ((itD L (L.length - 1)).1 ++ [0]) = tlz at *
          generalize txt (itD L (L.length - 1)).1 = tlk at *
          by_cases hq : W1 ++ W2 ++ W3 = L
          · rw [decide_eq_true hq] at P19'
            clear P17' hq
            generalize txt (maxL (topL L) kb) = tt at *
            generalize txt ka = ta at *
            generalize txt kb = tb at *
            go_wp2_with (first
          | (go_at_call 22; (with_reducible refine (P22a.out _ _ _ hA.hp).mono ?_); rintro e v1 ⟨b1, q1, rfl, hG1, hx1, hy1, hc1⟩; have hB1 := hc1)
          | (go_at_call 21; (with_reducible refine (P21a.out _ _ _ _ _ _ hx1 hy1 (hA.new hB1).hp hG1).mono ?_); rintro e v2 ⟨a1, c1, rfl, ho1, hr1, hn1, hc2⟩; have hB2 := hB1.trans (hc2.mono hB1.size))
          | (go_at_call 22; (with_reducible refine (P22b.out _ _ _ (hA.new hB2).hp).mono ?_); rintro e v3 ⟨b2, q2, rfl, hG2, hx2, hy2, hc3⟩; have hB3 := hB2.trans (hc3.mono hB2.size))
          | (go_at_call 21; (with_reducible refine (P21b.out _ _ _ _ _ _ hx2 hy2 (hA.new hB3).hp hG2).mono ?_); rintro e v4 ⟨a2, c2, rfl, ho2, hr2, hn2, hc4⟩; have hB4 := hB3.trans (hc4.mono hB3.size); obtain ⟨a12, c12, v5, u1, ho12, hch5⟩ := app_pairs v4 v1.heap.size _ W1 ((ho1.new hc3).new hc4) a2 c2 W2 hr2 hn2 (by have := HW.out; omega) (by have := hc2.size; have := hc3.size; have := hc4.size; omega); have hB5 := hB4.trans (hch5.below hB4.size (fun k hk e => by have := (((ho1.new hc3).new hc4).own k e).1; have := hB1.size; omega)))
          | (go_at_call 22; (with_reducible refine (P22c.out _ _ _ (hA.new hB5).hp).mono ?_); rintro e v6 ⟨b3, q3, rfl, hG3, hx3, hy3, hc6⟩; clear u1; have hB6 := hB5.trans (hc6.mono hB5.size))
          | (go_at_call 21; (with_reducible refine (P21c.out _ _ _ _ _ _ hx3 hy3 (hA.new hB6).hp hG3).mono ?_); rintro e v7 ⟨a3', c3', rfl, ho3, hr3, hn3, hc7⟩; have hB7 := hB6.trans (hc7.mono hB6.size); obtain ⟨a13, c13, v8, u2, ho13, hch8⟩ := app_pairs v7 v1.heap.size _ (W1 ++ W2) (ho13pre ((ho12.new hc6).new hc7)) a3' c3' W3 hr3 hn3 (by have := HW.out; rw [List.length_append]; omega) (by have := hc2.size; have := hc3.size; have := hc4.size; have := hch5.size; have := hc6.size; have := hc7.size; omega); have hB8 := hB7.trans (hch8.below hB7.size (fun k hk e => by have := (((ho12.new hc6).new hc7).own k e).1; have := hB1.size; omega)); have hr13 := ho13.rdp; rw [List.length_append] at u2)
          | (go_at_call 19; (with_reducible refine (P19'.out _ _ _ _ _ hr13 (hA.new hB8).rp).mono ?_); rintro e v9 ⟨rfl, hc9⟩; clear u2; have hB9 := hB8.trans (hc9.mono hB8.size)))
            go_ret
            exact ⟨rfl, (hA.new hB9).low⟩
          · rw [decide_eq_false hq] at P19'
            have P17'' := Lib.hid (P17'.out hq)
            clear P17' hq
            generalize txt (maxL (topL L) kb) = tt at *
            generalize txt ka = ta at *
            generalize txt kb = tb at *
            go_wp2_with (first
          | (go_at_call 22; (with_reducible refine (P22a.out _ _ _ hA.hp).mono ?_); rintro e v1 ⟨b1, q1, rfl, hG1, hx1, hy1, hc1⟩; have hB1 := hc1)
          | (go_at_call 21; (with_reducible refine (P21a.out _ _ _ _ _ _ hx1 hy1 (hA.new hB1).hp hG1).mono ?_); rintro e v2 ⟨a1, c1, rfl, ho1, hr1, hn1, hc2⟩; have hB2 := hB1.trans (hc2.mono hB1.size))
          | (go_at_call 22; (with_reducible refine (P22b.out _ _ _ (hA.new hB2).hp).mono ?_); rintro e v3 ⟨b2, q2, rfl, hG2, hx2, hy2, hc3⟩; have hB3 := hB2.trans (hc3.mono hB2.size))
          | (go_at_call 21; (with_reducible refine (P21b.out _ _ _ _ _ _ hx2 hy2 (hA.new hB3).hp hG2).mono ?_); rintro e v4 ⟨a2, c2, rfl, ho2, hr2, hn2, hc4⟩; have hB4 := hB3.trans (hc4.mono hB3.size); obtain ⟨a12, c12, v5, u1, ho12, hch5⟩ := app_pairs v4 v1.heap.size _ W1 ((ho1.new hc3).new hc4) a2 c2 W2 hr2 hn2 (by have := HW.out; omega) (by have := hc2.size; have := hc3.size; have := hc4.size; omega); have hB5 := hB4.trans (hch5.below hB4.size (fun k hk e => by have := (((ho1.new hc3).new hc4).own k e).1; have := hB1.size; omega)))
          | (go_at_call 22; (with_reducible refine (P22c.out _ _ _ (hA.new hB5).hp).mono ?_); rintro e v6 ⟨b3, q3, rfl, hG3, hx3, hy3, hc6⟩; clear u1; have hB6 := hB5.trans (hc6.mono hB5.size))
          | (go_at_call 21; (with_reducible refine (P21c.out _ _ _ _ _ _ hx3 hy3 (hA.new hB6).hp hG3).mono ?_); rintro e v7 ⟨a3', c3', rfl, ho3, hr3, hn3, hc7⟩; have hB7 := hB6.trans (hc7.mono hB6.size); obtain ⟨a13, c13, v8, u2, ho13, hch8⟩ := app_pairs v7 v1.heap.size _ (W1 ++ W2) (ho13pre ((ho12.new hc6).new hc7)) a3' c3' W3 hr3 hn3 (by have := HW.out; rw [List.length_append]; omega) (by have := hc2.size; have := hc3.size; have := hc4.size; have := hch5.size; have := hc6.size; have := hc7.size; omega); have hB8 := hB7.trans (hch8.below hB7.size (fun k hk e => by have := (((ho12.new hc6).new hc7).own k e).1; have := hB1.size; omega)); have hr13 := ho13.rdp; rw [List.length_append] at u2)
          | (go_at_call 19; (with_reducible refine (P19'.out _ _ _ _ _ hr13 (hA.new hB8).rp).mono ?_); rintro e v9 ⟨rfl, hc9⟩; clear u2; have hB9 := hB8.trans (hc9.mono hB8.size))
          | (go_at_call 17; (with_reducible refine (P17''.out _ _ _ (hA.new hB9).rt).mono ?_); rintro e v10 ⟨rfl, hc10⟩; have hB10 := hB9.trans (hc10.mono hB9.size)))
            go_ret
            exact ⟨rfl, (hA.new hB10).low⟩
      · have hv' : (2000 : Int) < (k1.length : Int) := by omega
        clear hRB hR hx hl hF hk hv hKB hK hb0 hrow
        subst hWB
        go_enter Tryd.func7, Tryd.ntmps7
        go_wp2_with (first
          | (go_at_call 9; (with_reducible refine P9.out.mono ?_); rintro e w1 ⟨rfl, hb1⟩)
          | (go_at_call 10; (with_reducible refine (P10.out _ hb1).mono ?_); rintro e w2 ⟨rfl, hb2⟩; have hB2 := hb1.trans (hb2.mono hb1.size); obtain ⟨x0, x1, hxw⟩ := HX.out _ hB2))
        go_ret
        exact ⟨rfl, hxw⟩
    · have hk' : (2000 : Int) < (k0.length : Int) := by omega
      clear hRB hR hx hl hF hk hKB hK hb0 hrow
      subst hWB
      go_enter Tryd.func7, Tryd.ntmps7
      go_wp2_with (first
        | (go_at_call 9; (with_reducible refine P9.out.mono ?_); rintro e w1 ⟨rfl, hb1⟩)
        | (go_at_call 10; (with_reducible refine (P10.out _ hb1).mono ?_); rintro e w2 ⟨rfl, hb2⟩; have hB2 := hb1.trans (hb2.mono hb1.size); obtain ⟨x0, x1, hxw⟩ := HX.out _ hB2))
      go_ret
      exact ⟨rfl, hxw⟩
  · rw [decide_eq_false hF] at P10
    clear hRB hR hx hl hF hKB hK hb0 hrow
    subst hWB
    go_enter Tryd.func7, Tryd.ntmps7
    go_wp2_with (first
      | (go_at_call 9; (with_reducible refine P9.out.mono ?_); rintro e w1 ⟨rfl, hb1⟩)
      | (go_at_call 10; (with_reducible refine (P10.out _ hb1).mono ?_); rintro e w2 ⟨rfl, hb2⟩; have hB2 := hb1.trans (hb2.mono hb1.size); obtain ⟨x0, x1, hxw⟩ := HX.out _ hB2))
    go_ret
    exact ⟨rfl, hxw⟩
end Go.Proofs.YtfjlkphpeneahaaDoor
