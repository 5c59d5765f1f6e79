/- The walk of ProllyNear. -/
import Derived.Test.YtfjlkphpeneahaaDoorLOne
import Derived.Test.YtfjlkphpeneahaaDoorDNear
import Derived.Test.YtfjlkphpeneahaaDoorLHave
import Derived.Test.YtfjlkphpeneahaaDoorTCnt
namespace Go.Proofs.YtfjlkphpeneahaaDoor
open Go Go.RowKit
attribute [-go_sem] Builtin.append_

theorem ris_map2 {l : List It} (h : ∀ x ∈ l, x.1.length ≤ 2000 ∧ x.2.length ≤ 8000) : mapOk (risL l) = true := by
  rw [mapOk_iff]
  exact ⟨fun x hx => (ris_mem l [] x hx).elim (h x) (fun h => by cases h), ris_asc l [] List.Pairwise.nil⟩
/-- append of a list to one pair. -/
theorem cons_run (V : World) (x : It) (a0 : Option Addr) (c0 : Nat) (xs : List It) (hR : RdP V a0 xs) (hl : xs.length ≤ 1000) :
    ∃ a' c' V', (Builtin.append_ #[22, 22] 22 #[.slice (some ⟨V.heap.size, 0, none⟩) 1 1, .slice a0 xs.length c0]).run Tryd.prog (V.alloc (.cells #[.string (txt x.1), .string (txt x.2)] 43)) = .ok (.slice a' (xs.length + 1) c') V' ∧ RdP V' a' (x :: xs) ∧ Below V.heap.size V V' := by
  have hb0 : Below V.heap.size V (V.alloc (.cells #[.string (txt x.1), .string (txt x.2)] 43)) := (Below.refl _ _).alloc (Nat.le_refl _) _
  have hone := RdP.one V x
  cases xs with
  | nil => exact ⟨_, _, _, none_pairs _ _ 1 1 (Nat.le_refl _) _ _, hone, hb0⟩
  | cons y ys =>
    obtain ⟨p, q, hpe, _⟩ := hR 0 (by simp)
    subst hpe
    obtain ⟨v1, w1, hrun, hO, hb⟩ := grow_pairs (V.alloc (.cells #[.string (txt x.1), .string (txt x.2)] 43)) (some ⟨V.heap.size, 0, none⟩) [x] hone p q (y :: ys) c0 (hR.new hb0) (by simp) (by simp at hl ⊢; omega)
    obtain ⟨a1, c1, rfl, hrd, _⟩ := hO.rd
    refine ⟨a1, c1, w1, ?_, hrd, hb0.trans (hb.mono hb0.size)⟩
    exact hrun
/-- What the second loop's rounds know of a node: it is right; where it is one to be looked at, it is had. -/
theorem near_round {x : It} {l : List It} (h1 : Few l) (h2 : mapOk (risL (x :: l)) = true) (hn : risL (x :: l) ≠ [] → ∀ t ∈ levelL 0 (risL (x :: l)), t ∈ (buildL (risL (x :: l))).2) {i : Nat} (hi : i < (buildL (risL l)).2.length) :
    ∃ k q, parseL ((buildL (risL l)).2.getD i []) = some (k, q) ∧ (k = 0 → q ≠ [] → ltL (itD q (q.length - 1)).1 x.1 = true → i + 1 < (buildL (risL l)).2.length → ∃ k' q', parseL ((buildL (risL l)).2.getD (i + 1) []) = some (k', q') ∧ (k' = 0 → D4.look ((buildL (risL l)).2.getD i []) (haveL (buildL (risL (x :: l))).2) = some [])) := by
  have hm := ris_map h1
  have hb := build_levels hm (ris_few2 h1).1 (ris_few2 h1).2
  have hmem : ∀ j, j < (buildL (risL l)).2.length → (buildL (risL l)).2.getD j [] ∈ (buildL (risL l)).2 := fun j hj => by rw [getD_at hj]; exact List.getElem_mem hj
  obtain ⟨k, q, hp⟩ := hb.1 _ (hmem i hi)
  refine ⟨k, q, hp, fun hk hq hlt hi1 => ?_⟩
  obtain ⟨k', q', hp'⟩ := hb.1 _ (hmem (i + 1) hi1)
  refine ⟨k', q', hp', fun hk' => ?_⟩
  subst hk hk'
  obtain ⟨t, ht, e⟩ := near_node h1 h2 hi1 hp hp' hlt
  rw [← e]
  refine have_look (hn (fun h0 => ?_) t ht)
  rw [h0] at ht
  cases ht
theorem haveL_len (xs : List Bs) : (haveL xs).length ≤ xs.length := by
  have := have_len xs []
  simpa [haveL] using this
/-- What the second loop's rounds stand on. -/
structure NearO (x : It) (W V : World) (g b : Nat) (nn : List Bs) (nl : List Bs) (a : Option Addr) : Prop where
  had : Had V g (haveL nn)
  rd : RdT V a nl
  x0 : V.cell? ⟨b, 0, none⟩ = some (.string (txt x.1))
  low : Below W.heap.size W V
theorem NearO.new {x : It} {W V V' : World} {g b : Nat} {nn nl : List Bs} {a : Option Addr} (h : NearO x W V g b nn nl a) (hb : Below V.heap.size V V') : NearO x W V' g b nn nl a :=
  ⟨h.had.new hb, h.rd.new hb, (Ch.of_new (S := fun _ => False) hb).cell h.x0 id, h.low.trans (hb.mono h.low.size)⟩
set_option maxRecDepth 100000 in
set_option maxHeartbeats 16000000 in
theorem near_any {w : World} (hK : S1.KR w) (a0 : Option Addr) (c0 : Nat) (xs : List It) (hR : RdP w a0 xs) (hx : ∀ x ∈ xs, x.1.length ≤ 140737488355328 ∧ x.2.length ≤ 140737488355328) (hl : xs.length ≤ maxLen) (x : It) (hxx : x.1.length ≤ 140737488355328 ∧ x.2.length ≤ 140737488355328) :
    Calls Tryd.prog 8 #[.slice a0 xs.length c0, .agg #[.string (txt x.1), .string (txt x.2)]] w fun e w' => e = .returned (.bool true) ∧ Below w.heap.size w w' := by
  obtain ⟨WB, hWB⟩ : ∃ WB, WB = w.alloc (.cells #[.string (txt x.1), .string (txt x.2)] 43) := ⟨_, rfl⟩
  have hb0 : Below w.heap.size w WB := by rw [hWB]; exact (Below.refl _ _).alloc (Nat.le_refl _) _
  have hrow : WB.heap[w.heap.size]? = some (.cells #[.string (txt x.1), .string (txt x.2)] 43 (0, 0)) := by rw [hWB]; exact heap_alloc_new w _
  have HX : Hid (∀ V, Below WB.heap.size WB V → V.cell? ⟨w.heap.size, 0, none⟩ = some (.string (txt x.1)) ∧ V.cell? ⟨w.heap.size, 1, none⟩ = some (.string (txt x.2)) ∧ Below w.heap.size w V) := Lib.hid fun V hV => by
    have h1 := (hV.block w.heap.size (lt_of_heap hrow)).trans hrow
    exact ⟨cell_of_row _ _ 0 _ _ _ h1, cell_of_row _ _ 1 _ _ _ h1, hb0.trans (hV.mono hb0.size)⟩
  have hKB := hK.step hb0
  have hRB := hR.new hb0
  have P9 := Lib.hid (awake_any hKB)
  have P10 : Hid (∀ V, Below WB.heap.size WB V → Calls Tryd.prog 10 #[.slice a0 xs.length c0] V fun e w' => e = .returned (.bool (decide (Few xs))) ∧ Below V.heap.size V w') := Lib.hid fun V hV => few_any (hRB.new hV) hx hl
  have hzk := txt_size x.1
  have hzv := txt_size x.2
  have hx1 : (x.1.length : Int) ≤ 140737488355328 := by omega
  have hx2 : (x.2.length : Int) ≤ 140737488355328 := by omega
  by_cases hF : Few xs
  · rw [decide_eq_true hF] at P10
    by_cases hk : x.1.length ≤ 2000
    · have hk' : ¬ (2000 : Int) < (x.1.length : Int) := by omega
      have hk'' : (x.1.length : Int) ≤ 2000 := by omega
      by_cases hv : x.2.length ≤ 8000
      · have hv' : ¬ (8000 : Int) < (x.2.length : Int) := by omega
        have hv'' : (x.2.length : Int) ≤ 8000 := by omega
        have P11a : Hid (∀ V, Below WB.heap.size WB V → Calls Tryd.prog 11 #[.slice a0 xs.length c0] V fun e w' => ∃ a' c', e = .returned (.slice a' (risL xs).length c') ∧ RdP w' a' (risL xs) ∧ Below V.heap.size V w') := Lib.hid fun V hV => (rising_any (hRB.new hV) (by have := hF.1; omega)).mono (by
          rintro e w' ⟨a', c', h1, h2, h3, h4⟩
          exact ⟨a', c', h1, h2, h4⟩)
        have P11b : Hid (∀ V a c, RdP V a (x :: xs) → Calls Tryd.prog 11 #[.slice a (xs.length + 1) c] V fun e w' => ∃ a' c', e = .returned (.slice a' (risL (x :: xs)).length c') ∧ RdP w' a' (risL (x :: xs)) ∧ Below V.heap.size V w') := Lib.hid fun V a c h => (rising_any (l := x :: xs) h (by have := hF.1; simp; omega)).mono (by
          rintro e w' ⟨a', c', h1, h2, h3, h4⟩
          exact ⟨a', c', h1, h2, h4⟩)
        have HCONS : Hid (∀ V, Below WB.heap.size WB V → ∃ a' c' V', (Builtin.append_ #[22, 22] 22 #[.slice (some ⟨V.heap.size, 0, none⟩) 1 1, .slice a0 xs.length c0]).run Tryd.prog (V.alloc (.cells #[.string (txt x.1), .string (txt x.2)] 43)) = .ok (.slice a' (xs.length + 1) c') V' ∧ RdP V' a' (x :: xs) ∧ Below V.heap.size V V') := Lib.hid fun V hV => cons_run V x a0 c0 xs (hRB.new hV) (by have := hF.1; omega)
        have m1 := ris_map hF
        have hall : ∀ y ∈ x :: xs, y.1.length ≤ 2000 ∧ y.2.length ≤ 8000 := fun y hy => by
          rcases List.mem_cons.1 hy with rfl | hy
          · exact ⟨hk, hv⟩
          · exact hF.2.2 y hy
        have m2 := ris_map2 hall
        have hsz : szL (x :: xs) ≤ 30000 := by
          have h3 : szL (x :: xs) = (x.1.length + x.2.length) + szL xs := rfl
          have := hF.2.1
          omega
        have f1 := ris_few2 hF
        have f2 : (risL (x :: xs)).length ≤ 201 ∧ szL (risL (x :: xs)) ≤ 30000 := ris_lim (l := x :: xs) (by have := hF.1; simp; omega) hsz
        have s1 := build_small m1 f1.1 f1.2
        have s2 := build_small m2 (by omega) (by omega)
        have HRND : Hid (∀ i, i < (buildL (risL xs)).2.length → ∃ k q, parseL ((buildL (risL xs)).2.getD i []) = some (k, q) ∧ (k = 0 → q ≠ [] → ltL (itD q (q.length - 1)).1 x.1 = true → i + 1 < (buildL (risL xs)).2.length → ∃ k' q', parseL ((buildL (risL xs)).2.getD (i + 1) []) = some (k', q') ∧ (k' = 0 → D4.look ((buildL (risL xs)).2.getD i []) (haveL (buildL (risL (x :: xs))).2) = some []))) := Lib.hid fun i hi => near_round hF m2 (fun hne t ht => by
          obtain ⟨T, e, _⟩ := (build_levels m2 (by omega) (by omega)).2.1 hne
          rw [e]
          exact List.mem_append_left _ ht) hi
        clear hsz hall hF hRB hR hx hl hxx
        generalize risL xs = L at *
        generalize risL (x :: xs) = N at *
        have P13l : Hid (∀ V a c, RdP V a L → Calls Tryd.prog 13 #[.slice a L.length c] V fun e w' => ∃ a' c', e = .returned (.slice a' L.length c') ∧ OwP w' V.heap.size 52 (.slice a' L.length c') L ∧ RdP w' a' L ∧ Below V.heap.size V w') := Lib.hid fun V a c h => pairsD h f1.1
        have P13m : Hid (∀ V a c, RdP V a N → Calls Tryd.prog 13 #[.slice a N.length c] V fun e w' => ∃ a' c', e = .returned (.slice a' N.length c') ∧ OwP w' V.heap.size 52 (.slice a' N.length c') N ∧ RdP w' a' N ∧ Below V.heap.size V w') := Lib.hid fun V a c h => pairsD h (by omega)
        have P12l : Hid (∀ V base a c, Below WB.heap.size WB V → OwP V base 52 (.slice a L.length c) L → Calls Tryd.prog 12 #[.slice a L.length c] V fun e w' => ∃ a' c', e = .returned (.tuple #[.string (txt (buildL L).1), .slice a' (buildL L).2.length c', .bool true]) ∧ RdT w' a' (buildL L).2 ∧ (a' = none → c' = 0) ∧ Below V.heap.size V w') := Lib.hid fun V base a c hV ho => buildD (hKB.step hV) ho f1.1 f1.2 m1
        have P12m : Hid (∀ V base a c, Below WB.heap.size WB V → OwP V base 52 (.slice a N.length c) N → Calls Tryd.prog 12 #[.slice a N.length c] V fun e w' => ∃ a' c', e = .returned (.tuple #[.string (txt (buildL N).1), .slice a' (buildL N).2.length c', .bool true]) ∧ RdT w' a' (buildL N).2 ∧ (a' = none → c' = 0) ∧ Below V.heap.size V w') := Lib.hid fun V base a c hV ho => buildD (hKB.step hV) ho (by omega) (by omega) m2
        have hsl := s1.1
        have hsn := s2.1
        have hnl : (buildL L).2.length ≤ 3000 := by omega
        have hnn : (buildL N).2.length ≤ 3000 := by omega
        clear m1 m2 f1 f2 s1 s2 hKB hK
        generalize (buildL L).2 = nl at *
        generalize (buildL N).2 = nn at *
        generalize txt (buildL L).1 = tx at *
        generalize txt (buildL N).1 = ty at *
        have HN := Lib.hid (And.intro hsl hsn)
        have hnl' : (nl.length : Int) ≤ 3000 := by omega
        have hnn' : (nn.length : Int) ≤ 3000 := by omega
        have hmm := @run_makeMap Tryd.prog
        clear hsl hsn hb0 hrow
        subst hWB
        obtain ⟨xk, xv⟩ := x
        dsimp only at *
        go_enter Tryd.func8, Tryd.ntmps8
        go_wp2_with (first
          | (go_at_call 9; (with_reducible refine P9.out.mono ?_); rintro e w1 ⟨rfl, hb1⟩)
          | (go_at_call 10; (with_reducible refine (P10.out _ hb1).mono ?_); rintro e w2 ⟨rfl, hb2⟩; have hB2 := hb1.trans (hb2.mono hb1.size); obtain ⟨x0, x1, -⟩ := HX.out _ hB2)
          | (go_at_call 11; (with_reducible refine (P11a.out _ hB2).mono ?_); rintro e w3 ⟨a3, c3, rfl, hr3, hb3⟩; have hB3 := hB2.trans (hb3.mono hB2.size); clear x0 x1; obtain ⟨y0, y1, -⟩ := HX.out _ hB3; obtain ⟨a4, c4, w4, u1, hr4, hb4⟩ := HCONS.out w3 hB3; have hB4 := hB3.trans (hb4.mono hB3.size))
          | (go_at_call 11; (with_reducible refine (P11b.out _ _ _ hr4).mono ?_); rintro e w5 ⟨a5, c5, rfl, hs5, hb5⟩; clear y0 y1 u1; have hB5 := hB4.trans (hb5.mono hB4.size); have hr5 := (hr3.new hb4).new hb5)
          | (go_at_call 13; (with_reducible refine (P13l.out _ _ _ hr5).mono ?_); rintro e w6 ⟨a6, c6, rfl, ho6, -, hb6⟩; have hB6 := hB5.trans (hb6.mono hB5.size); have hs6 := hs5.new hb6)
          | (go_at_call 12; (with_reducible refine (P12l.out _ _ _ _ hB6 ho6).mono ?_); rintro e w7 ⟨a7, c7, rfl, ht7, -, hb7⟩; have hB7 := hB6.trans (hb7.mono hB6.size); have hs7 := hs6.new hb7)
          | (go_at_call 13; (with_reducible refine (P13m.out _ _ _ hs7).mono ?_); rintro e w8 ⟨a8, c8, rfl, ho8, -, hb8⟩; have hB8 := hB7.trans (hb8.mono hB7.size); have ht8 := ht7.new hb8)
          | (go_at_call 12; (with_reducible refine (P12m.out _ _ _ _ hB8 ho8).mono ?_); rintro e w9 ⟨a9, c9, rfl, hu9, -, hb9⟩; have hB9 := hB8.trans (hb9.mono hB8.size); have ht9 := ht8.new hb9))
        have HO : Hid (∀ V, Below w9.heap.size w9 V → RdT V a7 nl ∧ RdT V a9 nn ∧ V.cell? ⟨w.heap.size, 0, none⟩ = some (.string (txt xk)) ∧ Below w.heap.size w V) := Lib.hid fun V hV => by
          have h1 := HX.out V (hB9.trans (hV.mono hB9.size))
          exact ⟨ht9.new hV, hu9.new hV, h1.1, h1.2.2⟩
        have H0 := Lib.hid (Had.made w9)
        clear hb1 hb2 hb3 hb4 hb5 hb6 hb7 hb8 hb9 hB2 hB3 hB4 hB5 hB6 hB7 hB8 hB9 hr3 hr4 hr5 hs5 hs6 hs7 ht7 ht8 ht9 hu9 ho6 ho8 P9 P10 P11a P11b P12l P12m P13l P13m HCONS HX
        go_loopw [15, 72] (fun _ i wr => ∃ ii : Nat, i = .int .i64 (ii : Int) ∧ ii ≤ nn.length ∧ Hid (Had wr w9.heap.size (haveL (nn.take ii)) ∧ Below w9.heap.size w9 wr)) (fun _ i _ => nn.length - (intOf i).toNat)
        case atStart => exact ⟨0, rfl, Nat.zero_le _, Lib.hid ⟨H0.out, (Below.refl _ _).alloc (Nat.le_refl _) _⟩⟩
        case round =>
          obtain ⟨ii, rfl, hi, HI⟩ := hrel
          by_cases hlt : ii < nn.length
          · have hlt' : (ii : Int) < (nn.length : Int) := by omega
            have hi0 : (0 : Int) ≤ (ii : Int) := by omega
            obtain ⟨b, off, rfl, k1⟩ := (HO.out _ HI.out.2).2.1 ii hlt
            have hmem : nn.getD ii [] ∈ nn := by rw [getD_at hlt]; exact List.getElem_mem hlt
            obtain ⟨V2, hup, hS2, hc2⟩ := HI.out.1.update (nn.getD ii []) (by have := HN.out.2 _ hmem; omega) (by have := haveL_len (nn.take ii); rw [List.length_take] at this; omega)
            rw [← haveL_take hlt] at hS2
            have HS := Lib.hid (And.intro hS2 hc2)
            clear hS2 hc2 hmem
            generalize txt (nn.getD ii []) = tn at *
            go_wp2
            go_roundw
            case rel => exact ⟨ii + 1, by go_num, by omega, Lib.hid ⟨HS.out.1, HI.out.2.trans (HS.out.2.below HI.out.2.size fun k hk e => by omega)⟩⟩
            case measure => simp [intOf]; omega
          · have hlt' : (nn.length : Int) ≤ (ii : Int) := by omega
            have HL : Hid (NearO (xk, xv) w wr w9.heap.size w.heap.size nn nl a7) := Lib.hid (by
              obtain ⟨h1, h2, h3, h4⟩ := HO.out _ HI.out.2
              have h5 := HI.out.1
              rw [List.take_of_length_le (by omega)] at h5
              exact ⟨h5, h1, h3, h4⟩)
            clear HO HI H0 hlt hi
            generalize w9.heap.size = g at *
            go_wp2
            obtain ⟨wo, hwo⟩ : ∃ wo, wo = wr := ⟨_, rfl⟩
            subst hwo
            have hd1 : decide (ii < nn.length) = false := decide_eq_false (by omega)
            have hd2 : decide ((ii : Int) < (nn.length : Int)) = false := decide_eq_false (by omega)
            try rw [hd2]
            try rw [hd1]
            clear hlt' hd1 hd2
            go_loopw [16, 17, 18, 19, 20, 21, 22, 23, 24, 81] (fun _ _ _ _ _ _ _ _ _ i wr => ∃ jj : Nat, i = .int .i64 (jj : Int) ∧ jj ≤ nl.length ∧ Hid (NearO (xk, xv) w wr g w.heap.size nn nl a7)) (fun _ _ _ _ _ _ _ _ _ i _ => nl.length - (intOf i).toNat)
            case atStart => exact ⟨0, rfl, Nat.zero_le _, HL⟩
            case round =>
              obtain ⟨jj, rfl, hj, HQ⟩ := hrel
              obtain ⟨wq, hwq⟩ : ∃ wq, wq = wr := ⟨_, rfl⟩
              subst hwq
              by_cases hlt : jj < nl.length
              · have hlt' : (jj : Int) < (nl.length : Int) := by omega
                have hi0 : (0 : Int) ≤ (jj : Int) := by omega
                have hmem : ∀ j, j < nl.length → (nl.getD j []).length ≤ 100000 := fun j hj => HN.out.1 _ (by rw [getD_at hj]; exact List.getElem_mem hj)
                obtain ⟨b, off, ha, k1⟩ := HQ.out.rd jj hlt
                obtain ⟨k, q, hp, hnx⟩ := HRND.out jj hlt
                have hq16 := (parseL_some hp).2.1
                have hq16' : (q.length : Int) ≤ 16 := by omega
                have P23 := Lib.hid (parse_any (nl.getD jj []) (by have := hmem jj hlt; omega) wq)
                rw [hp] at P23
                have P : Hid (Calls Tryd.prog 23 #[.string (txt (nl.getD jj []))] wq fun e w' => ∃ a c, e = .returned (.tuple #[.int .i64 (k : Int), .slice a q.length c, .bool true]) ∧ RdP w' a q ∧ Below wq.heap.size wq w') := Lib.hid (P23.out.mono (by
                  rintro e w' ⟨⟨a, c, he, h1, h2⟩, h3⟩
                  exact ⟨a, c, he, h1, h3⟩))
                clear P23 hp
                subst ha
                have HNEW := Lib.hid (fun w1 (hV : Below wq.heap.size wq w1) (n : Nat) => (HQ.out.new hV).low.trans ((Ch.drewN (fun _ => False) w1 n).new.mono (HQ.out.new hV).low.size))
                by_cases hk0 : 0 < k
                · have hk0' : (0 : Int) < (k : Int) := by omega
                  clear hnx hmem
                  generalize txt (nl.getD jj []) = ts at *
                  go_wp2_with (go_at_call 23; (with_reducible refine P.out.mono ?_); rintro e w1 ⟨aq, cq, rfl, hrq, hb1⟩)
                  go_big_quiet (fail)
                  go_wp2
                  go_ret
                  exact ⟨rfl, HNEW.out _ hb1 _⟩
                · obtain rfl : k = 0 := by omega
                  by_cases hq : q = []
                  · subst hq
                    clear hnx hmem
                    generalize txt (nl.getD jj []) = ts at *
                    go_wp2_with (go_at_call 23; (with_reducible refine P.out.mono ?_); rintro e w1 ⟨aq, cq, rfl, hrq, hb1⟩)
                    go_big_quiet (fail)
                    go_wp2
                    go_ret
                    exact ⟨rfl, HNEW.out _ hb1 _⟩
                  · have hlp := List.length_pos_iff.2 hq
                    have hz : ¬ (q.length : Int) = 0 := by omega
                    have hz2 : ((q.length : Int) == 0) = false := by rw [beq_eq_false_iff_ne]; exact hz
                    have i1 : IntKind.i64.wrap ((q.length : Int) - 1) = (q.length : Int) - 1 := IntWalk.i64_in _ (by omega)
                    have i2 : (0 : Int) ≤ (q.length : Int) - 1 := by omega
                    have i3 : (q.length : Int) - 1 < (q.length : Int) := by omega
                    have i4 : ((q.length : Int) - 1).toNat = q.length - 1 := by omega
                    have HCE : Hid (∀ V aq, Below wq.heap.size wq V → RdP V aq q → ∃ bq oq, aq = some ⟨bq, oq, none⟩ ∧ V.cell? ⟨bq, oq + (q.length - 1) * 2, none⟩ = some (.string (txt (itD q (q.length - 1)).1)) ∧ V.cell? ⟨w.heap.size, 0, none⟩ = some (.string (txt xk))) := Lib.hid fun V aq hV h => by
                      obtain ⟨bq, oq, h1, h2, _⟩ := h (q.length - 1) (by omega)
                      exact ⟨bq, oq, h1, h2, (HQ.out.new hV).x0⟩
                    have hless := less_txt (itD q (q.length - 1)).1 xk
                    have HNX := Lib.hid (hnx rfl hq)
                    clear hnx hq
                    cases hltk : ltL (itD q (q.length - 1)).1 xk with
                    | false =>
                      rw [hltk] at hless
                      clear hltk hmem HNX
                      generalize txt (itD q (q.length - 1)).1 = lk at *
                      generalize txt xk = tk at *
                      generalize txt (nl.getD jj []) = ts at *
                      go_wp2_with (go_at_call 23; (with_reducible refine P.out.mono ?_); rintro e w1 ⟨aq, cq, rfl, hrq, hb1⟩; obtain ⟨bq, oq, rfl, z0, z1⟩ := HCE.out _ _ hb1 hrq)
                      go_big_quiet (fail)
                      go_wp2
                      go_ret
                      exact ⟨rfl, HNEW.out _ hb1 _⟩
                    | true =>
                      rw [hltk] at hless
                      have HNX2 := Lib.hid (HNX.out hltk)
                      clear hltk HNX
                      have HGEN : Hid (∀ w1 n, Below wq.heap.size wq w1 → Below wq.heap.size wq (w1.drewN n)) := Lib.hid fun w1 n h => h.trans ((Ch.drewN (fun _ => False) w1 n).new.mono h.size)
                      by_cases hi1 : jj + 1 < nl.length
                      · have hi1' : (jj : Int) + 1 < (nl.length : Int) := by omega
                        have j0 : (0 : Int) ≤ (jj : Int) + 1 := by omega
                        have j1 : ((jj : Int) + 1).toNat = jj + 1 := by omega
                        have j2 : IntKind.i64.wrap ((jj : Int) + 1) = (jj : Int) + 1 := IntWalk.i64_in _ (by omega)
                        obtain ⟨k', q', hp', hhad⟩ := HNX2.out hi1
                        have HR2 : Hid (∀ V, Below wq.heap.size wq V → V.cell? ⟨b, off + (jj + 1), none⟩ = some (.string (txt (nl.getD (jj + 1) [])))) := Lib.hid fun V hV => by
                          obtain ⟨b', off', e, h⟩ := (HQ.out.new hV).rd (jj + 1) hi1
                          injection e with e; injection e with e1 e2; subst e1 e2
                          exact h
                        have HLK : Hid (k' = 0 → ∀ V, Below wq.heap.size wq V → (Instr.lookup 49 (.map (some g)) (.string (txt (nl.getD jj []))) false).run Tryd.prog V = .ok (.bool true) V) := Lib.hid fun h V hV => (HQ.out.new hV).had.look _ (by have := hmem jj hlt; omega) (hhad h)
                        have PP : Hid (∀ V, Calls Tryd.prog 23 #[.string (txt (nl.getD (jj + 1) []))] V fun e w' => ∃ a c, e = .returned (.tuple #[.int .i64 (k' : Int), .slice a q'.length c, .bool true]) ∧ Below V.heap.size V w') := Lib.hid fun V => (parse_any (nl.getD (jj + 1) []) (by have := hmem (jj + 1) hi1; omega) V).mono (by
                          rw [hp']
                          rintro e w' ⟨⟨a, c, he, h1, h2⟩, h3⟩
                          exact ⟨a, c, he, h3⟩)
                        have HQN : Hid (∀ V, Below wq.heap.size wq V → NearO (xk, xv) w V g w.heap.size nn nl (some ⟨b, off, none⟩)) := Lib.hid fun V hV => HQ.out.new hV
                        clear hmem HNX2 hp' hhad
                        generalize txt (itD q (q.length - 1)).1 = lk at *
                        generalize txt xk = tk at *
                        generalize txt (nl.getD jj []) = ts at *
                        generalize txt (nl.getD (jj + 1) []) = tn at *
                        go_wp2_with (go_at_call 23; (with_reducible refine P.out.mono ?_); rintro e w1 ⟨aq, cq, rfl, hrq, hb1⟩; obtain ⟨bq, oq, rfl, z0, z1⟩ := HCE.out _ _ hb1 hrq)
                        go_big_quiet (fail)
                        have hW : Below wq.heap.size wq (w1.drewN nq) := HGEN.out _ _ hb1
                        generalize w1.drewN nq = W at hW ⊢
                        have k2 := HR2.out W hW
                        clear z0 z1 hrq hb1 k1
                        by_cases hk' : k' = 0
                        · subst hk'
                          have HLK2 := Lib.hid (HLK.out rfl)
                          go_wp2_with (go_at_call 23; (with_reducible refine (PP.out _).mono ?_); rintro e w2 ⟨a2, c2, rfl, hb2⟩; have hB2 := hW.trans (hb2.mono hW.size); have hlk := HLK2.out _ hB2)
                          go_roundw
                          case rel => exact ⟨jj + 1, by go_num, by omega, Lib.hid (HQN.out _ hB2)⟩
                          case measure => simp [intOf]; omega
                        · have hk2 : ((k' : Int) == 0) = false := beq_eq_false_iff_ne.2 (by omega)
                          have hk3 : ¬ (k' : Int) = 0 := by omega
                          go_wp2_with (go_at_call 23; (with_reducible refine (PP.out _).mono ?_); rintro e w2 ⟨a2, c2, rfl, hb2⟩; have hB2 := hW.trans (hb2.mono hW.size))
                          go_roundw
                          case rel => exact ⟨jj + 1, by go_num, by omega, Lib.hid (HQN.out _ hB2)⟩
                          case measure => simp [intOf]; omega
                      · have hi1' : (nl.length : Int) ≤ (jj : Int) + 1 := by omega
                        have HQN : Hid (∀ V, Below wq.heap.size wq V → NearO (xk, xv) w V g w.heap.size nn nl (some ⟨b, off, none⟩)) := Lib.hid fun V hV => HQ.out.new hV
                        clear hmem HNX2
                        generalize txt (itD q (q.length - 1)).1 = lk at *
                        generalize txt xk = tk at *
                        generalize txt (nl.getD jj []) = ts at *
                        go_wp2_with (go_at_call 23; (with_reducible refine P.out.mono ?_); rintro e w1 ⟨aq, cq, rfl, hrq, hb1⟩; obtain ⟨bq, oq, rfl, z0, z1⟩ := HCE.out _ _ hb1 hrq)
                        go_big_quiet (fail)
                        go_wp2
                        go_roundw
                        case rel => exact ⟨jj + 1, by go_num, by omega, Lib.hid (HQN.out _ (HGEN.out _ _ hb1))⟩
                        case measure => simp [intOf]; omega
              · have hlt' : (nl.length : Int) ≤ (jj : Int) := by omega
                have hlow := HQ.out.low
                go_wp2
                go_ret
                exact ⟨rfl, hlow⟩
      · have hv' : (8000 : Int) < (x.2.length : Int) := by omega
        clear hRB hR hx hl hxx hF hk hv hKB hK hb0 hrow
        subst hWB
        obtain ⟨xk, xv⟩ := x
        dsimp only at *
        go_enter Tryd.func8, Tryd.ntmps8
        go_wp2_with (first
          | (go_at_call 9; (with_reducible refine P9.out.mono ?_); rintro e w1 ⟨rfl, hb1⟩)
          | (go_at_call 10; (with_reducible refine (P10.out _ hb1).mono ?_); rintro e w2 ⟨rfl, hb2⟩; have hB2 := hb1.trans (hb2.mono hb1.size); obtain ⟨x0, x1, hxw⟩ := HX.out _ hB2))
        go_ret
        exact ⟨rfl, hxw⟩
    · have hk' : (2000 : Int) < (x.1.length : Int) := by omega
      clear hRB hR hx hl hxx hF hk hKB hK hb0 hrow
      subst hWB
      obtain ⟨xk, xv⟩ := x
      dsimp only at *
      go_enter Tryd.func8, Tryd.ntmps8
      go_wp2_with (first
        | (go_at_call 9; (with_reducible refine P9.out.mono ?_); rintro e w1 ⟨rfl, hb1⟩)
        | (go_at_call 10; (with_reducible refine (P10.out _ hb1).mono ?_); rintro e w2 ⟨rfl, hb2⟩; have hB2 := hb1.trans (hb2.mono hb1.size); obtain ⟨x0, x1, hxw⟩ := HX.out _ hB2))
      go_ret
      exact ⟨rfl, hxw⟩
  · rw [decide_eq_false hF] at P10
    clear hRB hR hx hl hxx hF hKB hK hb0 hrow
    subst hWB
    obtain ⟨xk, xv⟩ := x
    dsimp only at *
    go_enter Tryd.func8, Tryd.ntmps8
    go_wp2_with (first
      | (go_at_call 9; (with_reducible refine P9.out.mono ?_); rintro e w1 ⟨rfl, hb1⟩)
      | (go_at_call 10; (with_reducible refine (P10.out _ hb1).mono ?_); rintro e w2 ⟨rfl, hb2⟩; have hB2 := hb1.trans (hb2.mono hb1.size); obtain ⟨x0, x1, hxw⟩ := HX.out _ hB2))
    go_ret
    exact ⟨rfl, hxw⟩
end Go.Proofs.YtfjlkphpeneahaaDoor
