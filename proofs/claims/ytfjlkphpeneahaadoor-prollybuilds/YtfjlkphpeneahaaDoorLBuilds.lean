/- The walk of ProllyBuilds. -/
import Derived.Test.YtfjlkphpeneahaaDoorLAwake
import Derived.Test.YtfjlkphpeneahaaDoorM3
import Derived.Test.YtfjlkphpeneahaaDoorRBuild
namespace Go.Proofs.YtfjlkphpeneahaaDoor
open Go Go.RowKit

theorem ins_sz (out : List It) (x : It) : szL (insL out x) ≤ szL out + (x.1.length + x.2.length) := by
  unfold insL
  split
  · omega
  · have h : szL out = szL (out.take (posL x.1 out)) + szL (out.drop (posL x.1 out)) := by
      unfold szL
      rw [← List.sum_append, ← List.map_append, List.take_append_drop]
    rw [h]
    unfold szL
    simp only [List.map_append, List.sum_append, List.map_cons, List.map_nil, List.sum_cons, List.sum_nil]
    omega
theorem ris_sz : ∀ (l out : List It), szL (l.foldl insL out) ≤ szL out + szL l
  | [], out => by simp [szL]
  | x :: l, out => by
    have h1 := ris_sz l (insL out x)
    have h2 := ins_sz out x
    have h3 : szL (x :: l) = (x.1.length + x.2.length) + szL l := rfl
    rw [List.foldl_cons]; omega
theorem ris_few {l : List It} (h : Few l) : (risL l).length ≤ 1000 ∧ szL (risL l) ≤ 20000 := by
  have h1 := ins_len l []
  have h2 := ris_sz l []
  have h3 := h.1
  have h4 := h.2.1
  have h5 : szL [] = 0 := rfl
  unfold risL
  simp only [List.length_nil] at h1
  omega
/-- Build, as the law meets it. -/
theorem buildC {w : World} (hK : S1.KR w) {v : Value} {base : Nat} {m : List It} (ho : OwP w base 52 v m) (hl : m.length ≤ 1000) (hs : szL m ≤ 20000) :
    Calls Tryd.prog 12 #[v] w fun e w' => ∃ a c, e = .returned (.tuple #[.string (txt (buildL m).1), .slice a (buildL m).2.length c, .bool (mapOk m)]) ∧ RdT w' a (buildL m).2 ∧ Below w.heap.size w w' := by
  obtain ⟨a, c, rfl, hr, hc, _⟩ := ho.rd
  refine (build_any hK hr hc hl hs).mono ?_
  rintro e w' ⟨v, rfl, h1, h2⟩
  obtain ⟨b, d, rfl, h3, _⟩ := h1.rd
  exact ⟨b, d, rfl, h3, h2⟩
theorem rbuildC {w : World} {a : Option Addr} {m : List It} {c : Nat} (hr : RdP w a m) (hc : m.length ≤ c) (hl : m.length ≤ 1000) (hs : szL m ≤ 20000) :
    Calls Tryd.prog 14 #[.slice a m.length c] w fun e w' => ∃ a c, e = .returned (.tuple #[.string (txt (buildL m).1), .slice a (buildL m).2.length c, .bool (mapOk m)]) ∧ RdT w' a (buildL m).2 ∧ Below w.heap.size w w' := by
  refine (rbuild_any hr hc hl hs).mono ?_
  rintro e w' ⟨v, rfl, h1, h2⟩
  obtain ⟨b, d, rfl, h3, _⟩ := h1.rd
  exact ⟨b, d, rfl, h3, h2⟩
theorem build_len {m : List It} (hl : m.length ≤ 1000) : (buildL m).2.length ≤ 1000000 := by
  unfold buildL
  split
  · rename_i hm
    unfold treeL
    split
    · simp
    · rename_i h0
      have hp := List.length_pos_iff.2 h0
      have key : ∀ (f lev : Nat) (k : List It) (acc : List Bs), k.length ≤ f → 1 ≤ k.length → k.length ≤ 1000 → (treeG f lev k acc).2.length ≤ acc.length + f * 1000 := by
        intro f
        induction f with
        | zero => intro lev k acc h1 h2; omega
        | succ f ih =>
          intro lev k acc h1 h2 h3
          have hu := ups_half lev k
          have hll : (levelL lev k).length = (upsL lev k).length := by unfold levelL; rw [List.length_map, upsL_len]
          have hup := ups_pos (lev := lev) (l := k) (by omega)
          unfold treeG
          split
          · rw [List.length_append, hll]; omega
          · rename_i hne
            have := ih (lev + 1) (upsL lev k) (acc ++ levelL lev k) (by omega) (by omega) (by omega)
            rw [List.length_append, hll] at this
            omega
      have := key m.length 0 m [] (Nat.le_refl _) (by omega) hl
      simp only [List.length_nil] at this
      have : m.length * 1000 ≤ 1000000 := by omega
      omega
  · simp
set_option maxRecDepth 100000 in
set_option maxHeartbeats 4000000 in
theorem builds_any {w : World} (hK : S1.KR w) (a : Option Addr) (c : Nat) (l : List It) (hR : RdP w a l) (hc : l.length ≤ c) (hx : ∀ x ∈ l, x.1.length ≤ 140737488355328 ∧ x.2.length ≤ 140737488355328) (hl : l.length ≤ maxLen) :
    Calls Tryd.prog 3 #[.slice a l.length c] w fun e w' => e = .returned (.bool true) ∧ Below w.heap.size w w' := by
  have P9 := Lib.hid (awake_any hK)
  have P10 : Hid (∀ W, Below w.heap.size w W → Calls Tryd.prog 10 #[.slice a l.length c] W fun e w' => e = .returned (.bool (decide (Few l))) ∧ Below W.heap.size W w') := Lib.hid fun W hW => few_any (hR.new hW) hx hl
  by_cases hF : Few l
  · rw [decide_eq_true hF] at P10
    have hl' : (l.length : Int) ≤ 200 := by have := hF.1; omega
    have P11 : Hid (∀ W, Below w.heap.size w W → Calls Tryd.prog 11 #[.slice a l.length c] W fun e w' => ∃ a' c', e = .returned (.slice a' (risL l).length c') ∧ RdP w' a' (risL l) ∧ (risL l).length ≤ c' ∧ Below W.heap.size W w') := Lib.hid fun W hW => rising_any (hR.new hW) (by omega)
    have HR := Lib.hid (And.intro hR (And.intro hK (And.intro hc (And.intro (ris_few hF) (show l.length ≤ 1000 ∧ szL l ≤ 20000 from ⟨by omega, hF.2.1⟩)))))
    clear hR hx hl hF hK hc
    go_enter Tryd.func3, Tryd.ntmps3
    go_wp2_with (first
      | (go_at_call 9; (with_reducible refine P9.out.mono ?_); rintro e w1 ⟨rfl, hb1⟩)
      | (go_at_call 10; (with_reducible refine (P10.out _ hb1).mono ?_); rintro e w2 ⟨rfl, hb2⟩; have hB2 := hb1.trans (hb2.mono hb1.size))
      | (go_at_call 11; (with_reducible refine (P11.out _ hB2).mono ?_); rintro e w3 ⟨a2, c2, rfl, hr2, hc2, hb3⟩; have hB3 := hB2.trans (hb3.mono hB2.size)))
    obtain ⟨W4, hW4⟩ : ∃ W4, W4 = w3.alloc (.cells #[.slice a l.length c, .slice a2 (risL l).length c2] 22) := ⟨_, rfl⟩
    have hb4 : Below w3.heap.size w3 W4 := by rw [hW4]; exact (Below.refl _ _).alloc (Nat.le_refl _) _
    have hr4 : W4.heap[w3.heap.size]? = some (.cells #[.slice a l.length c, .slice a2 (risL l).length c2] 22 (0, 0)) := by rw [hW4]; exact heap_alloc_new w3 _
    have HC : Hid (∀ V, Below W4.heap.size W4 V → (∀ i, i < 2 → ∃ (ai : Option Addr) (mi : List It) (ci : Nat), V.cell? ⟨w3.heap.size, i, none⟩ = some (.slice ai mi.length ci) ∧ RdP V ai mi ∧ mi.length ≤ ci ∧ mi.length ≤ 1000 ∧ szL mi ≤ 20000) ∧ S1.KR V ∧ Below w.heap.size w V) := Lib.hid fun V hV => by
      have h1 := (hV.block w3.heap.size (lt_of_heap hr4)).trans hr4
      have h3 := hb4.trans (hV.mono hb4.size)
      have h2 := hB3.trans (h3.mono hB3.size)
      refine ⟨fun i hi => ?_, HR.out.2.1.step h2, h2⟩
      rcases (show i = 0 ∨ i = 1 by omega) with rfl | rfl
      · exact ⟨a, l, c, cell_of_row _ _ 0 _ _ _ h1, HR.out.1.new h2, HR.out.2.2.1, HR.out.2.2.2.2⟩
      · exact ⟨a2, risL l, c2, cell_of_row _ _ 1 _ _ _ h1, hr2.new h3, hc2, HR.out.2.2.2.1⟩
    have HB0 : Hid (Below W4.heap.size W4 W4) := Lib.hid (Below.refl _ _)
    clear hr4 hb4 hr2 hc2 hb1 hb2 hb3 hB2 hB3 P9 P10 P11 HR
    rw [← hW4]
    go_loopw [21] (fun i wr => ∃ ii : Nat, i = .int .i64 (ii : Int) ∧ ii ≤ 2 ∧ Hid (Below W4.heap.size W4 wr)) (fun i _ => 2 - (intOf i).toNat)
    case atStart => exact ⟨0, rfl, Nat.zero_le _, HB0⟩
    case round =>
      obtain ⟨ii, rfl, hi, HB⟩ := hrel
      by_cases hlt : ii < 2
      · have hlt' : (ii : Int) < 2 := by omega
        have hi0 : (0 : Int) ≤ (ii : Int) := by omega
        obtain ⟨hci, hkr, hbw⟩ := HC.out _ HB.out
        obtain ⟨ai, m, ci, k1, hrd, hcm, hml, hsz⟩ := hci ii hlt
        have P13 := Lib.hid (pairs_any (c := ci) hrd (by omega))
        have P12 : Hid (∀ V v, Below wr.heap.size wr V → OwP V wr.heap.size 52 v m → Calls Tryd.prog 12 #[v] V fun e w' => ∃ a c, e = .returned (.tuple #[.string (txt (buildL m).1), .slice a (buildL m).2.length c, .bool (mapOk m)]) ∧ RdT w' a (buildL m).2 ∧ Below V.heap.size V w') := Lib.hid fun V v hV ho => buildC (hkr.step hV) ho hml hsz
        have P14 : Hid (∀ V, Below wr.heap.size wr V → Calls Tryd.prog 14 #[.slice ai m.length ci] V fun e w' => ∃ a c, e = .returned (.tuple #[.string (txt (buildL m).1), .slice a (buildL m).2.length c, .bool (mapOk m)]) ∧ RdT w' a (buildL m).2 ∧ Below V.heap.size V w') := Lib.hid fun V hV => rbuildC (hrd.new hV) hcm hml hsz
        have HL := Lib.hid (build_len hml)
        clear hci hkr hrd hcm hml hsz hbw
        generalize txt (buildL m).1 = tr at *
        generalize (buildL m).2 = ns at *
        generalize mapOk m = q at *
        go_wp2_with (first
          | (go_at_call 13; (with_reducible refine P13.out.mono ?_); rintro e w5 ⟨v5, rfl, o5, hb5⟩)
          | (go_at_call 12; (with_reducible refine (P12.out _ _ hb5 o5).mono ?_); rintro e w6 ⟨a6, c6, rfl, r6, hb6⟩; have hB6 := hb5.trans (hb6.mono hb5.size))
          | (go_at_call 14; (with_reducible refine (P14.out _ hB6).mono ?_); rintro e w7 ⟨a7, c7, rfl, r7, hb7⟩; have hB7 := hB6.trans (hb7.mono hB6.size); have PT := Lib.hid (texts_any (c := c6) (d := c7) (r6.new hb7) r7 HL.out HL.out); rw [decide_eq_true rfl] at PT)
          | (go_at_call 15; (with_reducible refine PT.out.mono ?_); rintro e w8 ⟨rfl, hw8⟩; subst w8))
        go_roundw
        case rel => exact ⟨ii + 1, by go_num, by omega, Lib.hid (HB.out.trans (hB7.mono HB.out.size))⟩
        case measure => simp [intOf]; omega
      · have hlt' : (2 : Int) ≤ (ii : Int) := by omega
        have HE := Lib.hid (HC.out _ HB.out).2.2
        go_wp2
        go_ret
        exact ⟨rfl, HE.out⟩
  · rw [decide_eq_false hF] at P10
    clear hR hx hl hF hK hc
    go_enter Tryd.func3, Tryd.ntmps3
    go_wp2_with (first
      | (go_at_call 9; (with_reducible refine P9.out.mono ?_); rintro e w1 ⟨rfl, hb1⟩)
      | (go_at_call 10; (with_reducible refine (P10.out _ hb1).mono ?_); rintro e w2 ⟨rfl, hb2⟩))
    go_ret
    exact ⟨rfl, hb1.trans (hb2.mono hb1.size)⟩
end Go.Proofs.YtfjlkphpeneahaaDoor
