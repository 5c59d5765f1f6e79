/- Walk of the document's above. -/
import Derived.Test.YtbbdlggbddaahaaDoorRootsN
import Derived.Deep.RegionHeld3
namespace Go.Proofs.YtbbdlggbddaahaaDoor
open Go.RowKit

theorem hmk44 (m : Nat) (hm : m = 3 ∨ m = 6) (w : World) : (Instr.makeSlice 44 (.int .i64 ((m : Int) + 3)) (.int .i64 ((m : Int) + 3))).run Tryd.prog w = .ok (.slice (some ⟨w.heap.size, 0, none⟩) (m + 3) (m + 3)) (w.alloc (.cells (qvs (List.replicate (m + 3) 0)) 41)) := by
  rcases hm with rfl | rfl <;> kernel_rfl
theorem inn_step (m l : List Nat) (i f j : Nat) (r : List Nat) (c : Nat) : inn m l i (f + 1) j r c = inn m l i f (j + 1) (r.set (i + j) (lo16 (innV m l r c i j))) (hi16 (innV m l r c i j)) := rfl
theorem inn_zero (m l : List Nat) (i j : Nat) (r : List Nat) (c : Nat) : inn m l i 0 j r c = (r, c) := rfl
theorem mid_step (m l : List Nat) (f i : Nat) (r : List Nat) : mid m l (f + 1) i r = mid m l f (i + 1) (midR (inn m l i 3 0 r 0) i) := rfl
theorem outm_step (l : List Nat) (f : Nat) (m : List Nat) : outm l (f + 1) m = outm l f (mid m l m.length 0 (List.replicate (m.length + 3) 0)) := rfl
theorem fin_hi (m : List Nat) (pw t top : Nat) (rest : Bool) (h : 2 * pw ≤ t) : fin m pw (t + 1) top rest = fin m pw t (addW (mulW top 65536) (m.getD t 0)) rest := by rw [fin, if_pos h]
theorem fin_lo (m : List Nat) (pw t top : Nat) (rest : Bool) (h : ¬ 2 * pw ≤ t) : fin m pw (t + 1) top rest = fin m pw t top (rest || decide (0 < m.getD t 0)) := by rw [fin, if_neg h]
set_option maxRecDepth 100000 in
set_option maxHeartbeats 8000000 in
theorem above_any (x pw p : Nat) (hpw : 1 ≤ pw ∧ pw ≤ 3) (w : World) :
    Calls Tryd.prog 27 #[.int .u64 (q x), .int .i64 (pw : Int), .int .u64 (q p)] w fun e w' => e = .returned (.bool (aboveN x pw p)) ∧ Kp w.heap.size w w' := by
  have f1 := q_lo
  have f2 := q_hi
  have f3 := q_hi32
  obtain ⟨l, hl⟩ : ∃ l, l = limbs x := ⟨_, rfl⟩
  have HL := Lib.hid hl
  have hll : Hid (l.length = 3) := Lib.hid (by rw [hl]; rfl)
  clear hl
  have hpw1 := hpw.1
  have hpw3 := hpw.2
  clear hpw
  go_enter Tryd.func27, Tryd.ntmps27
  go_wp2
  clear f1 f2 f3
  go_loopw [8, 9] (fun v k wr => ∃ (kk m g : Nat) (ml : List Nat), v = .slice (some ⟨g, 0, none⟩) m m ∧ k = .int .i64 (kk : Int) ∧ 1 ≤ kk ∧ kk ≤ pw ∧ Hid (m = 3 * kk ∧ ml.length = m ∧ outm l (pw - kk) ml = outm l (pw - 1) l) ∧ QC wr g ml ∧ QC wr w.heap.size l ∧ w.heap.size ≤ g ∧ Kp w.heap.size w wr) (fun _ k _ => pw - (intOf k).toNat)
  case atStart =>
    have h0 : QC (w.alloc (.cells (qvs (limbs x)) 41)) w.heap.size (limbs x) := QC.of_new w _
    exact ⟨1, 3, w.heap.size, l, rfl, rfl, Nat.le_refl _, hpw1, Lib.hid ⟨rfl, hll.out, rfl⟩, by rw [HL.out]; exact h0, by rw [HL.out]; exact h0, Nat.le_refl _, (Kp.refl _ _).alloc (Nat.le_refl _) _⟩
  case round =>
    obtain ⟨kk, m, g, ml, rfl, rfl, hk1, hkp, hH, hm, hl, hg, hkp'⟩ := hrel
    by_cases hlt : kk < pw
    · have hlt' : (kk : Int) < (pw : Int) := by omega
      have hm36 : m = 3 ∨ m = 6 := by have := hH.out.1; omega
      have hmk := hmk44 m hm36
      have HM36 := Lib.hid hm36
      have hm6 : (m : Int) ≤ 6 := by omega
      have hm0 : (0 : Int) ≤ (m : Int) := by omega
      have hm6' : m ≤ 6 := by omega
      clear hm36
      have h10 : QC (wr.alloc (.cells (qvs (List.replicate (m + 3) 0)) 41)) wr.heap.size (List.replicate (m + 3) 0) := QC.of_new wr _
      have hma := hm.alloc (.cells (qvs (List.replicate (m + 3) 0)) 41)
      have hla := hl.alloc (.cells (qvs (List.replicate (m + 3) 0)) 41)
      have hka := hkp'.alloc hkp'.size (.cells (qvs (List.replicate (m + 3) 0)) 41)
      have z1 := hm.lt
      have z2 := hl.lt
      go_wp2_with fail
      clear hmk
      generalize wr.alloc (.cells (qvs (List.replicate (m + 3) 0)) 41) = wa at h10 hma hla hka ⊢
      generalize wr.heap.size = g10 at h10 z1 z2 ⊢
      clear hm hl hkp'
      go_loopw [11] (fun i w2 => ∃ (ii : Nat) (rl : List Nat), i = .int .i64 (ii : Int) ∧ ii ≤ m ∧ Hid (rl.length = m + 3 ∧ mid ml l (m - ii) ii rl = mid ml l m 0 (List.replicate (m + 3) 0)) ∧ QC w2 g10 rl ∧ QC w2 g ml ∧ QC w2 w.heap.size l ∧ Kp w.heap.size w w2) (fun i _ => m - (intOf i).toNat)
      case atStart => exact ⟨0, _, rfl, Nat.zero_le _, Lib.hid ⟨by simp, rfl⟩, h10, hma, hla, hka⟩
      case round =>
        clear h10 hma hla hka
        obtain ⟨ii, rl, rfl, hi, hR, h10, hm, hl, hkw⟩ := hrel
        by_cases him : ii < m
        · have him' : (ii : Int) < (m : Int) := by omega
          have hi0 : (0 : Int) ≤ (ii : Int) := by omega
          go_wp2_with fail
          go_loopw [12, 13] (fun c j w3 => ∃ (jj cc : Nat) (r3 : List Nat), c = .int .u64 (q cc) ∧ j = .int .i64 (jj : Int) ∧ jj ≤ 3 ∧ Hid (r3.length = m + 3 ∧ inn ml l ii (3 - jj) jj r3 cc = inn ml l ii 3 0 rl 0) ∧ QC w3 g10 r3 ∧ QC w3 g ml ∧ QC w3 w.heap.size l ∧ Kp w.heap.size w w3) (fun _ j _ => 3 - (intOf j).toNat)
          case atStart => exact ⟨0, 0, rl, rfl, rfl, Nat.zero_le _, Lib.hid ⟨hR.out.1, rfl⟩, h10, hm, hl, hkw⟩
          case round =>
            clear h10 hm hl hkw
            obtain ⟨jj, cc, r3, rfl, rfl, hj3, hI, h10, hm, hl, hkw⟩ := hrel
            by_cases hj : jj < 3
            · have hj' : (jj : Int) < 3 := by omega
              have hj0 : (0 : Int) ≤ (jj : Int) := by omega
              have cr := h10.cell (ii + jj) (by rw [hI.out.1]; omega)
              have fr := h10.frozen (ii + jj) (by rw [hI.out.1]; omega)
              have cm := hm.cell ii (by rw [hH.out.2.1]; omega)
              have cl := hl.cell jj (by rw [hll.out]; omega)
              have e1 : IntKind.i64.wrap ((ii : Int) + (jj : Int)) = (ii : Int) + (jj : Int) := IntWalk.i64_in _ (by omega)
              have e2 : ((ii : Int) + (jj : Int)).toNat = ii + jj := by omega
              have e3 : (0 : Int) ≤ (ii : Int) + (jj : Int) := by omega
              have e4 : (ii : Int) + (jj : Int) < (m : Int) + 3 := by omega
              have HV : Hid (innV ml l r3 cc ii jj = addW (addW (r3.getD (ii + jj) 0) (mulW (ml.getD ii 0) (l.getD jj 0))) cc) := Lib.hid rfl
              generalize r3.getD (ii + jj) 0 = vr at cr HV
              generalize ml.getD ii 0 = vm at cm HV
              generalize l.getD jj 0 = vl at cl HV
              have f1 := q_lo
              have f2 := q_hi
              have f3 := q_add
              have f4 := q_mul
              go_wp2_with fail
              go_quiet (fail)
              have fr' : ∀ n, (wr.drewN n).frozen? ⟨g10, ii + jj, none⟩ = false := fun _ => fr
              have cr' : ∀ n, (wr.drewN n).cell? ⟨g10, ii + jj, none⟩ = some (.int .u64 (q vr)) := fun _ => cr
              go_wp2
              go_roundw
              case rel =>
                refine ⟨jj + 1, _, _, rfl, by go_num, by omega, Lib.hid ⟨?_, ?_⟩, QC.set (w := World.drewN wr _) h10 (ii + jj) _, QC.far (w := World.drewN wr _) hm (by simp; omega) _, QC.far (w := World.drewN wr _) hl (by simp; omega) _, Kp.setCell (w := World.drewN wr _) ⟨hkw.os, hkw.output, hkw.size, hkw.block⟩ (by simp; omega) _⟩
                · rw [List.length_set]; exact hI.out.1
                · rw [← hI.out.2, show 3 - jj = (3 - (jj + 1)) + 1 by omega, inn_step, HV.out]
              case measure => simp [intOf]; omega
            · have hj' : (3 : Int) ≤ (jj : Int) := by omega
              have hI2 : inn ml l ii 3 0 rl 0 = (r3, cc) := by rw [← hI.out.2, show 3 - jj = 0 by omega, inn_zero]
              have HI2 := Lib.hid hI2
              clear hI2
              have cr := h10.cell (ii + 3) (by rw [hI.out.1]; omega)
              have fr := h10.frozen (ii + 3) (by rw [hI.out.1]; omega)
              have e1 : IntKind.i64.wrap ((ii : Int) + 3) = (ii : Int) + 3 := IntWalk.i64_in _ (by omega)
              have e2 : ((ii : Int) + 3).toNat = ii + 3 := by omega
              have e3 : (0 : Int) ≤ (ii : Int) + 3 := by omega
              have e4 : (ii : Int) + 3 < (m : Int) + 3 := by omega
              obtain ⟨vr, hvr⟩ : ∃ vr, r3.getD (ii + 3) 0 = vr := ⟨_, rfl⟩
              rw [hvr] at cr
              have HVR := Lib.hid hvr
              clear hvr
              have f3 := q_add
              go_wp2
              go_roundw
              case rel =>
                refine ⟨ii + 1, _, by go_num, by omega, Lib.hid ⟨?_, ?_⟩, QC.set h10 (ii + 3) _, hm.far (by simp; omega) _, hl.far (by simp; omega) _, hkw.setCell (by simp; omega) _⟩
                · rw [List.length_set]; exact hI.out.1
                · rw [← hR.out.2, show m - ii = (m - (ii + 1)) + 1 by omega, mid_step, HI2.out, midR, HVR.out]
              case measure => simp [intOf]; omega
        · have him' : (m : Int) ≤ (ii : Int) := by omega
          have hR2 : mid ml l m 0 (List.replicate (m + 3) 0) = rl := by rw [← hR.out.2, show m - ii = 0 by omega]; rfl
          have HR2 := Lib.hid hR2
          clear hR2
          go_wp2
          go_roundw
          case rel =>
            refine ⟨kk + 1, m + 3, g10, rl, rfl, by go_num, by omega, by omega, Lib.hid ⟨by have := hH.out.1; omega, hR.out.1, ?_⟩, h10, hl, by omega, hkw⟩
            rw [← hH.out.2.2, show pw - kk = (pw - (kk + 1)) + 1 by omega, outm_step, hH.out.2.1, HR2.out]
          case measure => simp [intOf]; omega
    · have hlt' : (pw : Int) ≤ (kk : Int) := by omega
      have hM : outm l (pw - 1) l = ml := by rw [← hH.out.2.2, show pw - kk = 0 by omega]; rfl
      have HM := Lib.hid hM
      clear hM
      have hm9 : (m : Int) ≤ 9 := by have := hH.out.1; omega
      have hm0 : (0 : Int) ≤ (m : Int) := by omega
      go_wp2_with fail
      go_loopw [15, 16, 17] (fun a b i w4 => ∃ (t top : Nat) (rest : Bool), a = .int .u64 (q top) ∧ b = .bool rest ∧ i = .int .i64 ((t : Int) - 1) ∧ t ≤ m ∧ Hid (fin ml pw t top rest = fin ml pw m 0 false) ∧ QC w4 g ml ∧ Kp w.heap.size w w4) (fun _ _ i _ => (intOf i + 1).toNat)
      case atStart => exact ⟨m, 0, false, rfl, rfl, rfl, Nat.le_refl _, Lib.hid rfl, hm, hkp'⟩
      case round =>
        clear hm hl hkp'
        obtain ⟨t, top, rest, rfl, rfl, rfl, htm, hF, hm, hkw⟩ := hrel
        cases t with
        | succ s =>
          have hs : ((s + 1 : Nat) : Int) - 1 = (s : Int) := by omega
          rw [hs]
          clear hs
          have hs0 : (0 : Int) ≤ (s : Int) := by omega
          have hsm : (s : Int) < (m : Int) := by omega
          have hsr : IntKind.i64.wrap ((s : Int) - 1) = (s : Int) - 1 := IntWalk.i64_in _ (by omega)
          have cm := hm.cell s (by rw [hH.out.2.1]; omega)
          have hpp : IntKind.i64.wrap (2 * (pw : Int)) = 2 * (pw : Int) := IntWalk.i64_in _ (by omega)
          by_cases hp : 2 * pw ≤ s
          · have hp' : 2 * (pw : Int) ≤ (s : Int) := by omega
            have HF : Hid (fin ml pw s (addW (mulW top 65536) (ml.getD s 0)) rest = fin ml pw m 0 false) := Lib.hid (by rw [← fin_hi _ _ _ _ _ hp]; exact hF.out)
            clear hF
            generalize ml.getD s 0 = v at cm HF
            have f1 := q_mul16
            have f2 := q_add
            go_wp2
            go_roundw
            case rel => exact ⟨s, _, _, rfl, rfl, by go_num, by omega, HF, hm, hkw⟩
            case measure => simp [intOf]
          · have hp' : ¬ 2 * (pw : Int) ≤ (s : Int) := by omega
            have HF : Hid (fin ml pw s top (rest || decide (0 < ml.getD s 0)) = fin ml pw m 0 false) := Lib.hid (by rw [← fin_lo _ _ _ _ _ hp]; exact hF.out)
            clear hF
            generalize ml.getD s 0 = v at cm HF
            by_cases hv : 0 < v
            · have hv' : 0 < q v := by unfold q; omega
              have HF2 : Hid (fin ml pw s top true = fin ml pw m 0 false) := Lib.hid (by have := HF.out; rw [decide_eq_true hv, Bool.or_true] at this; exact this)
              clear HF hv
              go_wp2
              go_roundw
              case rel => exact ⟨s, _, _, rfl, rfl, by go_num, by omega, HF2, hm, hkw⟩
              case measure => simp [intOf]
            · have hv' : ¬ 0 < q v := by unfold q; omega
              have HF2 : Hid (fin ml pw s top rest = fin ml pw m 0 false) := Lib.hid (by have := HF.out; rw [decide_eq_false hv, Bool.or_false] at this; exact this)
              clear HF hv
              go_wp2
              go_roundw
              case rel => exact ⟨s, _, _, rfl, rfl, by go_num, by omega, HF2, hm, hkw⟩
              case measure => simp [intOf]
        | zero =>
          have hA : Hid (aboveN x pw p = aboveE (top, rest) p) := Lib.hid (by
            unfold aboveN
            rw [← HL.out, HM.out, hH.out.2.1, ← hF.out]
            rfl)
          have hs : ((0 : Nat) : Int) - 1 < 0 := by omega
          clear hF
          by_cases h1 : p < top
          · have h1' : q p < q top := by unfold q; omega
            have hE : Hid (aboveE (top, rest) p = true) := Lib.hid (by unfold aboveE; rw [decide_eq_true h1, Bool.true_or])
            clear h1
            go_wp2
            go_ret
            exact ⟨by rw [hA.out, hE.out]; rfl, hkw⟩
          · have h1' : ¬ q p < q top := by unfold q; omega
            by_cases h2 : top = p
            · have hE : Hid (aboveE (top, rest) p = rest) := Lib.hid (by unfold aboveE; rw [decide_eq_false h1, Bool.false_or, h2]; simp)
              have h2' : (q top == q p) = true := by rw [h2]; simp
              clear h1 h2
              go_wp2
              go_ret
              exact ⟨by rw [hA.out, hE.out]; rfl, hkw⟩
            · have hE : Hid (aboveE (top, rest) p = false) := Lib.hid (by
                unfold aboveE
                rw [decide_eq_false h1, Bool.false_or, show (top == p) = false by simpa using h2, Bool.false_and])
              have h2' : (q top == q p) = false := by
                simp only [beq_eq_false_iff_ne, ne_eq]
                exact fun h => h2 (q_inj h)
              clear h1 h2
              go_wp2
              go_ret
              exact ⟨by rw [hA.out, hE.out]; rfl, hkw⟩
end Go.Proofs.YtbbdlggbddaahaaDoor
