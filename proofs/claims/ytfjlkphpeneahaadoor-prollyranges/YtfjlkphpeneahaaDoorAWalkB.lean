/- Walks of firstState and stateBytes. -/
import Derived.Test.YtfjlkphpeneahaaDoorAWalkA
import Derived.Test.YtfjlkphpeneahaaDoorABytes
namespace Go.Proofs.YtfjlkphpeneahaaDoor.S1
open Go.RowKit

def st0 : St := ⟨1779033703, 3144134277, 1013904242, 2773480762, 1359893119, 2600822924, 528734635, 1541459225⟩
set_option maxHeartbeats 400000 in
theorem firstState_any (w : World) :
    Calls Tryd.prog 56 #[] w fun e w' => e = .returned (.agg (wvs st0.l)) ∧ Below w.heap.size w w' := by
  go_enter Tryd.func56, Tryd.ntmps56
  go_wp2
  refine bodyPost_ret (v := .agg (wvs st0.l)) ?_ rfl ⟨rfl, ?_⟩
  · simp [results, Tryd.results56, go_sem]
    rfl
  · exact (Below.refl _ _).alloc (Nat.le_refl _) _
theorem idx35 (q : St) (k : Nat) (hk : k < 8) (w : World) :
    (Instr.index 111 (.agg (wvs q.l)) (.int .i64 k)).run Tryd.prog w = .ok (.int .u32 (u (q.l.getD k 0))) w := by
  have h := wvs_get q.l k (by simpa [St.l] using hk)
  generalize q.l = l at h
  simp [Instr.index, run_underlying Tryd.underlying111, asIntOf, go_sem, hk, h]

set_option maxRecDepth 100000 in
set_option maxHeartbeats 200000 in
theorem stateBytes_any (st : St) (w : World) :
    Calls Tryd.prog 58 #[.agg #[.int .u32 (u st.a), .int .u32 (u st.b), .int .u32 (u st.c), .int .u32 (u st.d), .int .u32 (u st.e), .int .u32 (u st.f), .int .u32 (u st.g), .int .u32 (u st.h)]] w fun e w' => e = .returned (.string ⟨st.text.toArray⟩) ∧ Below w.heap.size w w' := by
  go_enter Tryd.func58, Tryd.ntmps58
  go_wp2
  go_loopw [7] (fun i wr => ∃ k : Nat, ∃ l : List UInt8, k ≤ 8 ∧ i = .int .i64 k ∧ l.length = 32 ∧ (∀ j, j < 4 * k → l.getD j 0 = stByte st j) ∧ BRow wr (w.heap.size + 1) 152 l ∧ Below w.heap.size w wr) (fun i _ => 8 - (intOf i).toNat)
  case atStart =>
    refine ⟨0, List.replicate 32 0, by omega, rfl, by simp, fun j hj => absurd hj (by omega), heap_alloc2_new _ _ _, ((Below.refl _ _).alloc (Nat.le_refl _) _).alloc (by simp) _⟩
  case round =>
    obtain ⟨k, l, hk, rfl, hl0, hp0, hb1, hB⟩ := hrel
    have hl := Lib.hid hl0
    have hp := Lib.hid hp0
    clear hl0 hp0
    by_cases hlt : k < 8
    · have hl32 := hl.out
      have c0 := hb1.cell (4 * k) (by omega)
      have c1 := hb1.cell (4 * k + 1) (by omega)
      have c2 := hb1.cell (4 * k + 2) (by omega)
      have c3 := hb1.cell (4 * k + 3) (by omega)
      have g0 := hb1.frozen (4 * k)
      have g1 := hb1.frozen (4 * k + 1)
      have g2 := hb1.frozen (4 * k + 2)
      have g3 := hb1.frozen (4 * k + 3)
      clear hl32
      have hix := idx35 st k hlt
      rw [agg8] at hix
      generalize hx : st.l.getD k 0 = x at hix
      have HX := Lib.hid hx
      clear hx
      go_wp2
      go_roundw
      case rel =>
        rw [u_b0, u_b1, u_b2, u_b3]
        have hx := HX.out
        have e0 : wbyte x 0 = stByte st (4 * k) := by unfold stByte; rw [show 4 * k / 4 = k by omega, show 4 * k % 4 = 0 by omega, hx]
        have e1 : wbyte x 1 = stByte st (4 * k + 1) := by unfold stByte; rw [show (4 * k + 1) / 4 = k by omega, show (4 * k + 1) % 4 = 1 by omega, hx]
        have e2 : wbyte x 2 = stByte st (4 * k + 2) := by unfold stByte; rw [show (4 * k + 2) / 4 = k by omega, show (4 * k + 2) % 4 = 2 by omega, hx]
        have e3 : wbyte x 3 = stByte st (4 * k + 3) := by unfold stByte; rw [show (4 * k + 3) / 4 = k by omega, show (4 * k + 3) % 4 = 3 by omega, hx]
        have s0 := bytes_step (f := stByte st) hl.out (show 4 * k < 32 by omega) hp.out e0
        have s1 := bytes_step (f := stByte st) s0.1 (show 4 * k + 1 < 32 by omega) s0.2 e1
        have s2 := bytes_step (f := stByte st) s1.1 (show 4 * k + 2 < 32 by omega) s1.2 e2
        have s3 := bytes_step (f := stByte st) s2.1 (show 4 * k + 3 < 32 by omega) s2.2 e3
        exact ⟨k + 1, _, by omega, by go_num, s3.1, fun j hj => s3.2 j (by omega), (((hb1.set _ _).set _ _).set _ _).set _ _, (((hB.setCell (by simp) _).setCell (by simp) _).setCell (by simp) _).setCell (by simp) _⟩
      case measure => simp [intOf]; omega
    · have hcv := run_convert_bytes_back (P := Tryd.prog) wr 108 9 5 ⟨w.heap.size + 1, 0, none⟩ 32 l Tryd.underlying108 Tryd.underlying5 Tryd.underlying9 hb1.text
      rw [hl.out] at hcv
      go_wp2
      go_ret
      refine ⟨?_, hB⟩
      have hk8 : k = 8 := by omega
      subst hk8
      rw [blist_of_getD l 32 (stByte st) hl.out hp.out]
      rfl
end Go.Proofs.YtfjlkphpeneahaaDoor.S1
