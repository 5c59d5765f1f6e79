/- Walk of mixAll. -/
import Derived.Test.YtfjlkphpeneahaaDoorAWalkM
namespace Go.Proofs.YtfjlkphpeneahaaDoor.S1
open Go.RowKit

theorem word_congr {m m' : Nat → UInt8} (h : ∀ j, j < 64 → m j = m' j) (t : Nat) (ht : t < 16) : word m t = word m' t := by
  unfold word; rw [h _ (by omega), h _ (by omega), h _ (by omega), h _ (by omega)]
theorem W_congr {m m' : Nat → UInt8} (h : ∀ j, j < 64 → m j = m' j) (t : Nat) : W m t = W m' t := by
  induction t using Nat.strongRecOn with
  | _ t ih =>
    by_cases ht : t < 16
    · rw [W_lo _ _ ht, W_lo _ _ ht, word_congr h t ht]
    · rw [W_hi m t (by omega), W_hi m' t (by omega), ih (t - 16) (by omega), ih (t - 15) (by omega), ih (t - 7) (by omega), ih (t - 2) (by omega)]
theorem comp_congr {m m' : Nat → UInt8} (K : Nat → BitVec 32) (h : ∀ j, j < 64 → m j = m' j) (q : St) : comp K m q = comp K m' q := by
  have hr : ∀ n, rnds K m n q = rnds K m' n q := fun n => by
    induction n with
    | zero => rfl
    | succ n ih => rw [rnds, rnds, ih, W_congr h]
  unfold comp
  rw [hr]
theorem run_congr {m m' : Nat → UInt8} (K : Nat → BitVec 32) (n : Nat) (h : ∀ j, j < 64 * n → m j = m' j) (q : St) : run K m n q = run K m' n q := by
  induction n with
  | zero => rfl
  | succ n ih => rw [run, run, ih (fun j hj => h j (by omega))]; exact comp_congr K (fun j hj => h _ (by omega)) _
theorem run_add (m : Nat → UInt8) (K : Nat → BitVec 32) (i j : Nat) (q : St) : run K m (i + j) q = run K (fun x => m (64 * i + x)) j (run K m i q) := by
  induction j with
  | zero => rfl
  | succ j ih => rw [← Nat.add_assoc, run, run, ih]; congr 1; funext x; congr 1; omega

theorem mb_extract (s : ByteArray) (a b j : Nat) (hb : b ≤ s.size) (h : j < b - a) : mb (s.extract a b) j = mb s (a + j) := by
  have hs : j < (s.extract a b).size := by simp [ByteArray.size_extract]; omega
  rw [← mb_get _ _ hs, extract_at]

def strLen : Value → Nat | .string q => q.size | _ => 0
theorem sz8 (q q' : St) : (wvs q.l).size = (wvs q'.l).size := by simp [wvs, St.l]
theorem sz80 (q : St) : (wvs (List.replicate 8 0)).size = (wvs q.l).size := by simp [wvs, St.l]
theorem st_of (q : St) : (⟨q.a, q.b, q.c, q.d, q.e, q.f, q.g, q.h⟩ : St) = q := rfl

set_option maxRecDepth 100000 in
set_option maxHeartbeats 1000000 in
theorem mixAll_any (st : St) (s : ByteArray) (_hs : s.size ≤ maxLen) (w : World) (hK : KR w) :
    Calls Tryd.prog 55 #[.agg #[.int .u32 (u st.a), .int .u32 (u st.b), .int .u32 (u st.c), .int .u32 (u st.d), .int .u32 (u st.e), .int .u32 (u st.f), .int .u32 (u st.g), .int .u32 (u st.h)], .string s] w
      fun en w' => en = .returned (.agg (wvs (run kc (mb s) (s.size / 64) st).l)) ∧ Below w.heap.size w w' := by
  unfold maxLen at _hs
  go_enter Tryd.func55, Tryd.ntmps55
  go_wp2
  go_loopw [1] (fun v wr => ∃ n : Nat, ∃ q : ByteArray, v = .string q ∧ q.size + 64 * n ≤ s.size ∧ s.size ≤ q.size + 64 * n ∧ (∀ j, j < q.size → mb q j = mb s (64 * n + j)) ∧ Row wr w.heap.size 111 (run kc (mb s) n st).l ∧ Row wr (w.heap.size + 1) 111 (List.replicate 8 0) ∧ Below w.heap.size w wr) (fun v _ => strLen v)
  case atStart =>
    refine ⟨0, s, rfl, by omega, by omega, fun j hj => by simp, ?_, ?_, ?_⟩
    · exact heap_alloc2_old _ _ _
    · exact heap_alloc2_new _ _ _
    · exact ((Below.refl _ _).alloc (Nat.le_refl _) _).alloc (by simp) _
  case round =>
    obtain ⟨n, q, rfl, hq1, hq2, hq0, r0, r1, hB⟩ := hrel
    have hq := Lib.hid hq0
    clear hq0
    generalize hst : run kc (mb s) n st = st1 at r0
    have HST := Lib.hid hst
    clear hst
    have hK1 := hK.below hB hK.pos
    have hz := hB.size
    have z1 := r1.lt
    by_cases hlt : 64 ≤ q.size
    · have c0 := r0.cell 0 (by simp [St.l])
      have c1 := r0.cell 1 (by simp [St.l])
      have c2 := r0.cell 2 (by simp [St.l])
      have c3 := r0.cell 3 (by simp [St.l])
      have c4 := r0.cell 4 (by simp [St.l])
      have c5 := r0.cell 5 (by simp [St.l])
      have c6 := r0.cell 6 (by simp [St.l])
      have c7 := r0.cell 7 (by simp [St.l])
      simp only [St.l, List.getD_cons_zero, List.getD_cons_succ] at c0 c1 c2 c3 c4 c5 c6 c7
      go_wp2
      go_still_tail 3, (by kernel_rfl)
      change wpList _ _ _ _ _ wr.drew
      have s1 : (q.extract 0 64).size = 64 := by simp [ByteArray.size_extract]; omega
      have hb64 : ∀ j, j < 64 → mb (q.extract 0 64) j = mb s (64 * n + j) := fun j hj => by
        rw [mb_extract q 0 64 j (by omega) (by omega), Nat.zero_add]; exact hq.out j (by omega)
      have hco : comp kc (mb (q.extract 0 64)) st1 = run kc (mb s) (n + 1) st := by
        rw [run, HST.out]; exact comp_congr kc hb64 st1
      have HCO := Lib.hid hco
      clear hco hb64
      generalize q.extract 0 64 = q1 at s1 HCO ⊢
      have S1 := Lib.hid s1
      clear s1
      go_wp2_with fail
      refine (mix_any _ _ _ _ _ _ _ _ q1 S1.out _ (show KR wr.drew from hK1)).mono ?_
      rintro e w2 ⟨rfl, hb2⟩
      rw [st_of, HCO.out]
      generalize hst2 : run kc (mb s) (n + 1) st = st2
      have HST2 := Lib.hid hst2
      clear hst2 HCO
      have hb3 : Below wr.heap.size wr w2 := ((Below.refl _ _).drew).trans hb2
      have r0' := r0.below hb3 (by omega)
      have r1' := r1.below hb3 (by omega)
      have hB' := hB.trans (hb3.mono (by omega))
      clear hb2 c0 c1 c2 c3 c4 c5 c6 c7
      have s2 : (q.extract 64 q.size).size = q.size - 64 := by simp [ByteArray.size_extract]
      have hb65 : ∀ j, j < q.size - 64 → mb (q.extract 64 q.size) j = mb s (64 * (n + 1) + j) := fun j hj => by
        rw [mb_extract q 64 q.size j (by omega) (by omega), hq.out _ (by omega)]; congr 1; omega
      have S2 := Lib.hid s2
      have HB := Lib.hid hb65
      clear s2 hb65
      go_wp2_with (refine wpList_store_row rfl 111 (.tmp 2) (.tmp 11) rfl w.heap.size (wvs st2.l) rfl rfl 111 _ r0'.heap (info35 _) (sz8 _ _) (wvs_one _) ?_)
      go_roundw
      case rel => exact ⟨n + 1, _, rfl, by have := S2.out; omega, by have := S2.out; omega, fun j hj => HB.out j (by have := S2.out; omega), HST2.out ▸ r0'.put _, r1'.keep (by omega) _, below_setRow hB' (by omega) _⟩
      case measure => have := S2.out; simp [strLen]; omega
    · go_wp2_with (first | (refine wpList_load_row rfl 111 (.tmp 2) rfl w.heap.size rfl 111 (wvs st1.l) (0, 0) _ r0.heap Tryd.underlying111 rfl (info35 _) ?_) | (refine wpList_store_row rfl 111 (.tmp 4) (.tmp 14) rfl (w.heap.size + 1) (wvs st1.l) rfl rfl 111 _ r1.heap (info35 _) (sz80 _) (wvs_one _) ?_))
      refine bodyPost_ret (v := .agg (wvs st1.l)) (results_cell_row rfl _ _ (w.heap.size + 1) 111 _ (0, 0) _ rfl (r1.put _) Tryd.underlying111 rfl (info35 _)) rfl ⟨?_, below_setRow hB (by omega) _⟩
      rw [← HST.out, show s.size / 64 = n by omega]
end Go.Proofs.YtfjlkphpeneahaaDoor.S1
