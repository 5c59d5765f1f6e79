/- The walk of symMerge where the second part has one element. -/
import Derived.Test.YtlgamaldngkdnaaSym
namespace Go.Proofs.Ytlgamaldngkdnaa
open Go Go.RowKit

theorem rotR_nil (ds : List Pr) {m : Nat} (h : m + 1 ≤ ds.length) : rotL ds m m (m + 1) = ds := by
  refine pr_ext (rotL_length ds (by omega) (by omega) h) fun k _ => ?_
  rw [pr_rotL ds (by omega) (by omega) h]
  unfold R
  repeat' split
  all_goals first | (exfalso; omega) | rfl | (congr 1; omega)
theorem rotR_step (ds : List Pr) {m k : Nat} (hkm : k + 1 ≤ m) (h : m + 1 ≤ ds.length) : swp (rotL ds (k + 1) m (m + 1)) (k + 1) k = rotL ds k m (m + 1) := by
  have hl := rotL_length ds (a := k + 1) (m := m) (b := m + 1) (by omega) (by omega) (by omega)
  refine pr_ext (by rw [swp_length, hl, rotL_length ds (by omega) (by omega) (by omega)]) fun j _ => ?_
  rw [pr_swp _ (by omega) (by omega), pr_rotL ds (by omega) (by omega) (by omega), pr_rotL ds (by omega) (by omega) (by omega), pr_rotL ds (by omega) (by omega) (by omega), pr_rotL ds (by omega) (by omega) (by omega)]
  unfold R
  repeat' split
  all_goals first | (exfalso; omega) | rfl | (congr 1; omega)
theorem ins_right {ds : List Pr} {a m i : Nat} (h1 : Srt (pr ds) a m) (hi1 : a ≤ i) (hi2 : i ≤ m) (hb : m + 1 ≤ ds.length) (hlo : i = a ∨ lt (pr ds m).1 (pr ds (i - 1)).1 = false) (hhi : i = m ∨ lt (pr ds m).1 (pr ds i).1 = true) : Done ds (rotL ds i m (m + 1)) a (m + 1) := by
  refine done_rot h1 (fun p q h1 h2 h3 => by omega) hi1 hi2 (by omega) (Nat.le_refl _) hb (fun p q h3 h4 h5 h6 => ?_) (fun p q h3 h4 h5 h6 => by omega) (fun p q h3 h4 h5 h6 => by omega) (fun p q h3 h4 h5 h6 => ?_)
  · obtain rfl : q = m := by omega
    rcases hhi with h | h
    · omega
    · by_cases e : p = i
      · rw [e]; exact h
      · exact lt_of_lt_le h (h1 i p hi1 (by omega) h4)
  · obtain rfl : q = m := by omega
    rcases hlo with h | h
    · omega
    · by_cases e : p = i - 1
      · rw [e]; exact h
      · exact le_trans' (h1 p (i - 1) h3 (by omega) (by omega)) h

set_option maxRecDepth 100000 in
set_option maxHeartbeats 8000000 in
theorem sym_right (w : World) (g cap : Nat) (ds : List Pr) (h : Dat w g ds) (a m b : Nat) (ham : a + 1 < m) (hm : b = m + 1) (hb : b ≤ ds.length) (hl : ds.length ≤ 1000) (hs : Srt (pr ds) a m) :
    Calls Try.prog 54 #[.slice (some ⟨g, 0, none⟩) ds.length cap, .int .i64 (a : Int), .int .i64 (m : Int), .int .i64 (b : Int), .func (.func 39) #[] #[]] w fun e w' => e = .returned (.tuple #[]) ∧ ∃ es, Dat w' g es ∧ Done ds es a b ∧ Ch (fun k => k = g) w w' := by
  have H := Lib.hid (And.intro h hs)
  clear h hs
  have hlI : (ds.length : Int) ≤ 1000 := by omega
  have ha0 : (0 : Int) ≤ (a : Int) := by omega
  have habI : (a : Int) + 1 < (m : Int) := by omega
  have hmI : (m : Int) < (ds.length : Int) := by omega
  have hbI : (b : Int) ≤ (ds.length : Int) := by omega
  have hma : (b : Int) - (m : Int) = 1 := by omega
  obtain ⟨z, hz⟩ : ∃ z : Int, (m : Int) - (a : Int) = z := ⟨_, rfl⟩
  have hz1 : ¬ z = 1 := by omega
  have hz2 : (z == 1) = false := beq_eq_false_iff_ne.2 hz1
  have hzb : 1 ≤ z ∧ z ≤ 1000 := by omega
  have hzb1 := hzb.1
  have hzb2 := hzb.2
  clear hzb
  have HM := Lib.hid hm
  clear hm
  go_enter Try.func54, Try.ntmps54
  go_wp2
  clear hz
  go_loopw [14, 15, 16] (fun i j _ wr => ∃ (ii jj : Nat), i = .int .i64 (ii : Int) ∧ j = .int .i64 (jj : Int) ∧ a ≤ ii ∧ ii ≤ jj ∧ jj ≤ m ∧ Hid ((ii = a ∨ lt (pr ds m).1 (pr ds (ii - 1)).1 = false) ∧ (jj = m ∨ lt (pr ds m).1 (pr ds jj).1 = true) ∧ Ch (fun _ => False) w wr)) (fun i j _ _ => (intOf j).toNat - (intOf i).toNat)
  case atStart => exact ⟨a, m, rfl, rfl, Nat.le_refl _, by omega, Nat.le_refl _, Lib.hid ⟨.inl rfl, .inl rfl, Ch.refl _ _⟩⟩
  case round =>
    obtain ⟨ii, jj, rfl, rfl, hi, hij, hj, HI⟩ := hrel
    by_cases hlt : ii < jj
    · have hlt' : (ii : Int) < (jj : Int) := by omega
      obtain ⟨hm, hhm⟩ : ∃ x, (ii + jj) / 2 = x := ⟨_, rfl⟩
      have hh : ((ii : Int) + (jj : Int)) / 2 = (hm : Int) := by omega
      have h1 : ii ≤ hm := by omega
      have h2 : hm < jj := by omega
      have hm0 : (0 : Int) ≤ (hm : Int) := by omega
      have hml : (hm : Int) < (ds.length : Int) := by omega
      have hm00 : (0 : Int) ≤ (m : Int) := by omega
      have hD := H.out.1.keep HI.out.2.2 id
      obtain ⟨c0, c1⟩ := hD.cells (i := hm) (by omega)
      obtain ⟨d0, d1⟩ := hD.cells (i := m) (by omega)
      have HCm := Lib.hid (cmp39_any (ky ds m) (ky ds hm) (vl ds m) (vl ds hm))
      have HC := Lib.hid HI.out.2.2
      clear hD hhm
      cases hxy : lt (ky ds m) (ky ds hm) with
      | true =>
        have hcm := cmpS_lt hxy
        have HXY := Lib.hid (show lt (pr ds m).1 (pr ds hm).1 = true from hxy)
        clear hxy
        generalize ky ds hm = xk at *
        generalize vl ds hm = xv at *
        generalize ky ds m = yk at *
        generalize vl ds m = yv at *
        go_wp2_with fail
        go_still_tail 9, (by kernel_rfl)
        change wpList _ _ _ _ _ wr.drew
        clear c0 c1 d0 d1
        go_wp2_with (go_at_call 39; (with_reducible refine (HCm.out _).mono ?_); rintro e w2 ⟨rfl, hc2⟩)
        go_roundw
        case rel => exact ⟨ii, hm, rfl, rfl, hi, h1, by omega, Lib.hid ⟨HI.out.1, .inr HXY.out, (HC.out.tr (Ch.drew _ _)).tr hc2⟩⟩
        case measure => simp [intOf]; omega
      | false =>
        have hcm := cmpS_ge hxy
        have hcm1 := hcm.1
        have hcm2 := hcm.2
        have HXY := Lib.hid (show lt (pr ds m).1 (pr ds hm).1 = false from hxy)
        clear hxy hcm
        generalize cmpS (ky ds m) (ky ds hm) = cc at *
        generalize ky ds hm = xk at *
        generalize vl ds hm = xv at *
        generalize ky ds m = yk at *
        generalize vl ds m = yv at *
        go_wp2_with fail
        go_still_tail 9, (by kernel_rfl)
        change wpList _ _ _ _ _ wr.drew
        clear c0 c1 d0 d1
        go_wp2_with (go_at_call 39; (with_reducible refine (HCm.out _).mono ?_); rintro e w2 ⟨rfl, hc2⟩)
        go_roundw
        case rel => exact ⟨hm + 1, jj, by go_num, rfl, by omega, by omega, hj, Lib.hid ⟨.inr (by rw [Nat.add_sub_cancel]; exact HXY.out), HI.out.2.1, (HC.out.tr (Ch.drew _ _)).tr hc2⟩⟩
        case measure => simp [intOf]; omega
        all_goals (exfalso; rename_i h9; rw [show decide (cc < 0) = false from decide_eq_false (by omega)] at h9; cases h9)
    · have hlt' : (jj : Int) ≤ (ii : Int) := by omega
      have HDn := Lib.hid (ins_right (i := ii) H.out.2 hi (by omega) (by have := HM.out; omega) HI.out.1 (by rw [show ii = jj by omega]; exact HI.out.2.1))
      have HS : Hid (Dat wr g ds ∧ Ch (fun k => k = g) w wr) := Lib.hid ⟨H.out.1.keep HI.out.2.2 id, HI.out.2.2.mono fun _ _ h => h.elim⟩
      have hiI : (ii : Int) ≤ (m : Int) := by omega
      have hi0 : (0 : Int) ≤ (ii : Int) := by omega
      have him : ii ≤ m := by omega
      have hmb : m + 1 ≤ ds.length := by have := HM.out; omega
      clear HI
      go_wp2
      go_loopw [17] (fun k w2 => ∃ (kk : Nat), k = .int .i64 (kk : Int) ∧ ii ≤ kk ∧ kk ≤ m ∧ Hid (Dat w2 g (rotL ds kk m (m + 1)) ∧ Ch (fun k => k = g) w w2)) (fun k _ => (intOf k).toNat)
      case atStart => exact ⟨m, rfl, him, Nat.le_refl _, Lib.hid ⟨by rw [rotR_nil ds hmb]; exact HS.out.1, HS.out.2⟩⟩
      case round =>
        clear HS
        obtain ⟨kk, rfl, hki, hkm, HK⟩ := hrel
        have hk0 : (0 : Int) ≤ (kk : Int) := by omega
        by_cases hk : ii < kk
        · have hk' : (ii : Int) < (kk : Int) := by omega
          obtain ⟨y, hy⟩ : ∃ y, kk = y + 1 := ⟨kk - 1, by omega⟩
          have hrl := rotL_length ds (a := kk) (m := m) (b := m + 1) hkm (by omega) hmb
          have HSt := Lib.hid (rotR_step ds (m := m) (k := y) (by omega) hmb)
          rw [← hy] at HSt
          have hyI : (kk : Int) - 1 = (y : Int) := by omega
          have wy : IntKind.i64.wrap ((kk : Int) - 1) = (y : Int) := (IntWalk.i64_in _ (by omega)).trans hyI
          have wy2 : IntKind.i64.wrap (y : Int) = (y : Int) := IntWalk.i64_in _ (by omega)
          have hy0 : (0 : Int) ≤ (y : Int) := by omega
          have hyl : (y : Int) < (ds.length : Int) := by omega
          have hkl : (kk : Int) < (ds.length : Int) := by omega
          have hyl2 : y < ds.length := by omega
          have hkl2 : kk < ds.length := by omega
          have HY := Lib.hid hy
          have hD := HK.out.1
          generalize rotL ds kk m (m + 1) = es at *
          obtain ⟨c0, c1⟩ := hD.cells (i := kk) (by omega)
          obtain ⟨d0, d1⟩ := hD.cells (i := y) (by omega)
          have f0 := hD.fr (kk * 2)
          have f1 := hD.fr (kk * 2 + 1)
          have f2 := hD.fr (y * 2)
          have f3 := hD.fr (y * 2 + 1)
          have HE := Lib.hid (hD.swp kk y)
          have HCh : Hid (Ch (fun k => k = g) w (set2 (set2 wr g kk (pr es y)) g y (pr es kk))) := Lib.hid ((HK.out.2.tr (set2_ch _ _ _ _)).tr (set2_ch _ _ _ _))
          rw [HSt.out] at HE
          clear hD hy HSt HK
          unfold pr set2 at HE HCh
          simp only at HE HCh
          generalize ky es kk = xk at *
          generalize vl es kk = xv at *
          generalize ky es y = yk at *
          generalize vl es y = yv at *
          go_wp2_with fail
          go_region
          have HE2 := Lib.hid (HE.out.keep (Ch.drew (fun _ => False) _) id)
          have HC2 := Lib.hid (HCh.out.tr (Ch.drew _ _))
          clear HE HCh c0 c1 d0 d1 f0 f1 f2 f3 wy wy2
          generalize ((((wr.setCell ⟨g, kk * 2, none⟩ (.string yk)).setCell ⟨g, kk * 2 + 1, none⟩ (.int .i64 yv)).setCell ⟨g, y * 2, none⟩ (.string xk)).setCell ⟨g, y * 2 + 1, none⟩ (.int .i64 xv)).drew = W at *
          go_wp2
          go_roundw
          case rel => exact ⟨y, by go_num, by have := HY.out; omega, by have := HY.out; omega, Lib.hid ⟨HE2.out, HC2.out⟩⟩
          case measure => have := HY.out; simp [intOf]; omega
        · have hk' : (kk : Int) ≤ (ii : Int) := by omega
          have HF : Hid (kk = ii) := Lib.hid (by omega)
          go_wp2
          refine bodyPost_ret (results_none rfl _ _ _) rfl ?_
          refine ⟨rfl, _, HK.out.1, ?_, HK.out.2⟩
          rw [HF.out, HM.out]
          exact HDn.out
end Go.Proofs.Ytlgamaldngkdnaa
