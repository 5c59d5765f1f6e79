/- symMerge: what it does, plainly; its walks where one part has one element. -/
import Derived.Test.YtlgamaldngkdnaaInsW
namespace Go.Proofs.Ytlgamaldngkdnaa
open Go Go.RowKit

theorem le_trans' {a b c : ByteArray} (h : lt b a = false) (k : lt c b = false) : lt c a = false := by
  cases hx : lt c a with
  | false => rfl
  | true => rw [lt_of_lt_le hx h] at k; cases k
/-- Parts exchanged, and all in order. -/
theorem srt_rot {f : Nat → Pr} {a s m e b : Nat} (h1 : Srt f a m) (h2 : Srt f m b) (has : a ≤ s) (hsm : s ≤ m) (hme : m ≤ e) (heb : e ≤ b)
    (hvu : ∀ i j, s ≤ i → i < m → m ≤ j → j < e → lt (f j).1 (f i).1 = true) (hAB : ∀ i j, a ≤ i → i < s → e ≤ j → j < b → lt (f j).1 (f i).1 = false)
    (hUB : ∀ i j, s ≤ i → i < m → e ≤ j → j < b → lt (f j).1 (f i).1 = false) (hAV : ∀ i j, a ≤ i → i < s → m ≤ j → j < e → lt (f j).1 (f i).1 = false) : Srt (R f s m e) a b := by
  intro p q hp hpq hq
  unfold R
  repeat' split
  all_goals first
    | (exfalso; omega)
    | exact h1 _ _ (by omega) (by omega) (by omega)
    | exact h2 _ _ (by omega) (by omega) (by omega)
    | exact hAV _ _ (by omega) (by omega) (by omega) (by omega)
    | exact hAB _ _ (by omega) (by omega) (by omega) (by omega)
    | exact hUB _ _ (by omega) (by omega) (by omega) (by omega)
    | exact lt_asymm (hvu _ _ (by omega) (by omega) (by omega) (by omega))
theorem done_rot {ds : List Pr} {a s m e b : Nat} (h1 : Srt (pr ds) a m) (h2 : Srt (pr ds) m b) (has : a ≤ s) (hsm : s ≤ m) (hme : m ≤ e) (heb : e ≤ b) (hb : b ≤ ds.length)
    (hvu : ∀ i j, s ≤ i → i < m → m ≤ j → j < e → lt (pr ds j).1 (pr ds i).1 = true) (hAB : ∀ i j, a ≤ i → i < s → e ≤ j → j < b → lt (pr ds j).1 (pr ds i).1 = false)
    (hUB : ∀ i j, s ≤ i → i < m → e ≤ j → j < b → lt (pr ds j).1 (pr ds i).1 = false) (hAV : ∀ i j, a ≤ i → i < s → m ≤ j → j < e → lt (pr ds j).1 (pr ds i).1 = false) : Done ds (rotL ds s m e) a b := by
  have hp := fun k => pr_rotL ds hsm hme (by omega) k
  refine ⟨rotL_length ds hsm hme (by omega), fun k hk => ?_, fun p q h3 h4 h5 => ?_, fun k => filt_rotL ds hsm hme (fun i j i1 i2 j1 j2 => key_ne_of_lt (hvu i j i1 i2 j1 j2)) k⟩
  · rw [hp]
    unfold R
    repeat' split
    all_goals first | (exfalso; omega) | rfl | (congr 1; omega)
  · rw [hp, hp]
    exact srt_rot h1 h2 has hsm hme heb hvu hAB hUB hAV p q h3 h4 h5
theorem rotL_nil (ds : List Pr) {a : Nat} (h : a + 1 ≤ ds.length) : rotL ds a (a + 1) (a + 1) = ds := by
  refine pr_ext (rotL_length ds (by omega) (by omega) h) fun k _ => ?_
  rw [pr_rotL ds (by omega) (by omega) h]
  unfold R
  repeat' split
  all_goals first | (exfalso; omega) | rfl | (congr 1; omega)
theorem rotL_step (ds : List Pr) {a k : Nat} (hak : a ≤ k) (h : k + 2 ≤ ds.length) : swp (rotL ds a (a + 1) (k + 1)) k (k + 1) = rotL ds a (a + 1) (k + 2) := by
  have hl := rotL_length ds (a := a) (m := a + 1) (b := k + 1) (by omega) (by omega) (by omega)
  refine pr_ext (by rw [swp_length, hl, rotL_length ds (by omega) (by omega) (by omega)]) fun j _ => ?_
  rw [pr_swp _ (by omega) (by omega), pr_rotL ds (by omega) (by omega) (by omega), pr_rotL ds (by omega) (by omega) (by omega), pr_rotL ds (by omega) (by omega) (by omega), pr_rotL ds (by omega) (by omega) (by omega)]
  unfold R
  repeat' split
  all_goals first | (exfalso; omega) | rfl | (congr 1; omega)
theorem ins_left {ds : List Pr} {a b i : Nat} (h2 : Srt (pr ds) (a + 1) b) (hi1 : a + 1 ≤ i) (hi2 : i ≤ b) (hb : b ≤ ds.length) (hlo : i = a + 1 ∨ lt (pr ds (i - 1)).1 (pr ds a).1 = true) (hhi : i = b ∨ lt (pr ds i).1 (pr ds a).1 = false) : Done ds (rotL ds a (a + 1) i) a b := by
  refine done_rot (fun p q h1 h2 h3 => by omega) h2 (Nat.le_refl _) (by omega) hi1 hi2 hb (fun p q h3 h4 h5 h6 => ?_) (fun p q h3 h4 h5 h6 => by omega) (fun p q h3 h4 h5 h6 => ?_) (fun p q h3 h4 h5 h6 => by omega)
  · obtain rfl : p = a := by omega
    rcases hlo with h | h
    · omega
    · by_cases e : q = i - 1
      · rw [e]; exact h
      · exact lt_of_le_lt (h2 q (i - 1) h5 (by omega) (by omega)) h
  · obtain rfl : p = a := by omega
    rcases hhi with h | h
    · omega
    · by_cases e : q = i
      · rw [e]; exact h
      · exact le_trans' h (h2 i q (by omega) (by omega) h6)

set_option maxRecDepth 100000 in
set_option maxHeartbeats 8000000 in
theorem sym_left (w : World) (g cap : Nat) (ds : List Pr) (h : Dat w g ds) (a m b : Nat) (hm : m = a + 1) (hab : m < b) (hb : b ≤ ds.length) (hl : ds.length ≤ 1000) (hs : Srt (pr ds) (a + 1) b) :
    Calls Try.prog 54 #[.slice (some ⟨g, 0, none⟩) ds.length cap, .int .i64 (a : Int), .int .i64 (m : Int), .int .i64 (b : Int), .func (.func 39) #[] #[]] w fun e w' => e = .returned (.tuple #[]) ∧ ∃ es, Dat w' g es ∧ Done ds es a b ∧ Ch (fun k => k = g) w w' := by
  have H := Lib.hid (And.intro h hs)
  clear h hs
  have hlI : (ds.length : Int) ≤ 1000 := by omega
  have ha0 : (0 : Int) ≤ (a : Int) := by omega
  have habI : (m : Int) < (b : Int) := by omega
  have hbI : (b : Int) ≤ (ds.length : Int) := by omega
  have hma : (m : Int) - (a : Int) = 1 := by omega
  have HM := Lib.hid hm
  clear hm
  go_enter Try.func54, Try.ntmps54
  go_wp2
  go_loopw [10, 11, 12] (fun i j _ wr => ∃ (ii jj : Nat), i = .int .i64 (ii : Int) ∧ j = .int .i64 (jj : Int) ∧ a + 1 ≤ ii ∧ ii ≤ jj ∧ jj ≤ b ∧ Hid ((ii = a + 1 ∨ lt (pr ds (ii - 1)).1 (pr ds a).1 = true) ∧ (jj = b ∨ lt (pr ds jj).1 (pr ds a).1 = false) ∧ Ch (fun _ => False) w wr)) (fun i j _ _ => (intOf j).toNat - (intOf i).toNat)
  case atStart => exact ⟨m, b, rfl, rfl, by rw [HM.out]; exact Nat.le_refl _, by omega, Nat.le_refl _, Lib.hid ⟨.inl HM.out, .inl rfl, Ch.refl _ _⟩⟩
  case round =>
    obtain ⟨ii, jj, rfl, rfl, hi, hij, hj, HI⟩ := hrel
    by_cases hlt : ii < jj
    · have hlt' : (ii : Int) < (jj : Int) := by omega
      obtain ⟨hm, hhm⟩ : ∃ x, (ii + jj) / 2 = x := ⟨_, rfl⟩
      have hh : ((ii : Int) + (jj : Int)) / 2 = (hm : Int) := by omega
      have h1 : ii ≤ hm := by omega
      have h2 : hm < jj := by omega
      have hm0 : (0 : Int) ≤ (hm : Int) := by omega
      have hml : (hm : Int) < (ds.length : Int) := by omega
      have hal : (a : Int) < (ds.length : Int) := by omega
      have hD := H.out.1.keep HI.out.2.2 id
      obtain ⟨c0, c1⟩ := hD.cells (i := hm) (by omega)
      obtain ⟨d0, d1⟩ := hD.cells (i := a) (by omega)
      have HCm := Lib.hid (cmp39_any (ky ds hm) (ky ds a) (vl ds hm) (vl ds a))
      have HC := Lib.hid HI.out.2.2
      clear hD hhm
      cases hxy : lt (ky ds hm) (ky ds a) with
      | true =>
        have hcm := cmpS_lt hxy
        have HXY := Lib.hid (show lt (pr ds hm).1 (pr ds a).1 = true from hxy)
        clear hxy
        generalize ky ds hm = xk at *
        generalize vl ds hm = xv at *
        generalize ky ds a = yk at *
        generalize vl ds a = yv at *
        go_wp2_with fail
        go_still_tail 9, (by kernel_rfl)
        change wpList _ _ _ _ _ wr.drew
        clear c0 c1 d0 d1
        go_wp2_with (go_at_call 39; (with_reducible refine (HCm.out _).mono ?_); rintro e w2 ⟨rfl, hc2⟩)
        go_roundw
        case rel => exact ⟨hm + 1, jj, by go_num, rfl, by omega, by omega, hj, Lib.hid ⟨.inr (by rw [Nat.add_sub_cancel]; exact HXY.out), HI.out.2.1, (HC.out.tr (Ch.drew _ _)).tr hc2⟩⟩
        case measure => simp [intOf]; omega
      | false =>
        have hcm := cmpS_ge hxy
        have hcm1 := hcm.1
        have hcm2 := hcm.2
        have HXY := Lib.hid (show lt (pr ds hm).1 (pr ds a).1 = false from hxy)
        clear hxy hcm
        generalize cmpS (ky ds hm) (ky ds a) = cc at *
        generalize ky ds hm = xk at *
        generalize vl ds hm = xv at *
        generalize ky ds a = yk at *
        generalize vl ds a = yv at *
        go_wp2_with fail
        go_still_tail 9, (by kernel_rfl)
        change wpList _ _ _ _ _ wr.drew
        clear c0 c1 d0 d1
        go_wp2_with (go_at_call 39; (with_reducible refine (HCm.out _).mono ?_); rintro e w2 ⟨rfl, hc2⟩)
        go_roundw
        case rel => exact ⟨ii, hm, rfl, rfl, hi, h1, by omega, Lib.hid ⟨HI.out.1, .inr HXY.out, (HC.out.tr (Ch.drew _ _)).tr hc2⟩⟩
        case measure => simp [intOf]; omega
    · have hlt' : (jj : Int) ≤ (ii : Int) := by omega
      have HDn := Lib.hid (ins_left (i := ii) H.out.2 hi (by omega) hb HI.out.1 (by rw [show ii = jj by omega]; exact HI.out.2.1))
      have HS : Hid (Dat wr g ds ∧ Ch (fun k => k = g) w wr) := Lib.hid ⟨H.out.1.keep HI.out.2.2 id, HI.out.2.2.mono fun _ _ h => h.elim⟩
      have hiI : (ii : Int) ≤ (b : Int) := by omega
      have hi0 : (1 : Int) ≤ (ii : Int) := by omega
      clear HI
      go_wp2
      go_loopw [13] (fun k w2 => ∃ (kk : Nat), k = .int .i64 (kk : Int) ∧ a ≤ kk ∧ kk + 1 ≤ ii ∧ Hid (Dat w2 g (rotL ds a (a + 1) (kk + 1)) ∧ Ch (fun k => k = g) w w2)) (fun k _ => ii - (intOf k).toNat)
      case atStart => exact ⟨a, rfl, Nat.le_refl _, hi, Lib.hid ⟨by rw [rotL_nil ds (by omega)]; exact HS.out.1, HS.out.2⟩⟩
      case round =>
        clear HS
        obtain ⟨kk, rfl, hka, hki, HK⟩ := hrel
        have hk0 : (0 : Int) ≤ (kk : Int) := by omega
        by_cases hk : kk + 1 < ii
        · have hk' : (kk : Int) < (ii : Int) - 1 := by omega
          have hrl := rotL_length ds (a := a) (m := a + 1) (b := kk + 1) (by omega) (by omega) (by omega)
          have HSt := Lib.hid (rotL_step ds (a := a) (k := kk) hka (by omega))
          obtain ⟨y, hy⟩ : ∃ y, kk + 1 = y := ⟨_, rfl⟩
          have hyI : (kk : Int) + 1 = (y : Int) := by omega
          have wy : IntKind.i64.wrap ((kk : Int) + 1) = (y : Int) := (IntWalk.i64_in _ (by omega)).trans hyI
          have wy2 : IntKind.i64.wrap (y : Int) = (y : Int) := IntWalk.i64_in _ (by omega)
          have hy0 : (0 : Int) ≤ (y : Int) := by omega
          have hyl : (y : Int) < (ds.length : Int) := by omega
          have hkl : (kk : Int) < (ds.length : Int) := by omega
          have hyl2 : y < ds.length := by omega
          have hkl2 : kk < ds.length := by omega
          have HY := Lib.hid hy
          have hD := HK.out.1
          rw [show kk + 2 = y + 1 by omega, hy] at HSt
          rw [hy] at hD hrl
          generalize rotL ds a (a + 1) y = es at *
          obtain ⟨c0, c1⟩ := hD.cells (i := kk) (by omega)
          obtain ⟨d0, d1⟩ := hD.cells (i := y) (by omega)
          have f0 := hD.fr (kk * 2)
          have f1 := hD.fr (kk * 2 + 1)
          have f2 := hD.fr (y * 2)
          have f3 := hD.fr (y * 2 + 1)
          have HE := Lib.hid (hD.swp kk y)
          have HCh : Hid (Ch (fun k => k = g) w (set2 (set2 wr g kk (pr es y)) g y (pr es kk))) := Lib.hid ((HK.out.2.tr (set2_ch _ _ _ _)).tr (set2_ch _ _ _ _))
          rw [HSt.out] at HE
          clear hD hy HSt HK
          unfold pr set2 at HE HCh
          simp only at HE HCh
          generalize ky es kk = xk at *
          generalize vl es kk = xv at *
          generalize ky es y = yk at *
          generalize vl es y = yv at *
          go_wp2_with fail
          go_region
          have HE2 := Lib.hid (HE.out.keep (Ch.drew (fun _ => False) _) id)
          have HC2 := Lib.hid (HCh.out.tr (Ch.drew _ _))
          clear HE HCh c0 c1 d0 d1 f0 f1 f2 f3 wy wy2
          generalize ((((wr.setCell ⟨g, kk * 2, none⟩ (.string yk)).setCell ⟨g, kk * 2 + 1, none⟩ (.int .i64 yv)).setCell ⟨g, y * 2, none⟩ (.string xk)).setCell ⟨g, y * 2 + 1, none⟩ (.int .i64 xv)).drew = W at *
          go_wp2
          go_roundw
          case rel => exact ⟨y, by go_num, by have := HY.out; omega, by have := HY.out; omega, Lib.hid ⟨HE2.out, HC2.out⟩⟩
          case measure => have := HY.out; simp [intOf]; omega
        · have hk' : (ii : Int) - 1 ≤ (kk : Int) := by omega
          have HF : Hid (kk + 1 = ii) := Lib.hid (by omega)
          go_wp2
          refine bodyPost_ret (results_none rfl _ _ _) rfl ?_
          refine ⟨rfl, _, HK.out.1, ?_, HK.out.2⟩
          rw [HF.out]
          exact HDn.out
end Go.Proofs.Ytlgamaldngkdnaa
