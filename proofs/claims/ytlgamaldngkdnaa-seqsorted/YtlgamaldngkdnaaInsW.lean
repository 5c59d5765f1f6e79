/- The walk of the insertion sort. -/
import Derived.Test.YtlgamaldngkdnaaIns
namespace Go.Proofs.Ytlgamaldngkdnaa
open Go Go.RowKit

/-- A part is in order; those of one key stand as they stood, and so does all else. -/
structure Done (ds es : List Pr) (a b : Nat) : Prop where
  len : es.length = ds.length
  out : ∀ k, (k < a ∨ b ≤ k) → pr es k = pr ds k
  srt : Srt (pr es) a b
  filt : ∀ k, filt k es = filt k ds
/-- .. but for the one at j, which is ahead of all behind it. -/
structure Inn (ds fs : List Pr) (a i j : Nat) : Prop where
  len : fs.length = ds.length
  out : ∀ k, (k < a ∨ i < k) → pr fs k = pr ds k
  srt : ∀ p q, a ≤ p → p < q → q ≤ i → p ≠ j → q ≠ j → lt (pr fs q).1 (pr fs p).1 = false
  low : ∀ q, j < q → q ≤ i → lt (pr fs j).1 (pr fs q).1 = true
  filt : ∀ k, Ytlgamaldngkdnaa.filt k fs = Ytlgamaldngkdnaa.filt k ds
theorem Done.inn {ds es : List Pr} {a i : Nat} (h : Done ds es a i) : Inn ds es a i i :=
  ⟨h.len, fun k hk => h.out k (by omega), fun p q h1 h2 h3 h4 h5 => h.srt p q h1 h2 (by omega), fun q h1 h2 => by omega, h.filt⟩
theorem Inn.done {ds fs : List Pr} {a i j : Nat} (h : Inn ds fs a i j) (haj : a ≤ j) (hji : j ≤ i) (hj : j = a ∨ lt (pr fs j).1 (pr fs (j - 1)).1 = false) : Done ds fs a (i + 1) := by
  refine ⟨h.len, fun k hk => h.out k (by omega), fun p q h1 h2 h3 => ?_, h.filt⟩
  by_cases e1 : p = j
  · subst e1
    exact lt_asymm (h.low q h2 (by omega))
  · by_cases e2 : q = j
    · subst e2
      rcases hj with hj | hj
      · omega
      · by_cases e3 : p = q - 1
        · rw [e3]; exact hj
        · have h4 := h.srt p (q - 1) h1 (by omega) (by omega) e1 (by omega)
          cases hx : lt (pr fs q).1 (pr fs p).1 with
          | false => rfl
          | true =>
            have := lt_of_lt_le hx h4
            rw [this] at hj; cases hj
    · exact h.srt p q h1 h2 (by omega) e1 e2
theorem Inn.next {ds fs : List Pr} {a i j : Nat} (h : Inn ds fs a i (j + 1)) (haj : a ≤ j) (hji : j + 1 ≤ i) (hl : i < ds.length) (hlt : lt (pr fs (j + 1)).1 (pr fs j).1 = true) : Inn ds (swp fs (j + 1) j) a i j := by
  have hle := h.len
  have hp : ∀ k, pr (swp fs (j + 1) j) k = if k = j then pr fs (j + 1) else if k = j + 1 then pr fs j else pr fs k := fun k => pr_swp fs (by omega) (by omega) k
  refine ⟨by rw [swp_length]; exact hle, fun k hk => ?_, fun p q h1 h2 h3 h4 h5 => ?_, fun q h1 h2 => ?_, fun k => ?_⟩
  · rw [hp, if_neg (by omega), if_neg (by omega)]
    exact h.out k hk
  · rw [hp, hp, if_neg h5, if_neg h4]
    by_cases e1 : q = j + 1
    · rw [if_pos e1, if_neg (by omega)]
      exact h.srt p j h1 (by omega) (by omega) (by omega) (by omega)
    · rw [if_neg e1]
      by_cases e2 : p = j + 1
      · rw [if_pos e2]
        exact h.srt j q haj (by omega) h3 (by omega) e1
      · rw [if_neg e2]
        exact h.srt p q h1 h2 h3 e2 e1
  · rw [hp, hp, if_pos rfl, if_neg (by omega)]
    by_cases e1 : q = j + 1
    · rw [if_pos e1]; exact hlt
    · rw [if_neg e1]
      exact h.low q (by omega) h2
  · rw [filt_swp fs (by omega) (key_ne_of_lt hlt) k]
    exact h.filt k

set_option maxRecDepth 100000 in
set_option maxHeartbeats 8000000 in
theorem ins_any (w : World) (g cap : Nat) (ds : List Pr) (h : Dat w g ds) (a b : Nat) (hab : a ≤ b) (hb : b ≤ ds.length) (hl : ds.length ≤ 1000) :
    Calls Try.prog 53 #[.slice (some ⟨g, 0, none⟩) ds.length cap, .int .i64 (a : Int), .int .i64 (b : Int), .func (.func 39) #[] #[]] w fun e w' => e = .returned (.tuple #[]) ∧ ∃ es, Dat w' g es ∧ Done ds es a b ∧ Ch (fun k => k = g) w w' := by
  have H := Lib.hid h
  clear h
  have hlI : (ds.length : Int) ≤ 1000 := by omega
  have ha0 : (0 : Int) ≤ (a : Int) := by omega
  have habI : (a : Int) ≤ (b : Int) := by omega
  have hbI : (b : Int) ≤ (ds.length : Int) := by omega
  go_enter Try.func53, Try.ntmps53
  go_wp2
  go_loopw [8] (fun i wr => ∃ (ii : Nat) (es : List Pr), i = .int .i64 (ii : Int) ∧ a + 1 ≤ ii ∧ Hid ((ii ≤ b ∨ (ii = a + 1 ∧ es = ds)) ∧ Dat wr g es ∧ Done ds es a ii ∧ Ch (fun k => k = g) w wr)) (fun i _ => b - (intOf i).toNat)
  case atStart => exact ⟨a + 1, ds, by go_num, Nat.le_refl _, Lib.hid ⟨.inr ⟨rfl, rfl⟩, H.out, ⟨rfl, fun _ _ => rfl, fun p q h1 h2 h3 => by omega, fun _ => rfl⟩, Ch.refl _ _⟩⟩
  case round =>
    obtain ⟨ii, es, rfl, hi, HI⟩ := hrel
    by_cases hlt : ii < b
    · have hlt' : (ii : Int) < (b : Int) := by omega
      have hi0 : (0 : Int) ≤ (ii : Int) := by omega
      obtain ⟨wo, hwo⟩ : ∃ x, x = wr := ⟨_, rfl⟩
      subst hwo
      go_wp2
      go_loopw [9] (fun j w2 => ∃ (jj : Nat) (fs : List Pr), j = .int .i64 (jj : Int) ∧ a ≤ jj ∧ jj ≤ ii ∧ Hid (Dat w2 g fs ∧ Inn ds fs a ii jj ∧ Ch (fun k => k = g) w w2)) (fun j _ => (intOf j).toNat)
      case atStart => exact ⟨ii, es, rfl, by omega, Nat.le_refl _, Lib.hid ⟨HI.out.2.1, HI.out.2.2.1.inn, HI.out.2.2.2⟩⟩
      case round =>
        clear HI
        obtain ⟨jj, fs, rfl, hja, hji, HJ⟩ := hrel
        have hfl := HJ.out.2.1.len
        by_cases hj : jj = a
        · have hj' : ¬ (a : Int) < (jj : Int) := by omega
          have hd : decide ((a : Int) < (jj : Int)) = false := decide_eq_false hj'
          have hdN : decide (a < jj) = false := decide_eq_false (by omega)
          have HD := Lib.hid (HJ.out.2.1.done hja hji (.inl hj))
          clear hj
          go_wp2
          go_quiet (fail)
          go_wp2
          go_roundw
          case rel => exact ⟨ii + 1, fs, by go_num, by omega, Lib.hid ⟨.inl (by omega), HJ.out.1.keep (Ch.drewN (fun _ => False) _ _) id, HD.out, HJ.out.2.2.tr (Ch.drewN _ _ _)⟩⟩
          case measure => simp [intOf]; omega
        · have hj' : (a : Int) < (jj : Int) := by omega
          have hd : decide ((a : Int) < (jj : Int)) = true := decide_eq_true hj'
          have hdN : decide (a < jj) = true := decide_eq_true (by omega)
          obtain ⟨q, hq⟩ : ∃ q, jj = q + 1 := ⟨jj - 1, by omega⟩
          have HQ := Lib.hid hq
          have hqI : (jj : Int) - 1 = (q : Int) := by omega
          have wq : IntKind.i64.wrap ((jj : Int) - 1) = (q : Int) := (IntWalk.i64_in _ (by omega)).trans hqI
          have wq2 : IntKind.i64.wrap (q : Int) = (q : Int) := IntWalk.i64_in _ (by omega)
          have hq0 : (0 : Int) ≤ (q : Int) := by omega
          have hql : (q : Int) < (ds.length : Int) := by omega
          have hj0 : (0 : Int) ≤ (jj : Int) := by omega
          have hjl : (jj : Int) < (ds.length : Int) := by omega
          have hql2 : q < ds.length := by omega
          have hjl2 : jj < ds.length := by omega
          have hD := HJ.out.1
          obtain ⟨c0, c1⟩ := hD.cells (i := jj) (by omega)
          obtain ⟨d0, d1⟩ := hD.cells (i := q) (by omega)
          have HF : Hid (∀ V, Ch (fun _ => False) wr V → Dat V g fs ∧ Ch (fun k => k = g) w V) := Lib.hid fun V hV => ⟨HJ.out.1.keep hV id, HJ.out.2.2.trans hV fun _ _ h => h.elim⟩
          have hgl := hD.lt
          clear hD hq
          obtain ⟨xk, hxk⟩ : ∃ x, ky fs jj = x := ⟨_, rfl⟩
          obtain ⟨xv, hxv⟩ : ∃ x, vl fs jj = x := ⟨_, rfl⟩
          obtain ⟨yk, hyk⟩ : ∃ x, ky fs q = x := ⟨_, rfl⟩
          obtain ⟨yv, hyv⟩ : ∃ x, vl fs q = x := ⟨_, rfl⟩
          have HK := Lib.hid (And.intro hxk (And.intro hxv (And.intro hyk hyv)))
          rw [hxk] at c0
          rw [hxv] at c1
          rw [hyk] at d0
          rw [hyv] at d1
          clear hxk hxv hyk hyv
          have HCm := Lib.hid (cmp39_any xk yk xv yv)
          cases hxy : lt xk yk with
          | true =>
            have hcm := cmpS_lt hxy
            have HXY := Lib.hid hxy
            clear hxy
            go_wp2_with fail
            go_still_tail 14, (by kernel_rfl)
            change wpList _ _ _ _ _ wr.drew
            clear c0 c1 d0 d1
            go_wp2_with (go_at_call 39; (with_reducible refine (HCm.out _).mono ?_); rintro e w2 ⟨rfl, hc2⟩)
            obtain ⟨hD, hCw⟩ := HF.out _ ((Ch.drew _ wr).tr hc2)
            obtain ⟨c0, c1⟩ := hD.cells (i := jj) (by omega)
            obtain ⟨d0, d1⟩ := hD.cells (i := q) (by omega)
            have f0 := hD.fr (jj * 2)
            have f1 := hD.fr (jj * 2 + 1)
            have f2 := hD.fr (q * 2)
            have f3 := hD.fr (q * 2 + 1)
            have HE := Lib.hid (hD.swp jj q)
            have HCh : Hid (Ch (fun k => k = g) w (set2 (set2 w2 g jj (pr fs q)) g q (pr fs jj))) := Lib.hid ((hCw.tr (set2_ch _ _ _ _)).tr (set2_ch _ _ _ _))
            unfold pr set2 at HE HCh
            rw [HK.out.1] at c0
            rw [HK.out.2.1] at c1
            rw [HK.out.2.2.1] at d0
            rw [HK.out.2.2.2] at d1
            rw [HK.out.1, HK.out.2.1, HK.out.2.2.1, HK.out.2.2.2] at HE HCh
            simp only at HE HCh
            clear hD hCw hc2
            go_region
            have HE2 := Lib.hid (HE.out.keep (Ch.drew (fun _ => False) _) id)
            have HC2 := Lib.hid (HCh.out.tr (Ch.drew _ _))
            have HN : Hid (Inn ds (swp fs jj q) a ii q) := Lib.hid (by
              have h1 := HJ.out.2.1
              rw [HQ.out] at h1 ⊢
              refine h1.next (by have := HQ.out; omega) (by have := HQ.out; omega) (by omega) ?_
              show lt (ky fs (q + 1)) (ky fs q) = true
              rw [← HQ.out, HK.out.1, HK.out.2.2.1]
              exact HXY.out)
            clear HE HCh c0 c1 d0 d1 f0 f1 f2 f3 wq wq2
            generalize ((((w2.setCell ⟨g, jj * 2, none⟩ (.string yk)).setCell ⟨g, jj * 2 + 1, none⟩ (.int .i64 yv)).setCell ⟨g, q * 2, none⟩ (.string xk)).setCell ⟨g, q * 2 + 1, none⟩ (.int .i64 xv)).drew = W at *
            go_wp2
            go_roundw
            case rel => exact ⟨q, swp fs jj q, by go_num, by have := HQ.out; omega, by have := HQ.out; omega, Lib.hid ⟨HE2.out, HN.out, HC2.out⟩⟩
            case measure => have := HQ.out; simp [intOf]; omega
          | false =>
            have hcm := cmpS_ge hxy
            have HXY := Lib.hid hxy
            clear hxy
            have hcm1 := hcm.1
            have hcm2 := hcm.2
            clear hcm
            generalize cmpS xk yk = cc at *
            have HD := Lib.hid (HJ.out.2.1.done hja hji (.inr (by rw [HQ.out, Nat.add_sub_cancel, ← HQ.out]; show lt (ky fs jj) (ky fs q) = false; rw [HK.out.1, HK.out.2.2.1]; exact HXY.out)))
            go_wp2_with fail
            go_still_tail 14, (by kernel_rfl)
            change wpList _ _ _ _ _ wr.drew
            clear c0 c1 d0 d1
            go_wp2_with (go_at_call 39; (with_reducible refine (HCm.out _).mono ?_); rintro e w2 ⟨rfl, hc2⟩)
            obtain ⟨hD, hCw⟩ := HF.out _ ((Ch.drew _ wr).tr hc2)
            go_roundw
            case rel => exact ⟨ii + 1, fs, by go_num, by omega, Lib.hid ⟨.inl (by omega), hD, HD.out, hCw⟩⟩
            case measure => simp [intOf]; omega
    · have hlt' : (b : Int) ≤ (ii : Int) := by omega
      have HE : Hid (Done ds es a b) := Lib.hid (by
        rcases HI.out.1 with h | ⟨h, h2⟩
        · obtain rfl : ii = b := by omega
          exact HI.out.2.2.1
        · subst h2
          exact ⟨rfl, fun _ _ => rfl, fun p q h1 h2 h3 => by omega, fun _ => rfl⟩)
      go_wp2
      go_end0
      exact ⟨rfl, es, HI.out.2.1, HE.out, HI.out.2.2.2⟩
end Go.Proofs.Ytlgamaldngkdnaa
