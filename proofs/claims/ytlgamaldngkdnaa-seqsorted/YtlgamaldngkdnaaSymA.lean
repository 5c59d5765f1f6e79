/- The walk of symMerge in general. -/
import Derived.Test.YtlgamaldngkdnaaSymM
namespace Go.Proofs.Ytlgamaldngkdnaa
open Go Go.RowKit

/-- What a call of symMerge does. -/
def SymOk (g cap L a m b : Nat) (w : World) (ds : List Pr) : Prop := Calls Try.prog 54 #[.slice (some ⟨g, 0, none⟩) L cap, .int .i64 (a : Int), .int .i64 (m : Int), .int .i64 (b : Int), .func (.func 39) #[] #[]] w fun e w' => e = .returned (.tuple #[]) ∧ ∃ es, Dat w' g es ∧ Done ds es a b ∧ Ch (fun k => k = g) w w'
set_option maxRecDepth 100000 in
set_option maxHeartbeats 16000000 in
theorem sym_hi (w : World) (g cap : Nat) (ds : List Pr) (h : Dat w g ds) (a m b : Nat) (ham : a + 1 < m) (hmb : m + 1 < b) (hb : b ≤ ds.length) (hl : ds.length ≤ 1000) (hs1 : Srt (pr ds) a m) (hs2 : Srt (pr ds) m b)
    (mid n p s0 r0 : Nat) (hmid : (a + b) / 2 = mid) (hn : mid + m = n) (hp : p + 1 = n) (hc : mid < m) (hs0 : s0 + b = n) (hr0 : r0 = mid)
    (hrec : ∀ W es x y z, Dat W g es → es.length = ds.length → x < y → y < z → z ≤ ds.length → z - x < b - a → Srt (pr es) x y → Srt (pr es) y z → SymOk g cap ds.length x y z W es) :
    SymOk g cap ds.length a m b w ds := by
  have hsa : a ≤ s0 := by omega
  have hsr : s0 ≤ r0 := by omega
  have hrm : r0 ≤ m := by omega
  have hrd : r0 ≤ mid := by omega
  have hns : n ≤ s0 + b := by omega
  have HS0 : Hid (s0 = a ∨ n - s0 = b) := Lib.hid (by omega)
  have HR0 : Hid (r0 = m ∨ n - r0 = m) := Lib.hid (by omega)
  have hmd1 : a < mid := by omega
  have hmd2 : mid < b := by omega
  unfold SymOk
  have H := Lib.hid (And.intro h (And.intro hs1 hs2))
  have HRec := Lib.hid hrec
  clear h hs1 hs2 hrec
  have hlI : (ds.length : Int) ≤ 1000 := by omega
  have ha0 : (0 : Int) ≤ (a : Int) := by omega
  have habI : (a : Int) + 1 < (m : Int) := by omega
  have hmI : (m : Int) + 1 < (b : Int) := by omega
  have hbI : (b : Int) ≤ (ds.length : Int) := by omega
  obtain ⟨z, hz⟩ : ∃ z : Int, (m : Int) - (a : Int) = z := ⟨_, rfl⟩
  have hz1 : ¬ z = 1 := by omega
  have hz2 : (z == 1) = false := beq_eq_false_iff_ne.2 hz1
  have hzb1 : 1 ≤ z := by omega
  have hzb2 : z ≤ 1000 := by omega
  obtain ⟨y, hy⟩ : ∃ y : Int, (b : Int) - (m : Int) = y := ⟨_, rfl⟩
  have hy1 : ¬ y = 1 := by omega
  have hy2 : (y == 1) = false := beq_eq_false_iff_ne.2 hy1
  have hyb1 : 1 ≤ y := by omega
  have hyb2 : y ≤ 1000 := by omega
  have hmdI : ((a : Int) + (b : Int)) / 2 = (mid : Int) := by omega
  have hnI : (mid : Int) + (m : Int) = (n : Int) := by omega
  have hpI : (n : Int) - 1 = (p : Int) := by omega
  have hnb : (n : Int) ≤ 2000 := by omega
  have hpb : (p : Int) ≤ 2000 := by omega
  have hmdb : (mid : Int) ≤ 1000 := by omega
  have wn : IntKind.i64.wrap (n : Int) = (n : Int) := IntWalk.i64_in _ (by omega)
  have wp : IntKind.i64.wrap (p : Int) = (p : Int) := IntWalk.i64_in _ (by omega)
  have hcI : (mid : Int) < (m : Int) := by omega
  have hsI : (n : Int) - (b : Int) = (s0 : Int) := by omega
  have HRR := Lib.hid hr0
  rw [hr0] at hsr hrm hrd HR0
  clear hr0 hs0 hc
  have HN := Lib.hid (And.intro hmid (And.intro hn hp))
  have hpn : p < n := by omega
  have hnp : n ≤ p + 1 := by omega
  have hnm1 : n ≤ mid + m := by omega
  have hnm2 : mid + m ≤ n := by omega
  clear hmid hn hp
  go_enter Try.func54, Try.ntmps54
  go_wp2
  clear hz hy
  go_loopw [20, 21, 23] (fun i j _ wr => ∃ (ii jj : Nat), i = .int .i64 (ii : Int) ∧ j = .int .i64 (jj : Int) ∧ s0 ≤ ii ∧ ii ≤ jj ∧ jj ≤ mid ∧ Hid ((ii = s0 ∨ lt (pr ds (n - ii)).1 (pr ds (ii - 1)).1 = false) ∧ (jj = mid ∨ lt (pr ds (n - jj - 1)).1 (pr ds jj).1 = true) ∧ Ch (fun _ => False) w wr)) (fun i j _ _ => (intOf j).toNat - (intOf i).toNat)
  case atStart => exact ⟨s0, mid, rfl, rfl, Nat.le_refl _, by omega, Nat.le_refl _, Lib.hid ⟨.inl rfl, .inl rfl, Ch.refl _ _⟩⟩
  case round =>
    obtain ⟨ii, jj, rfl, rfl, hi, hij, hj, HI⟩ := hrel
    by_cases hlt : ii < jj
    · have hlt' : (ii : Int) < (jj : Int) := by omega
      obtain ⟨c, hc⟩ : ∃ x, (ii + jj) / 2 = x := ⟨_, rfl⟩
      have hh : ((ii : Int) + (jj : Int)) / 2 = (c : Int) := by omega
      have h1 : ii ≤ c := by omega
      have h2 : c < jj := by omega
      have hm0 : (0 : Int) ≤ (c : Int) := by omega
      have hml : (c : Int) < (ds.length : Int) := by omega
      have hcb : (c : Int) ≤ 1000 := by omega
      have hjb : (jj : Int) ≤ 1000 := by omega
      obtain ⟨q, hq⟩ : ∃ q, n - c - 1 = q := ⟨_, rfl⟩
      have hqI : (p : Int) - (c : Int) = (q : Int) := by omega
      have wq : IntKind.i64.wrap (q : Int) = (q : Int) := IntWalk.i64_in _ (by omega)
      have hq0 : (0 : Int) ≤ (q : Int) := by omega
      have hql : (q : Int) < (ds.length : Int) := by omega
      have hD := H.out.1.keep HI.out.2.2 id
      obtain ⟨c0, c1⟩ := hD.cells (i := q) (by omega)
      obtain ⟨d0, d1⟩ := hD.cells (i := c) (by omega)
      have HCm := Lib.hid (cmp39_any (ky ds q) (ky ds c) (vl ds q) (vl ds c))
      have HC := Lib.hid HI.out.2.2
      have HQ := Lib.hid hq
      clear hD hc hq
      cases hxy : lt (ky ds q) (ky ds c) with
      | true =>
        have hcm := cmpS_lt hxy
        have HXY := Lib.hid (show lt (pr ds q).1 (pr ds c).1 = true from hxy)
        clear hxy
        generalize ky ds c = xk at *
        generalize vl ds c = xv at *
        generalize ky ds q = yk at *
        generalize vl ds q = yv at *
        go_wp2_with fail
        go_still_tail 11, (by kernel_rfl)
        change wpList _ _ _ _ _ wr.drew
        clear c0 c1 d0 d1
        go_wp2_with (go_at_call 39; (with_reducible refine (HCm.out _).mono ?_); rintro e w2 ⟨rfl, hc2⟩)
        go_roundw
        case rel => exact ⟨ii, c, rfl, rfl, hi, h1, by omega, Lib.hid ⟨HI.out.1, .inr (by rw [HQ.out]; exact HXY.out), (HC.out.tr (Ch.drew _ _)).tr hc2⟩⟩
        case measure => simp [intOf]; omega
      | false =>
        have hcm := cmpS_ge hxy
        have hcm1 := hcm.1
        have hcm2 := hcm.2
        have HXY := Lib.hid (show lt (pr ds q).1 (pr ds c).1 = false from hxy)
        clear hxy hcm
        generalize cmpS (ky ds q) (ky ds c) = cc at *
        generalize ky ds c = xk at *
        generalize vl ds c = xv at *
        generalize ky ds q = yk at *
        generalize vl ds q = yv at *
        go_wp2_with fail
        go_still_tail 11, (by kernel_rfl)
        change wpList _ _ _ _ _ wr.drew
        clear c0 c1 d0 d1
        go_wp2_with (go_at_call 39; (with_reducible refine (HCm.out _).mono ?_); rintro e w2 ⟨rfl, hc2⟩)
        go_roundw
        case rel => exact ⟨c + 1, jj, by go_num, rfl, by omega, by omega, hj, Lib.hid ⟨.inr (by rw [Nat.add_sub_cancel, show n - (c + 1) = q by have := HQ.out; omega]; exact HXY.out), HI.out.2.1, (HC.out.tr (Ch.drew _ _)).tr hc2⟩⟩
        case measure => simp [intOf]; omega
        all_goals (exfalso; rename_i h9; rw [show decide (cc < 0) = false from decide_eq_false (by omega)] at h9; cases h9)
    · have hlt' : (jj : Int) ≤ (ii : Int) := by omega
      obtain ⟨e, he⟩ : ∃ e, n - ii = e := ⟨_, rfl⟩
      have heI : (n : Int) - (ii : Int) = (e : Int) := by omega
      have we : IntKind.i64.wrap (e : Int) = (e : Int) := IntWalk.i64_in _ (by omega)
      have hme : m ≤ e := by omega
      have heb : e ≤ b := by omega
      have hsm : ii ≤ m := by omega
      have hsd : ii ≤ mid := by omega
      have hde : mid ≤ e := by omega
      have hai : a ≤ ii := by omega
      have hC : Cut ds a ii m e mid b := by
        refine ⟨H.out.2.1, H.out.2.2, by omega, hsm, hme, heb, hb, by omega, ?_, ?_⟩
        · rcases HI.out.1 with k | k
          · have := HS0.out
            omega
          · rw [he] at k
            exact .inr (.inr k)
        · have hji : jj = ii := by omega
          rcases HI.out.2.1 with k | k
          · have := HR0.out
            omega
          · rw [hji, he] at k
            exact .inr (.inr k)
      have HCut := Lib.hid hC
      have HS : Hid (Dat wr g ds ∧ Ch (fun k => k = g) w wr) := Lib.hid ⟨H.out.1.keep HI.out.2.2 id, HI.out.2.2.mono fun _ _ h => h.elim⟩
      have hrl := rotL_length ds hsm hme (by omega)
      have HRo := Lib.hid (fun (h1 : ii < m) (h2 : m < e) => rotate_any wr g cap ds HS.out.1 ii m e h1 h2 (by omega) hl (.func (.func 39) #[] #[]))
      have HA := Lib.hid (fun W (hW : Dat W g (rotL ds ii m e)) (h1 : a < ii) (h2 : ii < mid) => HRec.out W (rotL ds ii m e) a ii mid hW hrl h1 h2 (by omega) (by omega) HCut.out.parts.1 HCut.out.parts.2.1)
      have HB := Lib.hid (fun W es (hd : Done (rotL ds ii m e) es a mid) (hW : Dat W g es) (h1 : mid < e) (h2 : e < b) => HRec.out W es mid e b hW (hd.len.trans hrl) h1 h2 (by omega) (by omega) (HCut.out.srt2 hd).1 (HCut.out.srt2 hd).2.1)
      unfold SymOk at HA HB
      have hii0 : (0 : Int) ≤ (ii : Int) := by omega
      have hiiI : (ii : Int) ≤ (m : Int) := by omega
      have heI1 : (m : Int) ≤ (e : Int) := by omega
      have heI2 : (e : Int) ≤ (b : Int) := by omega
      clear hC he HI HRec H hij hlt
      by_cases x1 : ii < m ∧ m < e
      ·
        by_cases x2 : a < ii ∧ ii < mid
        ·
          by_cases x3 : mid < e ∧ e < b
          ·
            have y1 : (ii : Int) < (m : Int) := by omega
            have y2 : (m : Int) < (e : Int) := by omega
            have y3 : (a : Int) < (ii : Int) := by omega
            have y4 : (ii : Int) < (mid : Int) := by omega
            have y5 : (mid : Int) < (e : Int) := by omega
            have y6 : (e : Int) < (b : Int) := by omega
            go_wp2_with (first | (go_at_call 57; (with_reducible refine (HRo.out x1.1 x1.2).mono ?_); rintro e1 w2 ⟨rfl, hD2, hc2⟩; have HS1 := Lib.hid (And.intro hD2 (HS.out.2.tr hc2)); clear hD2 hc2) | (go_at_call 54; (with_reducible refine (HA.out _ HS1.out.1 x2.1 x2.2).mono ?_); rintro e1 w3 ⟨rfl, es, hD3, hd3, hc3⟩; have HS2 := Lib.hid (And.intro hD3 (And.intro hd3 (HS1.out.2.tr hc3))); clear hD3 hd3 hc3) | (go_at_call 54; (with_reducible refine (HB.out _ _ HS2.out.2.1 HS2.out.1 x3.1 x3.2).mono ?_); rintro e1 w4 ⟨rfl, fs, hD4, hd4, hc4⟩))
            all_goals (go_end0; exact ⟨rfl, fs, hD4, HCut.out.join HS2.out.2.1 hd4, HS2.out.2.2.tr hc4⟩)
          ·
            have y1 : (ii : Int) < (m : Int) := by omega
            have y2 : (m : Int) < (e : Int) := by omega
            have y3 : (a : Int) < (ii : Int) := by omega
            have y4 : (ii : Int) < (mid : Int) := by omega
            go_wp2_with (first | (go_at_call 57; (with_reducible refine (HRo.out x1.1 x1.2).mono ?_); rintro e1 w2 ⟨rfl, hD2, hc2⟩; have HS1 := Lib.hid (And.intro hD2 (HS.out.2.tr hc2)); clear hD2 hc2) | (go_at_call 54; (with_reducible refine (HA.out _ HS1.out.1 x2.1 x2.2).mono ?_); rintro e1 w3 ⟨rfl, es, hD3, hd3, hc3⟩; have HS2 := Lib.hid (And.intro hD3 (And.intro hd3 (HS1.out.2.tr hc3))); clear hD3 hd3 hc3))
            all_goals (go_end0; exact ⟨rfl, _, HS2.out.1, HCut.out.join HS2.out.2.1 (done_id ((HCut.out.srt2 HS2.out.2.1).2.2 x3)), HS2.out.2.2⟩)
        ·
          by_cases x3 : mid < e ∧ e < b
          ·
            have y1 : (ii : Int) < (m : Int) := by omega
            have y2 : (m : Int) < (e : Int) := by omega
            have y5 : (mid : Int) < (e : Int) := by omega
            have y6 : (e : Int) < (b : Int) := by omega
            go_wp2_with (first | (go_at_call 57; (with_reducible refine (HRo.out x1.1 x1.2).mono ?_); rintro e1 w2 ⟨rfl, hD2, hc2⟩; have HS1 := Lib.hid (And.intro hD2 (HS.out.2.tr hc2)); clear hD2 hc2) | (go_at_call 54; (with_reducible refine (HB.out _ _ (done_id (HCut.out.srt1 x2)) HS1.out.1 x3.1 x3.2).mono ?_); rintro e1 w4 ⟨rfl, fs, hD4, hd4, hc4⟩))
            all_goals (go_end0; exact ⟨rfl, fs, hD4, HCut.out.join (done_id (HCut.out.srt1 x2)) hd4, HS1.out.2.tr hc4⟩)
          ·
            have y1 : (ii : Int) < (m : Int) := by omega
            have y2 : (m : Int) < (e : Int) := by omega
            go_wp2_with (first | (go_at_call 57; (with_reducible refine (HRo.out x1.1 x1.2).mono ?_); rintro e1 w2 ⟨rfl, hD2, hc2⟩; have HS1 := Lib.hid (And.intro hD2 (HS.out.2.tr hc2)); clear hD2 hc2))
            all_goals (go_end0; exact ⟨rfl, _, HS1.out.1, HCut.out.join (done_id (HCut.out.srt1 x2)) (done_id ((HCut.out.srt2 (done_id (HCut.out.srt1 x2))).2.2 x3)), HS1.out.2⟩)
      ·
        by_cases x2 : a < ii ∧ ii < mid
        ·
          by_cases x3 : mid < e ∧ e < b
          ·
            have HN1 : Hid (rotL ds ii m e = ds) := Lib.hid (rotL_no ds hsm hme (by omega) (by omega))
            have HS1 : Hid (Dat wr g (rotL ds ii m e) ∧ Ch (fun k => k = g) w wr) := Lib.hid (by rw [HN1.out]; exact HS.out)
            have y3 : (a : Int) < (ii : Int) := by omega
            have y4 : (ii : Int) < (mid : Int) := by omega
            have y5 : (mid : Int) < (e : Int) := by omega
            have y6 : (e : Int) < (b : Int) := by omega
            go_wp2_with (first | (go_at_call 54; (with_reducible refine (HA.out _ HS1.out.1 x2.1 x2.2).mono ?_); rintro e1 w3 ⟨rfl, es, hD3, hd3, hc3⟩; have HS2 := Lib.hid (And.intro hD3 (And.intro hd3 (HS1.out.2.tr hc3))); clear hD3 hd3 hc3) | (go_at_call 54; (with_reducible refine (HB.out _ _ HS2.out.2.1 HS2.out.1 x3.1 x3.2).mono ?_); rintro e1 w4 ⟨rfl, fs, hD4, hd4, hc4⟩))
            all_goals (go_end0; exact ⟨rfl, fs, hD4, HCut.out.join HS2.out.2.1 hd4, HS2.out.2.2.tr hc4⟩)
          ·
            have HN1 : Hid (rotL ds ii m e = ds) := Lib.hid (rotL_no ds hsm hme (by omega) (by omega))
            have HS1 : Hid (Dat wr g (rotL ds ii m e) ∧ Ch (fun k => k = g) w wr) := Lib.hid (by rw [HN1.out]; exact HS.out)
            have y3 : (a : Int) < (ii : Int) := by omega
            have y4 : (ii : Int) < (mid : Int) := by omega
            go_wp2_with (first | (go_at_call 54; (with_reducible refine (HA.out _ HS1.out.1 x2.1 x2.2).mono ?_); rintro e1 w3 ⟨rfl, es, hD3, hd3, hc3⟩; have HS2 := Lib.hid (And.intro hD3 (And.intro hd3 (HS1.out.2.tr hc3))); clear hD3 hd3 hc3))
            all_goals (go_end0; exact ⟨rfl, _, HS2.out.1, HCut.out.join HS2.out.2.1 (done_id ((HCut.out.srt2 HS2.out.2.1).2.2 x3)), HS2.out.2.2⟩)
        ·
          by_cases x3 : mid < e ∧ e < b
          ·
            have HN1 : Hid (rotL ds ii m e = ds) := Lib.hid (rotL_no ds hsm hme (by omega) (by omega))
            have HS1 : Hid (Dat wr g (rotL ds ii m e) ∧ Ch (fun k => k = g) w wr) := Lib.hid (by rw [HN1.out]; exact HS.out)
            have y5 : (mid : Int) < (e : Int) := by omega
            have y6 : (e : Int) < (b : Int) := by omega
            go_wp2_with (first | (go_at_call 54; (with_reducible refine (HB.out _ _ (done_id (HCut.out.srt1 x2)) HS1.out.1 x3.1 x3.2).mono ?_); rintro e1 w4 ⟨rfl, fs, hD4, hd4, hc4⟩))
            all_goals (go_end0; exact ⟨rfl, fs, hD4, HCut.out.join (done_id (HCut.out.srt1 x2)) hd4, HS1.out.2.tr hc4⟩)
          ·
            have HN1 : Hid (rotL ds ii m e = ds) := Lib.hid (rotL_no ds hsm hme (by omega) (by omega))
            have HS1 : Hid (Dat wr g (rotL ds ii m e) ∧ Ch (fun k => k = g) w wr) := Lib.hid (by rw [HN1.out]; exact HS.out)
            go_wp2
            all_goals (go_end0; exact ⟨rfl, _, HS1.out.1, HCut.out.join (done_id (HCut.out.srt1 x2)) (done_id ((HCut.out.srt2 (done_id (HCut.out.srt1 x2))).2.2 x3)), HS1.out.2⟩)
set_option maxRecDepth 100000 in
set_option maxHeartbeats 16000000 in
theorem sym_lo (w : World) (g cap : Nat) (ds : List Pr) (h : Dat w g ds) (a m b : Nat) (ham : a + 1 < m) (hmb : m + 1 < b) (hb : b ≤ ds.length) (hl : ds.length ≤ 1000) (hs1 : Srt (pr ds) a m) (hs2 : Srt (pr ds) m b)
    (mid n p s0 r0 : Nat) (hmid : (a + b) / 2 = mid) (hn : mid + m = n) (hp : p + 1 = n) (hc : m ≤ mid) (hs0 : s0 = a) (hr0 : r0 = m)
    (hrec : ∀ W es x y z, Dat W g es → es.length = ds.length → x < y → y < z → z ≤ ds.length → z - x < b - a → Srt (pr es) x y → Srt (pr es) y z → SymOk g cap ds.length x y z W es) :
    SymOk g cap ds.length a m b w ds := by
  have hsa : a ≤ s0 := by omega
  have hsr : s0 ≤ r0 := by omega
  have hrm : r0 ≤ m := by omega
  have hrd : r0 ≤ mid := by omega
  have hns : n ≤ s0 + b := by omega
  have HS0 : Hid (s0 = a ∨ n - s0 = b) := Lib.hid (by omega)
  have HR0 : Hid (r0 = m ∨ n - r0 = m) := Lib.hid (by omega)
  have hmd1 : a < mid := by omega
  have hmd2 : mid < b := by omega
  unfold SymOk
  have H := Lib.hid (And.intro h (And.intro hs1 hs2))
  have HRec := Lib.hid hrec
  clear h hs1 hs2 hrec
  have hlI : (ds.length : Int) ≤ 1000 := by omega
  have ha0 : (0 : Int) ≤ (a : Int) := by omega
  have habI : (a : Int) + 1 < (m : Int) := by omega
  have hmI : (m : Int) + 1 < (b : Int) := by omega
  have hbI : (b : Int) ≤ (ds.length : Int) := by omega
  obtain ⟨z, hz⟩ : ∃ z : Int, (m : Int) - (a : Int) = z := ⟨_, rfl⟩
  have hz1 : ¬ z = 1 := by omega
  have hz2 : (z == 1) = false := beq_eq_false_iff_ne.2 hz1
  have hzb1 : 1 ≤ z := by omega
  have hzb2 : z ≤ 1000 := by omega
  obtain ⟨y, hy⟩ : ∃ y : Int, (b : Int) - (m : Int) = y := ⟨_, rfl⟩
  have hy1 : ¬ y = 1 := by omega
  have hy2 : (y == 1) = false := beq_eq_false_iff_ne.2 hy1
  have hyb1 : 1 ≤ y := by omega
  have hyb2 : y ≤ 1000 := by omega
  have hmdI : ((a : Int) + (b : Int)) / 2 = (mid : Int) := by omega
  have hnI : (mid : Int) + (m : Int) = (n : Int) := by omega
  have hpI : (n : Int) - 1 = (p : Int) := by omega
  have hnb : (n : Int) ≤ 2000 := by omega
  have hpb : (p : Int) ≤ 2000 := by omega
  have hmdb : (mid : Int) ≤ 1000 := by omega
  have wn : IntKind.i64.wrap (n : Int) = (n : Int) := IntWalk.i64_in _ (by omega)
  have wp : IntKind.i64.wrap (p : Int) = (p : Int) := IntWalk.i64_in _ (by omega)
  have hcI : (m : Int) ≤ (mid : Int) := by omega
  have HRR := Lib.hid (And.intro hs0 hr0)
  rw [hr0] at hsr hrm hrd HR0
  rw [hs0] at hsr hsa hns HS0
  clear hr0 hs0 hc
  have HN := Lib.hid (And.intro hmid (And.intro hn hp))
  have hpn : p < n := by omega
  have hnp : n ≤ p + 1 := by omega
  have hnm1 : n ≤ mid + m := by omega
  have hnm2 : mid + m ≤ n := by omega
  clear hmid hn hp
  go_enter Try.func54, Try.ntmps54
  go_wp2
  clear hz hy
  go_loopw [20, 21, 23] (fun i j _ wr => ∃ (ii jj : Nat), i = .int .i64 (ii : Int) ∧ j = .int .i64 (jj : Int) ∧ a ≤ ii ∧ ii ≤ jj ∧ jj ≤ m ∧ Hid ((ii = a ∨ lt (pr ds (n - ii)).1 (pr ds (ii - 1)).1 = false) ∧ (jj = m ∨ lt (pr ds (n - jj - 1)).1 (pr ds jj).1 = true) ∧ Ch (fun _ => False) w wr)) (fun i j _ _ => (intOf j).toNat - (intOf i).toNat)
  case atStart => exact ⟨a, m, rfl, rfl, Nat.le_refl _, by omega, Nat.le_refl _, Lib.hid ⟨.inl rfl, .inl rfl, Ch.refl _ _⟩⟩
  case round =>
    obtain ⟨ii, jj, rfl, rfl, hi, hij, hj, HI⟩ := hrel
    by_cases hlt : ii < jj
    · have hlt' : (ii : Int) < (jj : Int) := by omega
      obtain ⟨c, hc⟩ : ∃ x, (ii + jj) / 2 = x := ⟨_, rfl⟩
      have hh : ((ii : Int) + (jj : Int)) / 2 = (c : Int) := by omega
      have h1 : ii ≤ c := by omega
      have h2 : c < jj := by omega
      have hm0 : (0 : Int) ≤ (c : Int) := by omega
      have hml : (c : Int) < (ds.length : Int) := by omega
      have hcb : (c : Int) ≤ 1000 := by omega
      have hjb : (jj : Int) ≤ 1000 := by omega
      obtain ⟨q, hq⟩ : ∃ q, n - c - 1 = q := ⟨_, rfl⟩
      have hqI : (p : Int) - (c : Int) = (q : Int) := by omega
      have wq : IntKind.i64.wrap (q : Int) = (q : Int) := IntWalk.i64_in _ (by omega)
      have hq0 : (0 : Int) ≤ (q : Int) := by omega
      have hql : (q : Int) < (ds.length : Int) := by omega
      have hD := H.out.1.keep HI.out.2.2 id
      obtain ⟨c0, c1⟩ := hD.cells (i := q) (by omega)
      obtain ⟨d0, d1⟩ := hD.cells (i := c) (by omega)
      have HCm := Lib.hid (cmp39_any (ky ds q) (ky ds c) (vl ds q) (vl ds c))
      have HC := Lib.hid HI.out.2.2
      have HQ := Lib.hid hq
      clear hD hc hq
      cases hxy : lt (ky ds q) (ky ds c) with
      | true =>
        have hcm := cmpS_lt hxy
        have HXY := Lib.hid (show lt (pr ds q).1 (pr ds c).1 = true from hxy)
        clear hxy
        generalize ky ds c = xk at *
        generalize vl ds c = xv at *
        generalize ky ds q = yk at *
        generalize vl ds q = yv at *
        go_wp2_with fail
        go_still_tail 11, (by kernel_rfl)
        change wpList _ _ _ _ _ wr.drew
        clear c0 c1 d0 d1
        go_wp2_with (go_at_call 39; (with_reducible refine (HCm.out _).mono ?_); rintro e w2 ⟨rfl, hc2⟩)
        go_roundw
        case rel => exact ⟨ii, c, rfl, rfl, hi, h1, by omega, Lib.hid ⟨HI.out.1, .inr (by rw [HQ.out]; exact HXY.out), (HC.out.tr (Ch.drew _ _)).tr hc2⟩⟩
        case measure => simp [intOf]; omega
      | false =>
        have hcm := cmpS_ge hxy
        have hcm1 := hcm.1
        have hcm2 := hcm.2
        have HXY := Lib.hid (show lt (pr ds q).1 (pr ds c).1 = false from hxy)
        clear hxy hcm
        generalize cmpS (ky ds q) (ky ds c) = cc at *
        generalize ky ds c = xk at *
        generalize vl ds c = xv at *
        generalize ky ds q = yk at *
        generalize vl ds q = yv at *
        go_wp2_with fail
        go_still_tail 11, (by kernel_rfl)
        change wpList _ _ _ _ _ wr.drew
        clear c0 c1 d0 d1
        go_wp2_with (go_at_call 39; (with_reducible refine (HCm.out _).mono ?_); rintro e w2 ⟨rfl, hc2⟩)
        go_roundw
        case rel => exact ⟨c + 1, jj, by go_num, rfl, by omega, by omega, hj, Lib.hid ⟨.inr (by rw [Nat.add_sub_cancel, show n - (c + 1) = q by have := HQ.out; omega]; exact HXY.out), HI.out.2.1, (HC.out.tr (Ch.drew _ _)).tr hc2⟩⟩
        case measure => simp [intOf]; omega
        all_goals (exfalso; rename_i h9; rw [show decide (cc < 0) = false from decide_eq_false (by omega)] at h9; cases h9)
    · have hlt' : (jj : Int) ≤ (ii : Int) := by omega
      obtain ⟨e, he⟩ : ∃ e, n - ii = e := ⟨_, rfl⟩
      have heI : (n : Int) - (ii : Int) = (e : Int) := by omega
      have we : IntKind.i64.wrap (e : Int) = (e : Int) := IntWalk.i64_in _ (by omega)
      have hme : m ≤ e := by omega
      have heb : e ≤ b := by omega
      have hsm : ii ≤ m := by omega
      have hsd : ii ≤ mid := by omega
      have hde : mid ≤ e := by omega
      have hai : a ≤ ii := by omega
      have hC : Cut ds a ii m e mid b := by
        refine ⟨H.out.2.1, H.out.2.2, by omega, hsm, hme, heb, hb, by omega, ?_, ?_⟩
        · rcases HI.out.1 with k | k
          · have := HS0.out
            omega
          · rw [he] at k
            exact .inr (.inr k)
        · have hji : jj = ii := by omega
          rcases HI.out.2.1 with k | k
          · have := HR0.out
            omega
          · rw [hji, he] at k
            exact .inr (.inr k)
      have HCut := Lib.hid hC
      have HS : Hid (Dat wr g ds ∧ Ch (fun k => k = g) w wr) := Lib.hid ⟨H.out.1.keep HI.out.2.2 id, HI.out.2.2.mono fun _ _ h => h.elim⟩
      have hrl := rotL_length ds hsm hme (by omega)
      have HRo := Lib.hid (fun (h1 : ii < m) (h2 : m < e) => rotate_any wr g cap ds HS.out.1 ii m e h1 h2 (by omega) hl (.func (.func 39) #[] #[]))
      have HA := Lib.hid (fun W (hW : Dat W g (rotL ds ii m e)) (h1 : a < ii) (h2 : ii < mid) => HRec.out W (rotL ds ii m e) a ii mid hW hrl h1 h2 (by omega) (by omega) HCut.out.parts.1 HCut.out.parts.2.1)
      have HB := Lib.hid (fun W es (hd : Done (rotL ds ii m e) es a mid) (hW : Dat W g es) (h1 : mid < e) (h2 : e < b) => HRec.out W es mid e b hW (hd.len.trans hrl) h1 h2 (by omega) (by omega) (HCut.out.srt2 hd).1 (HCut.out.srt2 hd).2.1)
      unfold SymOk at HA HB
      have hii0 : (0 : Int) ≤ (ii : Int) := by omega
      have hiiI : (ii : Int) ≤ (m : Int) := by omega
      have heI1 : (m : Int) ≤ (e : Int) := by omega
      have heI2 : (e : Int) ≤ (b : Int) := by omega
      clear hC he HI HRec H hij hlt
      by_cases x1 : ii < m ∧ m < e
      ·
        by_cases x2 : a < ii ∧ ii < mid
        ·
          by_cases x3 : mid < e ∧ e < b
          ·
            have y1 : (ii : Int) < (m : Int) := by omega
            have y2 : (m : Int) < (e : Int) := by omega
            have y3 : (a : Int) < (ii : Int) := by omega
            have y4 : (ii : Int) < (mid : Int) := by omega
            have y5 : (mid : Int) < (e : Int) := by omega
            have y6 : (e : Int) < (b : Int) := by omega
            go_wp2_with (first | (go_at_call 57; (with_reducible refine (HRo.out x1.1 x1.2).mono ?_); rintro e1 w2 ⟨rfl, hD2, hc2⟩; have HS1 := Lib.hid (And.intro hD2 (HS.out.2.tr hc2)); clear hD2 hc2) | (go_at_call 54; (with_reducible refine (HA.out _ HS1.out.1 x2.1 x2.2).mono ?_); rintro e1 w3 ⟨rfl, es, hD3, hd3, hc3⟩; have HS2 := Lib.hid (And.intro hD3 (And.intro hd3 (HS1.out.2.tr hc3))); clear hD3 hd3 hc3) | (go_at_call 54; (with_reducible refine (HB.out _ _ HS2.out.2.1 HS2.out.1 x3.1 x3.2).mono ?_); rintro e1 w4 ⟨rfl, fs, hD4, hd4, hc4⟩))
            all_goals (go_end0; exact ⟨rfl, fs, hD4, HCut.out.join HS2.out.2.1 hd4, HS2.out.2.2.tr hc4⟩)
          ·
            have y1 : (ii : Int) < (m : Int) := by omega
            have y2 : (m : Int) < (e : Int) := by omega
            have y3 : (a : Int) < (ii : Int) := by omega
            have y4 : (ii : Int) < (mid : Int) := by omega
            go_wp2_with (first | (go_at_call 57; (with_reducible refine (HRo.out x1.1 x1.2).mono ?_); rintro e1 w2 ⟨rfl, hD2, hc2⟩; have HS1 := Lib.hid (And.intro hD2 (HS.out.2.tr hc2)); clear hD2 hc2) | (go_at_call 54; (with_reducible refine (HA.out _ HS1.out.1 x2.1 x2.2).mono ?_); rintro e1 w3 ⟨rfl, es, hD3, hd3, hc3⟩; have HS2 := Lib.hid (And.intro hD3 (And.intro hd3 (HS1.out.2.tr hc3))); clear hD3 hd3 hc3))
            all_goals (go_end0; exact ⟨rfl, _, HS2.out.1, HCut.out.join HS2.out.2.1 (done_id ((HCut.out.srt2 HS2.out.2.1).2.2 x3)), HS2.out.2.2⟩)
        ·
          by_cases x3 : mid < e ∧ e < b
          ·
            have y1 : (ii : Int) < (m : Int) := by omega
            have y2 : (m : Int) < (e : Int) := by omega
            have y5 : (mid : Int) < (e : Int) := by omega
            have y6 : (e : Int) < (b : Int) := by omega
            go_wp2_with (first | (go_at_call 57; (with_reducible refine (HRo.out x1.1 x1.2).mono ?_); rintro e1 w2 ⟨rfl, hD2, hc2⟩; have HS1 := Lib.hid (And.intro hD2 (HS.out.2.tr hc2)); clear hD2 hc2) | (go_at_call 54; (with_reducible refine (HB.out _ _ (done_id (HCut.out.srt1 x2)) HS1.out.1 x3.1 x3.2).mono ?_); rintro e1 w4 ⟨rfl, fs, hD4, hd4, hc4⟩))
            all_goals (go_end0; exact ⟨rfl, fs, hD4, HCut.out.join (done_id (HCut.out.srt1 x2)) hd4, HS1.out.2.tr hc4⟩)
          ·
            have y1 : (ii : Int) < (m : Int) := by omega
            have y2 : (m : Int) < (e : Int) := by omega
            go_wp2_with (first | (go_at_call 57; (with_reducible refine (HRo.out x1.1 x1.2).mono ?_); rintro e1 w2 ⟨rfl, hD2, hc2⟩; have HS1 := Lib.hid (And.intro hD2 (HS.out.2.tr hc2)); clear hD2 hc2))
            all_goals (go_end0; exact ⟨rfl, _, HS1.out.1, HCut.out.join (done_id (HCut.out.srt1 x2)) (done_id ((HCut.out.srt2 (done_id (HCut.out.srt1 x2))).2.2 x3)), HS1.out.2⟩)
      ·
        by_cases x2 : a < ii ∧ ii < mid
        ·
          by_cases x3 : mid < e ∧ e < b
          ·
            have HN1 : Hid (rotL ds ii m e = ds) := Lib.hid (rotL_no ds hsm hme (by omega) (by omega))
            have HS1 : Hid (Dat wr g (rotL ds ii m e) ∧ Ch (fun k => k = g) w wr) := Lib.hid (by rw [HN1.out]; exact HS.out)
            have y3 : (a : Int) < (ii : Int) := by omega
            have y4 : (ii : Int) < (mid : Int) := by omega
            have y5 : (mid : Int) < (e : Int) := by omega
            have y6 : (e : Int) < (b : Int) := by omega
            go_wp2_with (first | (go_at_call 54; (with_reducible refine (HA.out _ HS1.out.1 x2.1 x2.2).mono ?_); rintro e1 w3 ⟨rfl, es, hD3, hd3, hc3⟩; have HS2 := Lib.hid (And.intro hD3 (And.intro hd3 (HS1.out.2.tr hc3))); clear hD3 hd3 hc3) | (go_at_call 54; (with_reducible refine (HB.out _ _ HS2.out.2.1 HS2.out.1 x3.1 x3.2).mono ?_); rintro e1 w4 ⟨rfl, fs, hD4, hd4, hc4⟩))
            all_goals (go_end0; exact ⟨rfl, fs, hD4, HCut.out.join HS2.out.2.1 hd4, HS2.out.2.2.tr hc4⟩)
          ·
            have HN1 : Hid (rotL ds ii m e = ds) := Lib.hid (rotL_no ds hsm hme (by omega) (by omega))
            have HS1 : Hid (Dat wr g (rotL ds ii m e) ∧ Ch (fun k => k = g) w wr) := Lib.hid (by rw [HN1.out]; exact HS.out)
            have y3 : (a : Int) < (ii : Int) := by omega
            have y4 : (ii : Int) < (mid : Int) := by omega
            go_wp2_with (first | (go_at_call 54; (with_reducible refine (HA.out _ HS1.out.1 x2.1 x2.2).mono ?_); rintro e1 w3 ⟨rfl, es, hD3, hd3, hc3⟩; have HS2 := Lib.hid (And.intro hD3 (And.intro hd3 (HS1.out.2.tr hc3))); clear hD3 hd3 hc3))
            all_goals (go_end0; exact ⟨rfl, _, HS2.out.1, HCut.out.join HS2.out.2.1 (done_id ((HCut.out.srt2 HS2.out.2.1).2.2 x3)), HS2.out.2.2⟩)
        ·
          by_cases x3 : mid < e ∧ e < b
          ·
            have HN1 : Hid (rotL ds ii m e = ds) := Lib.hid (rotL_no ds hsm hme (by omega) (by omega))
            have HS1 : Hid (Dat wr g (rotL ds ii m e) ∧ Ch (fun k => k = g) w wr) := Lib.hid (by rw [HN1.out]; exact HS.out)
            have y5 : (mid : Int) < (e : Int) := by omega
            have y6 : (e : Int) < (b : Int) := by omega
            go_wp2_with (first | (go_at_call 54; (with_reducible refine (HB.out _ _ (done_id (HCut.out.srt1 x2)) HS1.out.1 x3.1 x3.2).mono ?_); rintro e1 w4 ⟨rfl, fs, hD4, hd4, hc4⟩))
            all_goals (go_end0; exact ⟨rfl, fs, hD4, HCut.out.join (done_id (HCut.out.srt1 x2)) hd4, HS1.out.2.tr hc4⟩)
          ·
            have HN1 : Hid (rotL ds ii m e = ds) := Lib.hid (rotL_no ds hsm hme (by omega) (by omega))
            have HS1 : Hid (Dat wr g (rotL ds ii m e) ∧ Ch (fun k => k = g) w wr) := Lib.hid (by rw [HN1.out]; exact HS.out)
            go_wp2
            all_goals (go_end0; exact ⟨rfl, _, HS1.out.1, HCut.out.join (done_id (HCut.out.srt1 x2)) (done_id ((HCut.out.srt2 (done_id (HCut.out.srt1 x2))).2.2 x3)), HS1.out.2⟩)
theorem sym_go (g cap : Nat) (L : Nat) (hL : L ≤ 1000) : ∀ (N : Nat) (w : World) (ds : List Pr) (a m b : Nat), b - a ≤ N → Dat w g ds → ds.length = L → a < m → m < b → b ≤ L → Srt (pr ds) a m → Srt (pr ds) m b → SymOk g cap L a m b w ds
  | 0, w, ds, a, m, b, hN, _, _, h1, h2, _, _, _ => by omega
  | N + 1, w, ds, a, m, b, hN, h, hl, h1, h2, hb, s1, s2 => by
    subst hl
    by_cases e1 : m = a + 1
    · exact sym_left w g cap ds h a m b e1 h2 hb hL (e1 ▸ s2)
    · by_cases e2 : b = m + 1
      · exact sym_right w g cap ds h a m b (by omega) e2 hb hL s1
      · have ih := fun W es x y z (hW : Dat W g es) (hle : es.length = ds.length) (hxy : x < y) (hyz : y < z) (hz : z ≤ ds.length) (hm : z - x < b - a) (k1 : Srt (pr es) x y) (k2 : Srt (pr es) y z) => sym_go g cap ds.length hL N W es x y z (by omega) hW hle hxy hyz hz k1 k2
        by_cases e3 : (a + b) / 2 < m
        · exact sym_hi w g cap ds h a m b (by omega) (by omega) hb hL s1 s2 ((a + b) / 2) ((a + b) / 2 + m) ((a + b) / 2 + m - 1) ((a + b) / 2 + m - b) _ rfl rfl (by omega) e3 (by omega) rfl ih
        · exact sym_lo w g cap ds h a m b (by omega) (by omega) hb hL s1 s2 ((a + b) / 2) ((a + b) / 2 + m) ((a + b) / 2 + m - 1) _ _ rfl rfl (by omega) (by omega) rfl rfl ih
theorem sym_any (w : World) (g cap : Nat) (ds : List Pr) (h : Dat w g ds) (a m b : Nat) (h1 : a < m) (h2 : m < b) (hb : b ≤ ds.length) (hl : ds.length ≤ 1000) (s1 : Srt (pr ds) a m) (s2 : Srt (pr ds) m b) : SymOk g cap ds.length a m b w ds := sym_go g cap ds.length hl (b - a) w ds a m b (Nat.le_refl _) h rfl h1 h2 hb s1 s2
end Go.Proofs.Ytlgamaldngkdnaa
