/- Walk of the law SeqMeets. -/
import Derived.Test.YtlgamaldngkdnaaJoin
import Derived.Test.YtlgamaldngkdnaaMeet
import Derived.Test.YtlgamaldngkdnaaAwaken
import Derived.Test.YtlgamaldngkdnaaSortR
import Derived.Test.YtlgamaldngkdnaaLists
namespace Go.Proofs.Ytlgamaldngkdnaa
open Go Go.RowKit

theorem geq_text (t : TypeId) (a b : ByteArray) : binOp .geq t (.string a) (.string b) = pure (.bool !(Op.bytesLess a.toList b.toList)) := by simp [binOp, Op.stringOp]
attribute [local go_sem] geq_text

set_option maxRecDepth 100000 in
set_option maxHeartbeats 2000000 in
theorem seqMeets_any (a1 a2 : Option Addr) (c1 c2 : Nat) (xs zs : List Pr) (w : World) (hx : Rd w a1 xs) (hz : Rd w a2 zs) :
    Calls Try.prog 8 #[.slice a1 xs.length c1, .slice a2 zs.length c2] w fun e w' => e = .returned (.bool true) ∧ Ch (fun _ => False) w w' := by
  have HR := Lib.hid (And.intro hx hz)
  clear hx hz
  by_cases hl1 : xs.length ≤ 100
  · by_cases hl2 : zs.length ≤ 100
    · have hi1 : (xs.length : Int) ≤ 100 := by omega
      have hi2 : (zs.length : Int) ≤ 100 := by omega
      go_enter Try.func8, Try.ntmps8
      go_wp2_with fail
      refine (awake_any w).mono ?_
      rintro e w1 ⟨rfl, hw1⟩
      go_wp2_with fail
      refine (rsorted_any a1 c1 xs (by omega) w1 (HR.out.1.keep hw1 (fun _ _ => id))).mono ?_
      rintro e w2 ⟨v2, us, rfl, ho2, hal, harise, hc2⟩
      have hus : us.length ≤ 100 := by omega
      obtain ⟨p2, k2, rfl, hr2, -⟩ := ho2.rd
      have hw2 := hw1.tr hc2
      clear ho2 hw1 hc2 hal
      go_wp2_with fail
      refine (pairs_any p2 k2 us (by omega) w2 hr2).mono ?_
      rintro e w3 ⟨v3, rfl, ho3, hc3⟩
      have hw3 := hw2.tr hc3
      clear hr2 hw2 hc3
      go_wp2_with fail
      refine (rsorted_any a2 c2 zs (by omega) w3 (HR.out.2.keep hw3 (fun _ _ => id))).mono ?_
      rintro e w4 ⟨v4, bs, rfl, ho4, hbl, hbrise, hc4⟩
      have hbs : bs.length ≤ 100 := by omega
      obtain ⟨p4, k4, rfl, hr4, -⟩ := ho4.rd
      have hw4 := hw3.tr hc4
      have ho3' := ho3.keep hc4 (fun _ _ _ => id)
      clear ho4 hw3 hc4 hbl ho3
      go_wp2_with fail
      refine (pairs_any p4 k4 bs (by omega) w4 hr4).mono ?_
      rintro e w5 ⟨v5, rfl, ho5, hc5⟩
      have hw5 := hw4.tr hc5
      have ho3 := ho3'.keep hc5 (fun _ _ _ => id)
      clear hr4 hw4 hc5 ho3'
      go_wp2_with fail
      refine (of_any _ v3 us (by omega) w5 ho3).mono ?_
      rintro e w6 ⟨b6, v6, rfl, hb6, hg6, hc6⟩
      have hw6 := hw5.tr hc6
      have ho3' := ho3.keep hc6 (fun _ _ _ => id)
      have ho5' := ho5.keep hc6 (fun _ _ _ => id)
      clear ho3 ho5 hw5 hc6
      unfold ofRun
      obtain ⟨g3, k3, rfl, hr3, -⟩ := ho3'.rd
      obtain ⟨g5, k5, rfl, hr5, -⟩ := ho5'.rd
      have HA := Lib.hid (And.intro harise hbrise)
      clear harise hbrise ho3'
      have hk5 : bs.length ≤ k5 := by
        rcases ho5'.2 with ⟨h, h1⟩ | ⟨_, _, _, h, _, _, h1, _⟩
        · injection h with _ _ h3; omega
        · injection h with _ _ h3; omega
      clear ho5'
      go_wp2_with fail
      refine (joined_any enters32 (of_iter b6 _ v6 us (by omega)) (by omega) (by omega) HA.out.1 w6 (ofK_lt hg6) (ofG_stab _ _ _ _) hg6 g5 k5 hr5 hk5).mono ?_
      rintro e w7 ⟨v7, rfl, ho7, hc7⟩
      obtain ⟨g7, k7, rfl, hr7, -⟩ := ho7.rd
      have hw7 := hw6.tr hc7
      have hr37 := hr3.keep hc7 (fun _ _ => id)
      have hr57 := hr5.keep hc7 (fun _ _ => id)
      clear hr3 hr5 ho7 hc7 hg6 hw6 hb6 hk5
      have hLl : (joinL us bs).length ≤ 200 := by have := joinL_length us bs; omega
      have HM := Lib.hid (And.intro (meet_rise HA.out.1 HA.out.2) (And.intro (meet_some us bs) (And.intro (meet_left (us := us) (bs := bs)) (And.intro (meet_right (us := us) (bs := bs)) (meet_all us bs)))))
      clear HA
      generalize joinL us bs = L at hLl HM hr7
      have HRD := Lib.hid (And.intro hr37 (And.intro hr57 hr7))
      clear hr37 hr57 hr7
      go_wp2_with fail
      go_loopw [8, 9, 34] (fun l r i wr => ∃ (ii : Nat), i = .int .i64 (ii : Int) ∧ ii ≤ L.length ∧ l = .int .i64 (lcnt L ii : Int) ∧ r = .int .i64 (rcnt L ii : Int) ∧ Ch (fun _ => False) w7 wr) (fun _ _ i _ => L.length - (intOf i).toNat)
      case atStart => exact ⟨0, rfl, Nat.zero_le _, rfl, rfl, Ch.refl _ _⟩
      case round =>
        obtain ⟨ii, rfl, hi, rfl, rfl, hcr⟩ := hrel
        by_cases hlt : ii < L.length
        · have hlt' : (ii : Int) < (L.length : Int) := by omega
          have hi0 : (0 : Int) ≤ (ii : Int) := by omega
          have hrd : RdB wr g7 L := HRD.out.2.2.keep hcr (fun _ _ => id)
          obtain ⟨b, off, hg, c0, c1, c2, c3, c4⟩ := hrd.five ii hlt
          subst hg
          have hA := HRD.out.1.keep hcr (fun _ _ => id)
          have hB := HRD.out.2.1.keep hcr (fun _ _ => id)
          have HX : Hid ((ii = 0 ∨ ∃ k0, 0 < ii ∧ wr.cell? ⟨b, off + (ii - 1) * 5, none⟩ = some (.string k0) ∧ lt k0 (bt L ii).k = true) ∧ ((bt L ii).hl = true ∨ (bt L ii).hr = true) ∧
              ((bt L ii).hl = true → lcnt L ii < us.length ∧ ∃ b3 off3, g3 = some ⟨b3, off3, none⟩ ∧ wr.cell? ⟨b3, off3 + lcnt L ii * 2, none⟩ = some (.string (bt L ii).k) ∧ wr.cell? ⟨b3, off3 + lcnt L ii * 2 + 1, none⟩ = some (.int .i64 (bt L ii).l)) ∧
              ((bt L ii).hr = true → rcnt L ii < bs.length ∧ ∃ b3 off3, g5 = some ⟨b3, off3, none⟩ ∧ wr.cell? ⟨b3, off3 + rcnt L ii * 2, none⟩ = some (.string (bt L ii).k) ∧ wr.cell? ⟨b3, off3 + rcnt L ii * 2 + 1, none⟩ = some (.int .i64 (bt L ii).r)) ∧
              lcnt L (ii + 1) = lcnt L ii + (if (bt L ii).hl then 1 else 0) ∧ rcnt L (ii + 1) = rcnt L ii + (if (bt L ii).hr then 1 else 0)) := by
            refine Lib.hid ⟨?_, HM.out.2.1 ii hlt, fun h => ?_, fun h => ?_, lcnt_succ L ii hlt, rcnt_succ L ii hlt⟩
            · rcases Nat.eq_zero_or_pos ii with h | h
              · exact .inl h
              · refine .inr ⟨(bt L (ii - 1)).k, h, ?_, ?_⟩
                · obtain ⟨b', off', he, h0, _⟩ := hrd.five (ii - 1) (by omega)
                  cases he
                  exact h0
                · have := HM.out.1 (ii - 1) (by omega)
                  rwa [show ii - 1 + 1 = ii by omega] at this
            · obtain ⟨h1, h2, h3⟩ := HM.out.2.2.1 ii hlt h
              obtain ⟨b3, off3, he, h4, h5⟩ := hA _ h1
              exact ⟨h1, b3, off3, he, by rw [← h2]; exact h4, by rw [← h3]; exact h5⟩
            · obtain ⟨h1, h2, h3⟩ := HM.out.2.2.2.1 ii hlt h
              obtain ⟨b3, off3, he, h4, h5⟩ := hB _ h1
              exact ⟨h1, b3, off3, he, by rw [← h2]; exact h4, by rw [← h3]; exact h5⟩
          clear hrd hA hB
          generalize (bt L ii).k = xk at c0 HX
          generalize (bt L ii).l = xl at c1 HX
          generalize (bt L ii).r = xr at c2 HX
          generalize (bt L ii).hl = xhl at c3 HX
          generalize (bt L ii).hr = xhr at c4 HX
          go_wp2_with fail
          clear c0 c1 c2 c3 c4
          have hrow := World.alloc_heap_new wr (.cells #[.string xk, .int .i64 xl, .int .i64 xr, .bool xhl, .bool xhr] 52)
          have hca : Ch (fun _ => False) wr (wr.alloc (.cells #[.string xk, .int .i64 xl, .int .i64 xr, .bool xhl, .bool xhr] 52)) := Ch.alloc _ _ _
          obtain ⟨wa, hwa⟩ : ∃ wa, wr.alloc (.cells #[.string xk, .int .i64 xl, .int .i64 xr, .bool xhl, .bool xhr] 52) = wa := ⟨_, rfl⟩
          rw [hwa] at hrow hca ⊢
          clear hwa
          obtain ⟨s, hs⟩ : ∃ s, wr.heap.size = s := ⟨_, rfl⟩
          rw [hs] at hrow ⊢
          have d0 : wa.cell? ⟨s, 0, none⟩ = some (.string xk) := by rw [cell_of_row _ _ _ _ _ _ hrow]; rfl
          have d1 : wa.cell? ⟨s, 1, none⟩ = some (.int .i64 xl) := by rw [cell_of_row _ _ _ _ _ _ hrow]; rfl
          have d2 : wa.cell? ⟨s, 2, none⟩ = some (.int .i64 xr) := by rw [cell_of_row _ _ _ _ _ _ hrow]; rfl
          have d3 : wa.cell? ⟨s, 3, none⟩ = some (.bool xhl) := by rw [cell_of_row _ _ _ _ _ _ hrow]; rfl
          have d4 : wa.cell? ⟨s, 4, none⟩ = some (.bool xhr) := by rw [cell_of_row _ _ _ _ _ _ hrow]; rfl
          have hw8 := hcr.tr hca
          have HL : Hid (lcnt L ii ≤ 200 ∧ rcnt L ii ≤ 200) := Lib.hid ⟨Nat.le_trans List.countP_le_length (by rw [List.length_take]; omega), Nat.le_trans List.countP_le_length (by rw [List.length_take]; omega)⟩
          clear hrow hs
          have hle := le_def
          rcases HX.out.1 with h0 | ⟨k0, h0, hc0, hk0⟩
          · have h0' : (ii : Int) = 0 := by omega
            have h0'' : ¬ (0 : Int) < (ii : Int) := by omega
            cases xhl
            · cases xhr
              · exact absurd HX.out.2.1 (by simp)
              · go_quiet (fail)
                clear h0' h0'' h0
                obtain ⟨hrl, b5, o5, hg5, f0, f1⟩ := HX.out.2.2.2.1 rfl
                subst hg5
                have f0a : wa.cell? ⟨b5, o5 + rcnt L ii * 2, none⟩ = _ := hca.cell f0 id
                have f1a : wa.cell? ⟨b5, o5 + rcnt L ii * 2 + 1, none⟩ = _ := hca.cell f1 id
                have hr1 : (rcnt L ii : Int) < (bs.length : Int) := by omega
                have hr2 : (0 : Int) ≤ (rcnt L ii : Int) := by omega
                have hr3 : ¬ (rcnt L ii : Int) = (bs.length : Int) := by omega
                have hr4 : ¬ rcnt L ii = bs.length := by omega
                clear f0 f1
                go_wp2_with fail
                go_quiet (fail)
                have hr5 : rcnt L ii ≤ 200 := HL.out.2
                go_wp2
                go_roundw
                case rel => exact ⟨ii + 1, by go_num, by omega, by rw [HX.out.2.2.2.2.1]; rfl, by rw [HX.out.2.2.2.2.2]; go_num, hw8.tr (Ch.drewN _ _ _)⟩
                case measure => simp [intOf]; omega
            · go_quiet (fail)
              clear h0' h0'' h0
              obtain ⟨hll, b3, o3, hg3, f0, f1⟩ := HX.out.2.2.1 rfl
              subst hg3
              have f0a : wa.cell? ⟨b3, o3 + lcnt L ii * 2, none⟩ = _ := hca.cell f0 id
              have f1a : wa.cell? ⟨b3, o3 + lcnt L ii * 2 + 1, none⟩ = _ := hca.cell f1 id
              have hl1' : (lcnt L ii : Int) < (us.length : Int) := by omega
              have hl2' : (0 : Int) ≤ (lcnt L ii : Int) := by omega
              have hl3' : ¬ (lcnt L ii : Int) = (us.length : Int) := by omega
              have hl4' : ¬ lcnt L ii = us.length := by omega
              clear f0 f1
              go_wp2_with fail
              go_quiet (fail)
              have hl5' : lcnt L ii ≤ 200 := HL.out.1
              clear f0a f1a hl3' hl4'
              cases xhr
              · go_wp2
                go_roundw
                case rel => exact ⟨ii + 1, by go_num, by omega, by rw [HX.out.2.2.2.2.1]; go_num, by rw [HX.out.2.2.2.2.2]; rfl, hw8.tr (Ch.drewN _ _ _)⟩
                case measure => simp [intOf]; omega
              · obtain ⟨hrl, b5, o5, hg5, f0, f1⟩ := HX.out.2.2.2.1 rfl
                subst hg5
                have f0a : wa.cell? ⟨b5, o5 + rcnt L ii * 2, none⟩ = _ := hca.cell f0 id
                have f1a : wa.cell? ⟨b5, o5 + rcnt L ii * 2 + 1, none⟩ = _ := hca.cell f1 id
                have hr1 : (rcnt L ii : Int) < (bs.length : Int) := by omega
                have hr2 : (0 : Int) ≤ (rcnt L ii : Int) := by omega
                have hr3 : ¬ (rcnt L ii : Int) = (bs.length : Int) := by omega
                have hr4 : ¬ rcnt L ii = bs.length := by omega
                clear f0 f1
                go_wp2_with fail
                go_quiet (fail)
                have hr5 : rcnt L ii ≤ 200 := HL.out.2
                go_wp2
                go_roundw
                case rel => exact ⟨ii + 1, by go_num, by omega, by rw [HX.out.2.2.2.2.1]; go_num, by rw [HX.out.2.2.2.2.2]; go_num, hw8.tr (Ch.drewN _ _ _)⟩
                case measure => simp [intOf]; omega
          · have h0' : (0 : Int) < (ii : Int) := by omega
            have hk1 : Op.bytesLess k0.toList xk.toList = true := hk0
            obtain ⟨q, hq⟩ : ∃ q, ii - 1 = q := ⟨_, rfl⟩
            rw [hq] at hc0
            have e0 : wa.cell? ⟨b, off + q * 5, none⟩ = _ := hca.cell hc0 id
            have hwq : IntKind.i64.wrap ((ii : Int) - 1) = (q : Int) := (IntWalk.i64_in _ (by omega)).trans (by omega)
            have hq1 : (q : Int) < (L.length : Int) := by omega
            have hq2 : (0 : Int) ≤ (q : Int) := by omega
            clear hq hc0
            cases xhl
            · cases xhr
              · exact absurd HX.out.2.1 (by simp)
              · go_quiet (fail)
                clear h0' hk0 hk1 e0 hwq hq1 hq2
                obtain ⟨hrl, b5, o5, hg5, f0, f1⟩ := HX.out.2.2.2.1 rfl
                subst hg5
                have f0a : wa.cell? ⟨b5, o5 + rcnt L ii * 2, none⟩ = _ := hca.cell f0 id
                have f1a : wa.cell? ⟨b5, o5 + rcnt L ii * 2 + 1, none⟩ = _ := hca.cell f1 id
                have hr1 : (rcnt L ii : Int) < (bs.length : Int) := by omega
                have hr2 : (0 : Int) ≤ (rcnt L ii : Int) := by omega
                have hr3 : ¬ (rcnt L ii : Int) = (bs.length : Int) := by omega
                have hr4 : ¬ rcnt L ii = bs.length := by omega
                clear f0 f1
                go_wp2_with fail
                go_quiet (fail)
                have hr5 : rcnt L ii ≤ 200 := HL.out.2
                go_wp2
                go_roundw
                case rel => exact ⟨ii + 1, by go_num, by omega, by rw [HX.out.2.2.2.2.1]; rfl, by rw [HX.out.2.2.2.2.2]; go_num, hw8.tr (Ch.drewN _ _ _)⟩
                case measure => simp [intOf]; omega
            · go_quiet (fail)
              clear h0' hk0 hk1 e0 hwq hq1 hq2
              obtain ⟨hll, b3, o3, hg3, f0, f1⟩ := HX.out.2.2.1 rfl
              subst hg3
              have f0a : wa.cell? ⟨b3, o3 + lcnt L ii * 2, none⟩ = _ := hca.cell f0 id
              have f1a : wa.cell? ⟨b3, o3 + lcnt L ii * 2 + 1, none⟩ = _ := hca.cell f1 id
              have hl1' : (lcnt L ii : Int) < (us.length : Int) := by omega
              have hl2' : (0 : Int) ≤ (lcnt L ii : Int) := by omega
              have hl3' : ¬ (lcnt L ii : Int) = (us.length : Int) := by omega
              have hl4' : ¬ lcnt L ii = us.length := by omega
              clear f0 f1
              go_wp2_with fail
              go_quiet (fail)
              have hl5' : lcnt L ii ≤ 200 := HL.out.1
              clear f0a f1a hl3' hl4'
              cases xhr
              · go_wp2
                go_roundw
                case rel => exact ⟨ii + 1, by go_num, by omega, by rw [HX.out.2.2.2.2.1]; go_num, by rw [HX.out.2.2.2.2.2]; rfl, hw8.tr (Ch.drewN _ _ _)⟩
                case measure => simp [intOf]; omega
              · obtain ⟨hrl, b5, o5, hg5, f0, f1⟩ := HX.out.2.2.2.1 rfl
                subst hg5
                have f0a : wa.cell? ⟨b5, o5 + rcnt L ii * 2, none⟩ = _ := hca.cell f0 id
                have f1a : wa.cell? ⟨b5, o5 + rcnt L ii * 2 + 1, none⟩ = _ := hca.cell f1 id
                have hr1 : (rcnt L ii : Int) < (bs.length : Int) := by omega
                have hr2 : (0 : Int) ≤ (rcnt L ii : Int) := by omega
                have hr3 : ¬ (rcnt L ii : Int) = (bs.length : Int) := by omega
                have hr4 : ¬ rcnt L ii = bs.length := by omega
                clear f0 f1
                go_wp2_with fail
                go_quiet (fail)
                have hr5 : rcnt L ii ≤ 200 := HL.out.2
                go_wp2
                go_roundw
                case rel => exact ⟨ii + 1, by go_num, by omega, by rw [HX.out.2.2.2.2.1]; go_num, by rw [HX.out.2.2.2.2.2]; go_num, hw8.tr (Ch.drewN _ _ _)⟩
                case measure => simp [intOf]; omega
        · have hlt' : (L.length : Int) ≤ (ii : Int) := by omega
          obtain rfl : ii = L.length := by omega
          rw [HM.out.2.2.2.2.1, HM.out.2.2.2.2.2]
          go_wp2
          go_ret
          exact ⟨rfl, hw7.tr hcr⟩
    · have hi1 : (xs.length : Int) ≤ 100 := by omega
      have hi2 : 100 < (zs.length : Int) := by omega
      go_enter Try.func8, Try.ntmps8
      go_wp2_with fail
      refine (awake_any w).mono ?_
      rintro e w1 ⟨rfl, hw1⟩
      go_wp2_with fail
      go_ret
      exact ⟨rfl, hw1⟩
  · have hi1 : 100 < (xs.length : Int) := by omega
    go_enter Try.func8, Try.ntmps8
    go_wp2_with fail
    refine (awake_any w).mono ?_
    rintro e w1 ⟨rfl, hw1⟩
    go_wp2_with fail
    go_ret
    exact ⟨rfl, hw1⟩
end Go.Proofs.Ytlgamaldngkdnaa
