/- Walk of the law SeqJoined. -/
import Derived.Test.YtlgamaldngkdnaaJoin
import Derived.Test.YtlgamaldngkdnaaJoinR
import Derived.Test.YtlgamaldngkdnaaAwaken
import Derived.Test.YtlgamaldngkdnaaSortR
import Derived.Test.YtlgamaldngkdnaaLists
namespace Go.Proofs.Ytlgamaldngkdnaa
open Go Go.RowKit

set_option maxRecDepth 100000 in
set_option maxHeartbeats 4000000 in
theorem seqJoined_any (a1 a2 : Option Addr) (c1 c2 : Nat) (xs zs : List Pr) (w : World) (hx : Rd w a1 xs) (hz : Rd w a2 zs) :
    Calls Try.prog 6 #[.slice a1 xs.length c1, .slice a2 zs.length c2] w fun e w' => e = .returned (.bool true) ∧ Ch (fun _ => False) w w' := by
  have HR := Lib.hid (And.intro hx hz)
  clear hx hz
  by_cases hl1 : xs.length ≤ 300
  · by_cases hl2 : zs.length ≤ 300
    · have hi1 : (xs.length : Int) ≤ 300 := by omega
      have hi2 : (zs.length : Int) ≤ 300 := by omega
      go_enter Try.func6, Try.ntmps6
      go_wp2_with fail
      refine (awake_any w).mono ?_
      rintro e w1 ⟨rfl, hw1⟩
      go_wp2_with fail
      refine (rsorted_any a1 c1 xs (by omega) w1 (HR.out.1.keep hw1 (fun _ _ => id))).mono ?_
      rintro e w2 ⟨v2, us, rfl, ho2, hal, harise, hc2⟩
      have hus : us.length ≤ 300 := by omega
      obtain ⟨p2, k2, rfl, hr2, -⟩ := ho2.rd
      have hw2 := hw1.tr hc2
      clear ho2 hw1 hc2 hal
      go_wp2_with fail
      refine (rsorted_any a2 c2 zs (by omega) w2 (HR.out.2.keep hw2 (fun _ _ => id))).mono ?_
      rintro e w3 ⟨v3, bs, rfl, ho3, hbl, hbrise, hc3⟩
      have hbs : bs.length ≤ 300 := by omega
      obtain ⟨p3, k3, rfl, hr3, -⟩ := ho3.rd
      have hw3 := hw2.tr hc3
      have hr2' := hr2.keep hc3 (fun _ _ => id)
      clear ho3 hw2 hc3 hbl hr2
      go_wp2_with fail
      refine (pairs_any p2 k2 us (by omega) w3 hr2').mono ?_
      rintro e w4 ⟨v4, rfl, ho4, hc4⟩
      have hw4 := hw3.tr hc4
      have hr24 := hr2'.keep hc4 (fun _ _ => id)
      have hr34 := hr3.keep hc4 (fun _ _ => id)
      clear hr2' hr3 hw3 hc4
      go_wp2_with fail
      refine (of_any _ v4 us (by omega) w4 ho4).mono ?_
      rintro e w5 ⟨b5, v5, rfl, hb5, hg5, hc5⟩
      have hw5 := hw4.tr hc5
      have hr25 := hr24.keep hc5 (fun _ _ => id)
      have hr35 := hr34.keep hc5 (fun _ _ => id)
      clear hr24 hr34 hw4 hc5 ho4
      unfold ofRun
      go_wp2_with fail
      refine (pairs_any p3 k3 bs (by omega) w5 hr35).mono ?_
      rintro e w6 ⟨v6, rfl, ho6, hc6⟩
      have hw6 := hw5.tr hc6
      have hg6 := ofG_stab _ _ _ _ _ _ hg5 (hc6.mono fun _ _ h => h.elim)
      have hr26 := hr25.keep hc6 (fun _ _ => id)
      have hr36 := hr35.keep hc6 (fun _ _ => id)
      clear hr25 hr35 hw5 hc6 hg5
      obtain ⟨g6, k6, rfl, hq6, -⟩ := ho6.rd
      have hk6 : bs.length ≤ k6 := by
        rcases ho6.2 with ⟨h, h1⟩ | ⟨_, _, _, h, _, _, h1, _⟩
        · injection h with _ _ h3; omega
        · injection h with _ _ h3; omega
      have HA := Lib.hid (And.intro harise hbrise)
      clear harise hbrise ho6
      go_wp2_with fail
      refine (joined_any enters32 (of_iter b5 _ v5 us (by omega)) (by omega) (by omega) HA.out.1 w6 (ofK_lt hg6) (ofG_stab _ _ _ _) hg6 g6 k6 hq6 hk6).mono ?_
      rintro e w7 ⟨v7, rfl, ho7, hc7⟩
      obtain ⟨g7, k7, rfl, hr7, -⟩ := ho7.rd
      have hw7 := hw6.tr hc7
      have hr27 := hr26.keep hc7 (fun _ _ => id)
      have hr37 := hr36.keep hc7 (fun _ _ => id)
      clear hr26 hr36 hq6 ho7 hc7 hg6 hw6 hb5 hk6
      go_wp2_with fail
      refine (rjoined_any p2 p3 k2 k3 us bs hus hbs w7 hr27 hr37).mono ?_
      rintro e w8 ⟨v8, rfl, ho8, hc8⟩
      obtain ⟨g8, k8, rfl, hr8, -⟩ := ho8.rd
      have hw8 := hw7.tr hc8
      have hr78 := hr7.keep hc8 (fun _ _ => id)
      clear hr27 hr37 ho8 hc8 hr7 hw7 HA
      have hLl : (joinL us bs).length ≤ 600 := by have := joinL_length us bs; omega
      generalize joinL us bs = L at hLl hr8 hr78
      have HRD := Lib.hid (And.intro hr78 hr8)
      clear hr78 hr8
      have hLI : (L.length : Int) ≤ 600 := by omega
      go_wp2_with fail
      go_loopw [42] (fun i wr => ∃ (ii : Nat), i = .int .i64 (ii : Int) ∧ ii ≤ L.length ∧ Hid (Ch (fun _ => False) w8 wr)) (fun i _ => L.length - (intOf i).toNat)
      case atStart => exact ⟨0, rfl, Nat.zero_le _, Lib.hid (Ch.refl _ _)⟩
      case round =>
        obtain ⟨ii, rfl, hi, hcr⟩ := hrel
        by_cases hlt : ii < L.length
        · have hlt' : (ii : Int) < (L.length : Int) := by omega
          have hi0 : (0 : Int) ≤ (ii : Int) := by omega
          obtain ⟨b, off, rfl, c0, c1, c2, c3, c4⟩ := (HRD.out.1.keep hcr.out (fun _ _ => id)).five ii hlt
          obtain ⟨b', off', rfl, d0, d1, d2, d3, d4⟩ := (HRD.out.2.keep hcr.out (fun _ _ => id)).five ii hlt
          generalize (bt L ii).k = xk at *
          generalize (bt L ii).l = xl at *
          generalize (bt L ii).r = xr at *
          generalize (bt L ii).hl = xhl at *
          generalize (bt L ii).hr = xhr at *
          have hA : ∀ o p v, wr.cell? p = some v → (wr.alloc o).cell? p = some v := fun o p v h => (Ch.alloc (fun _ => False) wr o).cell h id
          have d0' := fun o => hA o _ _ d0
          have d1' := fun o => hA o _ _ d1
          have d2' := fun o => hA o _ _ d2
          have d3' := fun o => hA o _ _ d3
          have d4' := fun o => hA o _ _ d4
          clear hA
          have hbs : (xk.toList == xk.toList) = true := by simp
          go_wp2_with fail
          go_roundw
          case rel => exact ⟨ii + 1, by go_num, by omega, Lib.hid ((hcr.out.tr (Ch.alloc _ _ _)).tr (Ch.alloc _ _ _))⟩
          case measure => simp [intOf]; omega
        · have hlt' : (L.length : Int) ≤ (ii : Int) := by omega
          go_wp2
          go_ret
          exact ⟨rfl, hw8.tr hcr.out⟩
    · have hi1 : (xs.length : Int) ≤ 300 := by omega
      have hi2 : 300 < (zs.length : Int) := by omega
      go_enter Try.func6, Try.ntmps6
      go_wp2_with fail
      refine (awake_any w).mono ?_
      rintro e w1 ⟨rfl, hw1⟩
      go_wp2_with fail
      go_ret
      exact ⟨rfl, hw1⟩
  · have hi1 : 300 < (xs.length : Int) := by omega
    go_enter Try.func6, Try.ntmps6
    go_wp2_with fail
    refine (awake_any w).mono ?_
    rintro e w1 ⟨rfl, hw1⟩
    go_wp2_with fail
    go_ret
    exact ⟨rfl, hw1⟩
end Go.Proofs.Ytlgamaldngkdnaa
