/- The walk of SplitParts. -/
import Derived.Test.YtpmoindojnlhgaaDoorCuts
import Derived.BigQuiet
import Derived.Deep.RegionHeld3
namespace Go.Proofs.YtpmoindojnlhgaaDoor
open Go Go.RowKit

theorem sum_take {L : List Nat} {i : Nat} (h : i < L.length) : (L.take (i + 1)).sum = (L.take i).sum + L.getD i 0 := by
  rw [List.take_succ_eq_append_getElem h, List.sum_append, List.getD_eq_getElem?_getD, List.getElem?_eq_getElem h]; simp
theorem sum_le : ∀ (L : List Nat) (i : Nat), (L.take i).sum ≤ L.sum
  | [], i => by simp
  | x :: L, 0 => by simp
  | x :: L, i + 1 => by have := sum_le L i; simp only [List.take_succ_cons, List.sum_cons]; omega
theorem undrew {w w' : World} (h : Below w.drew.heap.size w.drew w') : Below w.heap.size w w' := ((Below.refl _ _).drew).trans h
/-- A slice behind some of its items. -/
theorem RdT.drop {w : World} {b off c p : Nat} {xs : List (List UInt8)} (h : RdT w (some ⟨b, off, none⟩) xs) (hc : xs.length ≤ c) : RdT w (if c = p then some ⟨b, off, none⟩ else some ⟨b, off + p, none⟩) (xs.drop p) := fun i hi => by
  rw [List.length_drop] at hi
  rw [if_neg (by omega)]
  obtain ⟨b', off', he, h1⟩ := h (p + i) (by omega)
  cases he
  refine ⟨b, off + p, rfl, ?_⟩
  rw [Nat.add_assoc, h1, List.getD_eq_getElem?_getD, List.getD_eq_getElem?_getD, List.getElem?_drop]
theorem RdN.drop {w : World} {b off c p : Nat} {xs : List Nat} (h : RdN w (some ⟨b, off, none⟩) xs) (hc : xs.length ≤ c) : RdN w (if c = p then some ⟨b, off, none⟩ else some ⟨b, off + p, none⟩) (xs.drop p) := fun i hi => by
  rw [List.length_drop] at hi
  rw [if_neg (by omega)]
  obtain ⟨b', off', he, h1⟩ := h (p + i) (by omega)
  cases he
  refine ⟨b, off + p, rfl, ?_⟩
  rw [Nat.add_assoc, h1, List.getD_eq_getElem?_getD, List.getD_eq_getElem?_getD, List.getElem?_drop]
set_option maxRecDepth 100000 in
set_option maxHeartbeats 8000000 in
theorem splitParts_any {w : World} (hK : S1.KR w) (a : Option Addr) (c : Nat) (xs : List (List UInt8)) (hR : RdT w a xs) (hx : ∀ x ∈ xs, x.length ≤ 140737488355328) (hl : xs.length ≤ maxLen) (hcap : xs.length ≤ c) (hnil : a = none → c = 0) :
    Calls Tryd.prog 4 #[.slice a xs.length c] w fun e w' => e = .returned (.bool true) ∧ Below w.heap.size w w' := by
  have P6 := Lib.hid (awake_any hK)
  have P7 : Hid (∀ W, Below w.heap.size w W → Calls Tryd.prog 7 #[.slice a xs.length c] W fun e w' => e = .returned (.bool (decide (Few xs))) ∧ w' = W) := Lib.hid fun W hW => few_any (hR.new hW) hx hl
  by_cases hF : Few xs
  · rw [decide_eq_true hF] at P7
    have hl' : (xs.length : Int) ≤ 200 := by have := hF.1; omega
    have hcl := cutG_len E xs 0
    have hF1 := hF.1
    have PC : Hid (∀ W, Below w.heap.size w W → Calls Tryd.prog 11 #[.slice a xs.length c] W fun e w' => ∃ b d, e = .returned (.slice b (cutG E 0 xs).length d) ∧ RdN w' b (cutG E 0 xs) ∧ (cutG E 0 xs).length ≤ d ∧ Below W.heap.size W w') := Lib.hid fun W hW => cutC (hK.step hW) (hR.new hW) hF.each.1 hF.each.2
    have hsum : (cutG E 0 xs).sum = xs.length := by rw [cutG_sum]; omega
    have HM := Lib.hid (And.intro (cutG_mem E xs 0 (by omega)) (cutG_two E xs 0))
    have HRE := Lib.hid (fun h => cutG_rest E xs 0 h)
    have HR := Lib.hid (And.intro hR (And.intro hF.each (And.intro hK (And.intro hcap hnil))))
    clear hR hx hl hF hK hcap hnil
    obtain ⟨L, hL⟩ : ∃ L, cutG E 0 xs = L := ⟨_, rfl⟩
    rw [hL] at hcl PC hsum HM HRE
    have HL := Lib.hid hL
    clear hL
    have hLl : (L.length : Int) ≤ 201 := by omega
    go_enter Tryd.func4, Tryd.ntmps4
    go_wp2_with (first
      | (go_at_call 6; (with_reducible refine P6.out.mono ?_); rintro e w1 ⟨rfl, hb1⟩)
      | (go_at_call 7; (with_reducible refine (P7.out _ hb1).mono ?_); rintro e w2 ⟨rfl, hw2⟩; subst w2)
      | (go_at_call 11; (with_reducible refine (PC.out _ hb1).mono ?_); rintro e w2 ⟨lb, ld, rfl, hr2, hd2, hb2⟩; have hB2 := hb1.trans (hb2.mono hb1.size)))
    have HRL := Lib.hid (And.intro hr2 (And.intro hd2 hB2))
    have HB2 := Lib.hid hB2
    clear hr2 hd2 hb2 hB2
    go_loopw [4, 5, 6, 16] (fun n _ _ i wr => ∃ ii : Nat, i = .int .i64 (ii : Int) ∧ ii ≤ L.length ∧ n = .int .i64 (((L.take ii).sum : Nat) : Int) ∧ wr = w2) (fun _ _ _ i _ => L.length - (intOf i).toNat)
    case atStart => exact ⟨0, rfl, Nat.zero_le _, rfl, rfl⟩
    case round =>
      obtain ⟨ii, rfl, hi, rfl, hw⟩ := hrel
      subst hw
      have hs := sum_le L ii
      have hs' : (((L.take ii).sum : Nat) : Int) ≤ 200 := by omega
      by_cases hlt : ii < L.length
      · have hlt' : (ii : Int) < (L.length : Int) := by omega
        have hi0 : (0 : Int) ≤ (ii : Int) := by omega
        obtain ⟨b, off, rfl, hc1⟩ := HRL.out.1 ii hlt
        have hst := sum_take hlt
        have hs2 := sum_le L (ii + 1)
        have hm := HM.out.1 (L.getD ii 0) (by rw [List.getD_eq_getElem?_getD, List.getElem?_eq_getElem hlt]; exact List.getElem_mem hlt)
        have h2 : 2 ≤ L.getD ii 0 ∨ ii + 1 = L.length := by
          by_cases e : ii + 1 < L.length
          · exact .inl (HM.out.2 ii e)
          · exact .inr (by omega)
        have HST := Lib.hid hst
        obtain ⟨sm, hsm⟩ : ∃ sm, (L.take ii).sum = sm := ⟨_, rfl⟩
        rw [hsm] at hs hs' hst ⊢
        generalize L.getD ii 0 = k at hc1 hst hm h2 HST
        rw [hst] at hs2
        have hk1 : (1 : Int) ≤ (k : Int) := by omega
        have hk16 : (k : Int) ≤ 16 := by omega
        have hd1 : decide ((k : Int) < 1) = false := decide_eq_false (by omega)
        have hd16 : decide ((16 : Int) < (k : Int)) = false := decide_eq_false (by omega)
        have hsk : (sm : Int) + (k : Int) ≤ 200 := by omega
        have HSM := Lib.hid hsm
        clear hs hst hsm hs2
        by_cases hk2 : 2 ≤ k
        · have hd2 : decide ((k : Int) < 2) = false := decide_eq_false (by omega)
          clear hm h2 hk2
          go_wp2
          go_roundw
          case rel => exact ⟨ii + 1, by go_num, by omega, by rw [HST.out, HSM.out]; go_num, trivial⟩
          case measure => simp [intOf]; omega
        · have hd2 : decide ((k : Int) < 2) = true := decide_eq_true (by omega)
          have hd3 : decide ((ii : Int) < (L.length : Int) - 1) = false := decide_eq_false (by omega)
          clear hm h2 hk2
          go_wp2
          go_roundw
          case rel => exact ⟨ii + 1, by go_num, by omega, by rw [HST.out, HSM.out]; go_num, trivial⟩
          case measure => simp [intOf]; omega
      · have hlt' : (L.length : Int) ≤ (ii : Int) := by omega
        have e : ii = L.length := by omega
        subst e
        rw [List.take_length, hsum]
        by_cases hne : L = []
        · have hq : ((L.length : Int) == 0) = true := by rw [hne]; rfl
          clear hne
          go_wp2
          go_big_quiet (fail)
          go_wp2
          go_ret
          exact ⟨rfl, HB2.out.trans ((Ch.drewN (fun _ => False) wr nq).below HB2.out.size fun _ _ => id)⟩
        · obtain ⟨p, l, hpe, hp, hpl, hpr⟩ := HRE.out hne
          rw [Nat.sub_zero] at hpl hpr
          have hq : ((L.length : Int) == 0) = false := by rw [beq_eq_false_iff_ne, hpe, List.length_cons]; omega
          have hp1 := (HM.out.1 p (by rw [hpe]; simp)).1
          obtain ⟨bl, loff, rfl, hc1⟩ := HRL.out.1 0 (by rw [hpe]; simp)
          rw [show L.getD 0 0 = p by rw [hpe]; rfl, Nat.add_zero] at hc1
          obtain ⟨ab, aoff, rfl, -⟩ := HR.out.1 0 (by omega)
          have hpl' : (p : Int) ≤ (xs.length : Int) := by omega
          have hp0 : (0 : Int) ≤ (p : Int) := by omega
          have hL0 : (0 : Int) < (L.length : Int) := by rw [hpe, List.length_cons]; omega
          have hL0n : 0 < L.length := by omega
          have hL1 : (1 : Int) ≤ (L.length : Int) := by omega
          have hcap := HR.out.2.2.2.1
          have hcap' : (xs.length : Int) ≤ (c : Int) := by omega
          have hld := HRL.out.2.1
          have hld' : (L.length : Int) ≤ (ld : Int) := by omega
          have PX : Hid (∀ W, Below w.heap.size w W → Calls Tryd.prog 11 #[.slice (if c = p then some ⟨ab, aoff, none⟩ else some ⟨ab, aoff + p, none⟩) (xs.length - p) (c - p)] W fun e w' => ∃ b d, e = .returned (.slice b l.length d) ∧ RdN w' b l ∧ Below W.heap.size W w') := Lib.hid fun W hW => by
            have h1 := RdT.drop (p := p) (HR.out.1.new hW) hcap
            have h2 := cutC (c := c - p) (HR.out.2.2.1.step hW) h1 (by rw [List.length_drop]; omega) (fun x hx => HR.out.2.1.2 x (List.mem_of_mem_drop hx))
            rw [List.length_drop, hpr] at h2
            refine h2.mono ?_
            rintro e w' ⟨b, d, he, hr, _, hb⟩
            exact ⟨b, d, he, hr, hb⟩
          have hll : L.length = l.length + 1 := by rw [hpe]; rfl
          have PS : Hid (∀ W b d, Below wr.heap.size wr W → RdN W b l → Calls Tryd.prog 10 #[.slice b l.length d, .slice (if ld = 1 then some ⟨bl, loff, none⟩ else some ⟨bl, loff + 1, none⟩) (L.length - 1) (ld - 1)] W fun e w' => e = .returned (.bool true) ∧ w' = W) := Lib.hid fun W b d hW hb => by
            have h1 := RdN.drop (p := 1) (HRL.out.1.new hW) hld
            rw [show L.drop 1 = l by rw [hpe]; rfl] at h1
            have h2 := same_any (c := d) (d := ld - 1) hb h1 (by omega) (by omega)
            rw [decide_eq_true rfl] at h2
            rwa [show L.length - 1 = l.length by omega]
          have HC := Lib.hid hc1
          obtain ⟨AD, hAD⟩ : ∃ AD, (if c = p then some (⟨ab, aoff, none⟩ : Addr) else some ⟨ab, aoff + p, none⟩) = AD := ⟨_, rfl⟩
          obtain ⟨LD, hLD⟩ : ∃ LD, (if ld = 1 then some (⟨bl, loff, none⟩ : Addr) else some ⟨bl, loff + 1, none⟩) = LD := ⟨_, rfl⟩
          rw [hAD] at PX
          rw [hLD] at PS
          clear hpe hpr hne hpl hll
          go_wp2
          go_region_held3 (fun V => V.cell? ⟨bl, loff, none⟩ = some (.int .i64 (p : Int)))
            (first | exact hc1 | exact k2)
            (first
              | (go_at_call 11; (with_reducible refine (PX.out _ (HB2.out.trans ((Below.refl _ _).drew.mono HB2.out.size))).mono ?_); rintro e w3 ⟨b3, d3, rfl, r3, hb3⟩; have hb4 : Below wr.heap.size wr w3 := undrew hb3; have k2 := (Ch.of_new (S := fun _ => False) hb4).cell (p := ⟨bl, loff, none⟩) HC.out id)
              | (go_at_call 10; (with_reducible refine (PS.out _ _ _ hb4 r3).mono ?_); rintro e w4 ⟨rfl, hw4⟩; subst w4))
          go_wp2
          go_ret
          exact ⟨rfl, HB2.out.trans (hb4.mono HB2.out.size)⟩
  · rw [decide_eq_false hF] at P7
    clear hR hx hl hF hK hcap hnil
    go_enter Tryd.func4, Tryd.ntmps4
    go_wp2_with (first
      | (go_at_call 6; (with_reducible refine P6.out.mono ?_); rintro e w1 ⟨rfl, hb1⟩)
      | (go_at_call 7; (with_reducible refine (P7.out _ hb1).mono ?_); rintro e w2 ⟨rfl, hw2⟩; subst w2))
    go_ret
    exact ⟨rfl, hb1⟩
end Go.Proofs.YtpmoindojnlhgaaDoor
