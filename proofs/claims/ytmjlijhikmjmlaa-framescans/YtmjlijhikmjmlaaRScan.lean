/- The walk of the document's Scan. -/
import Derived.Test.YtmjlijhikmjmlaaScan
namespace Go.Proofs.Ytmjlijhikmjmlaa
open Go Go.RowKit
attribute [-go_sem] Builtin.append_

theorem ofInt_i64 (a : Nat) (ha : a < 4294967296) : (BitVec.ofInt 64 (a : Int)).toNat = a := by
  rw [BitVec.ofInt_natCast, BitVec.toNat_ofNat]; exact Nat.mod_eq_of_lt (by omega)
theorem i64_or_nat (a b : Nat) (ha : a < 4294967296) (hb : b < 4294967296) : bits .or .i64 (a : Int) (b : Int) = ((a ||| b : Nat) : Int) := by
  have hx : a ||| b < 2 ^ 32 := Nat.or_lt_two_pow (by omega) (by omega)
  show IntKind.i64.wrap ((BitVec.ofInt 64 (a : Int) ||| BitVec.ofInt 64 (b : Int)).toNat : Int) = _
  rw [BitVec.toNat_or, ofInt_i64 a ha, ofInt_i64 b hb, IntKind.wrap_i64]
  omega
theorem wrap_nat (a : Nat) (ha : a < 4294967296) : wrap64 (a : Int) = (a : Int) := by unfold wrap64; omega
theorem txt_slice (l : List UInt8) (i j : Nat) : (txt l).extract i j = txt ((l.drop i).take (j - i)) := by
  apply ByteArray.ext
  simp [txt]
/-- The document's number. -/
theorem w4_int (a b c d : UInt8) : bits .or .i64 (bits .or .i64 (bits .or .i64 (wrap64 (wrap64 (a.toNat : Int) * 16777216)) (wrap64 (wrap64 (b.toNat : Int) * 65536))) (wrap64 (wrap64 (c.toNat : Int) * 256))) (wrap64 (d.toNat : Int)) = ((w4 a b c d).toNat : Int) := by
  have ha := a.toNat_lt
  have hb := b.toNat_lt
  have hc := c.toNat_lt
  have hd := d.toNat_lt
  have e1 : a.toNat * 16777216 ||| b.toNat * 65536 = 2 ^ 16 * (a.toNat * 256 + b.toNat) := by
    have := Nat.two_pow_add_eq_or_of_lt (i := 24) (show b.toNat * 65536 < 2 ^ 24 by omega) a.toNat
    rw [show a.toNat * 16777216 = 2 ^ 24 * a.toNat by omega, ← this]; omega
  have e2 : 2 ^ 16 * (a.toNat * 256 + b.toNat) ||| c.toNat * 256 = 2 ^ 8 * ((a.toNat * 256 + b.toNat) * 256 + c.toNat) := by
    have := Nat.two_pow_add_eq_or_of_lt (i := 16) (show c.toNat * 256 < 2 ^ 16 by omega) (a.toNat * 256 + b.toNat)
    rw [← this]; omega
  have e3 : 2 ^ 8 * ((a.toNat * 256 + b.toNat) * 256 + c.toNat) ||| d.toNat = 2 ^ 8 * ((a.toNat * 256 + b.toNat) * 256 + c.toNat) + d.toNat :=
    (Nat.two_pow_add_eq_or_of_lt (i := 8) (show d.toNat < 2 ^ 8 by omega) _).symm
  rw [wrap_nat _ (by omega), wrap_nat _ (by omega), wrap_nat _ (by omega), wrap_nat _ (by omega),
    show (a.toNat : Int) * 16777216 = ((a.toNat * 16777216 : Nat) : Int) by omega, show (b.toNat : Int) * 65536 = ((b.toNat * 65536 : Nat) : Int) by omega, show (c.toNat : Int) * 256 = ((c.toNat * 256 : Nat) : Int) by omega,
    wrap_nat _ (by omega), wrap_nat _ (by omega), wrap_nat _ (by omega), i64_or_nat _ _ (by omega) (by omega), e1, i64_or_nat _ _ (by omega) (by omega), e2, i64_or_nat _ _ (by omega) (by omega), e3, w4_toNat]
  omega
/-- Which frame a text begins with, as the document asks for it. -/
theorem first_doc (r : List UInt8) (h : 12 ≤ r.length) : firstL r = if 1048577 < (num4 r).toNat ∨ r.length - 12 < (num4 r).toNat then none
    else if frameL ((r.drop 12).take (num4 r).toNat) = r.take (12 + (num4 r).toNat) then some ((r.drop 12).take (num4 r).toNat) else none := by
  generalize hn : (num4 r).toNat = n
  by_cases h1 : 1048577 < n ∨ r.length - 12 < n
  · rw [if_pos h1]
    cases hf : firstL r with
    | none => rfl
    | some p =>
      obtain ⟨hp, r2, hr⟩ := first_some hf
      have e : (num4 r).toNat = p.length := by
        rw [hr, show frameL p ++ r2 = be4 (lenW p) ++ (be4 (crcL (be4 (lenW p))) ++ (be4 (crcL p) ++ p) ++ r2) by unfold frameL; simp only [List.append_assoc], num4_be4, lenW_toNat hp]
      have hl := congrArg List.length hr
      rw [List.length_append, frameL_length] at hl
      omega
  · rw [if_neg h1]
    have hpl : ((r.drop 12).take n).length = n := by rw [List.length_take, List.length_drop]; omega
    by_cases h2 : frameL ((r.drop 12).take n) = r.take (12 + n)
    · rw [if_pos h2]
      have := first_frame ((r.drop 12).take n) (r.drop (12 + n)) (by omega)
      rwa [h2, List.take_append_drop] at this
    · rw [if_neg h2]
      cases hf : firstL r with
      | none => rfl
      | some p =>
        exfalso
        obtain ⟨hp, r2, hr⟩ := first_some hf
        have e : (num4 r).toNat = p.length := by
          rw [hr, show frameL p ++ r2 = be4 (lenW p) ++ (be4 (crcL (be4 (lenW p))) ++ (be4 (crcL p) ++ p) ++ r2) by unfold frameL; simp only [List.append_assoc], num4_be4, lenW_toNat hp]
        have hpn : p.length = n := by rw [← hn, e]
        apply h2
        have d12 : r.drop 12 = p ++ r2 := by
          rw [hr, show frameL p ++ r2 = (be4 (lenW p) ++ be4 (crcL (be4 (lenW p))) ++ be4 (crcL p)) ++ (p ++ r2) by unfold frameL; simp only [List.append_assoc], drop_app (by simp only [List.length_append, be4_length])]
        rw [d12, take_app hpn, hr, take_app (by rw [frameL_length, hpn])]

set_option maxRecDepth 100000 in
set_option maxHeartbeats 1000000 in
theorem rscan_any (s : List UInt8) (hs : s.length ≤ 100000) (w : World) :
    Calls Try.prog 12 #[.string (txt s)] w fun e w' => ∃ v xs, e = .returned (.tuple #[v, .int .i64 ((flat xs).length : Int)]) ∧ OwT w' w.heap.size v xs ∧ Scanned s xs ∧ Below w.heap.size w w' := by
  have hz := txt_size s
  have hs' : (s.length : Int) ≤ 100000 := by omega
  have H0 : Hid (SI w w s (.slice none 0 0) [] s) := Lib.hid ⟨OwT.nil _ _, Below.refl _ _, rfl, fun x hx => by simp at hx⟩
  go_enter Try.func12, Try.ntmps12
  go_wp2
  go_loopw [4, 5, 6, 7, 8] (fun v t _ _ _ wr => ∃ (xs : List (List UInt8)) (r : List UInt8) (n : Nat), t = .int .i64 (n : Int) ∧ Hid (n = (flat xs).length) ∧ Hid (SI w wr s v xs r)) (fun _ t _ _ _ _ => s.length - (intOf t).toNat)
  case atStart => exact ⟨[], s, 0, rfl, Lib.hid rfl, H0⟩
  case round =>
    clear H0
    obtain ⟨xs, r, n, rfl, HN, HI⟩ := hrel
    obtain ⟨a, c, hv⟩ := HI.out.own.form
    subst hv
    have hn : n ≤ s.length := by rw [HN.out, HI.out.len]; omega
    have hn' : (n : Int) ≤ (s.length : Int) := by omega
    have hn0 : (0 : Int) ≤ (n : Int) := by omega
    have hl := HI.out.len
    rw [← HN.out] at hl
    have hd := HI.out.rest
    rw [← HN.out] at hd
    have fin : Hid (firstL r = none → ∀ m, ∃ v xs', Value.tuple #[.slice a xs.length c, .int .i64 (n : Int)] = .tuple #[v, .int .i64 ((flat xs').length : Int)] ∧ OwT (wr.drewN m) w.heap.size v xs' ∧ Scanned s xs' ∧ Below w.heap.size w (wr.drewN m)) := Lib.hid fun hf m =>
      ⟨.slice a xs.length c, xs, by rw [← HN.out], HI.out.own.keep (Ch.drewN (fun _ => False) _ _) (fun _ _ => id), ⟨r, HI.out.cut, hf, HI.out.few⟩, HI.out.ch.trans ((Ch.drewN (fun _ => False) _ _).below HI.out.ch.size fun _ _ => id)⟩
    by_cases h1 : r.length < 12
    · have h1' : (s.length : Int) - (n : Int) < 12 := by omega
      have F := Lib.hid (fin.out (first_short h1) 0)
      clear fin h1 hl hd
      go_wp2
      go_ret2
      obtain ⟨v, xs', he, ho, hsc, hb⟩ := F.out
      exact ⟨v, xs', congrArg Ending.returned he, ho, hsc, hb⟩
    have h1' : (12 : Int) ≤ (s.length : Int) - (n : Int) := by omega
    have HD := Lib.hid (first_doc r (by omega))
    obtain ⟨b0, b1, b2, b3, hb⟩ : ∃ b0 b1 b2 b3 : UInt8, b0 = r.getD 0 0 ∧ b1 = r.getD 1 0 ∧ b2 = r.getD 2 0 ∧ b3 = r.getD 3 0 := ⟨_, _, _, _, rfl, rfl, rfl, rfl⟩
    have hg : ∀ i, i < r.length → (txt s)[n + i]? = some (r.getD i 0) := fun i hi => by
      rw [txt_at s (n + i) (by omega), ← hd, List.getD_eq_getElem?_getD, List.getD_eq_getElem?_getD, List.getElem?_drop]
    have r0 := run_index (txt s) .i64 (n : Int) n rfl b0 (by rw [hb.1]; exact hg 0 (by omega))
    have r1 := run_index (txt s) .i64 ((n : Int) + 1) (n + 1) (by omega) b1 (by rw [hb.2.1]; exact hg 1 (by omega))
    have r2 := run_index (txt s) .i64 ((n : Int) + 2) (n + 2) (by omega) b2 (by rw [hb.2.2.1]; exact hg 2 (by omega))
    have r3 := run_index (txt s) .i64 ((n : Int) + 3) (n + 3) (by omega) b3 (by rw [hb.2.2.2]; exact hg 3 (by omega))
    have hw4 : w4 b0 b1 b2 b3 = num4 r := by rw [hb.1, hb.2.1, hb.2.2.1, hb.2.2.2]; rfl
    have HW := Lib.hid (w4_int b0 b1 b2 b3)
    rw [hw4] at HW
    have hm0 : (0 : Int) ≤ ((num4 r).toNat : Int) := by omega
    generalize (num4 r).toNat = m at HW HD hm0
    have HL := Lib.hid (And.intro hl hd)
    have h2 : ((r.length - 12 : Nat) : Int) = (s.length : Int) - (n : Int) - 12 := by omega
    clear hb hg hw4 h1
    by_cases c1 : 1048577 < m
    · have F := Lib.hid (fin.out (by rw [HD.out, if_pos (.inl c1)]))
      have c1' : (1048577 : Int) < (m : Int) := by omega
      clear c1 hl hd h2 hn
      go_wp2
      go_big_quiet (fail)
      rw [HW.out]
      go_wp2
      go_ret2
      obtain ⟨v, xs', he, ho, hsc, hb⟩ := F.out nq
      exact ⟨v, xs', congrArg Ending.returned he, ho, hsc, hb⟩
    by_cases c2 : r.length - 12 < m
    · have F := Lib.hid (fin.out (by rw [HD.out, if_pos (.inr c2)]))
      have c1' : (m : Int) ≤ 1048577 := by omega
      have c2' : (s.length : Int) - (n : Int) - 12 < (m : Int) := by omega
      have c1d : decide ((1048577 : Int) < (m : Int)) = false := decide_eq_false (by omega)
      clear c1 c2 hl hd h2 hn
      go_wp2
      go_big_quiet (fail)
      rw [HW.out]
      go_wp2
      go_ret2
      obtain ⟨v, xs', he, ho, hsc, hb⟩ := F.out nq
      exact ⟨v, xs', congrArg Ending.returned he, ho, hsc, hb⟩
    have c1' : (m : Int) ≤ 1048577 := by omega
    have c2' : (m : Int) ≤ (s.length : Int) - (n : Int) - 12 := by omega
    have c1d : decide ((1048577 : Int) < (m : Int)) = false := decide_eq_false (by omega)
    have c2d : decide ((s.length : Int) - (n : Int) - 12 < (m : Int)) = false := decide_eq_false (by omega)
    rw [if_neg (by omega)] at HD
    obtain ⟨p, hp⟩ : ∃ p, p = (r.drop 12).take m := ⟨_, rfl⟩
    rw [← hp] at HD
    have hpl : p.length = m := by rw [hp, List.length_take, List.length_drop]; omega
    have R := Lib.hid (rwrap_any p (by omega))
    have HP := Lib.hid hpl
    have x1 : (txt s).extract (n + 12) (n + 12 + m) = txt p := by
      rw [txt_slice, hp, ← hd, List.drop_drop, Nat.add_sub_cancel_left]
    have x2 : (txt s).extract n (n + 12 + m) = txt (r.take (12 + m)) := by
      rw [txt_slice, ← hd, show n + 12 + m - n = 12 + m by omega]
    have HT := txt_eq (frameL p) (r.take (12 + m))
    have hxl : xs.length + 1 ≤ 100000000 := by
      have h1 := flat_count xs
      have h2 := HN.out
      omega
    have hcs := HI.out.ch.size
    have HC : Hid (n + 12 + m ≤ s.length) := Lib.hid (by omega)
    clear c1 c2 hl hd h2 hn hpl hp
    by_cases c3 : frameL p = r.take (12 + m)
    · rw [decide_eq_true c3] at HT
      have HF : Hid (firstL r = some p) := Lib.hid (by rw [HD.out, if_pos c3])
      generalize txt (frameL p) = F at R HT
      generalize txt (r.take (12 + m)) = T at x2 HT
      clear c3 HD fin
      go_wp2
      go_big_quiet (fail)
      rw [HW.out]
      clear r0 r1 r2 r3
      go_wp2_with (first
        | (go_at_call 10; (with_reducible refine (R.out _).mono ?_); rintro e w2 ⟨rfl, hb2⟩
           have hC2 : Ch (fun _ => False) wr w2 := (Ch.drewN _ wr nq).tr (Ch.of_new hb2)
           have hs2 := hC2.size)
        | (at_builtin; refine wpList_one rfl (.tmp 77) (.tmp 86) rfl w.heap.size (.slice a xs.length c) xs rfl (HI.out.own.keep (hC2.tr (Ch.alloc _ _ _)) (fun _ _ => id)) w2.heap.size p rfl (srow _ _ rfl _) hxl (by simp; omega) ?_; intro g3 w3 ho3 hc3))
      go_roundw
      case rel =>
        obtain ⟨r2, h2⟩ := HI.out.app HF.out (hC2.tr (Ch.alloc _ _ _)) ho3 hc3
        exact ⟨xs ++ [p], r2, n + 12 + m, by go_num, Lib.hid (by rw [flat_snoc, List.length_append, frameL_length, HN.out, HP.out]; omega), Lib.hid h2⟩
      case measure => have := HC.out; simp [intOf]; omega
    · rw [decide_eq_false c3] at HT
      have HF : Hid (firstL r = none) := Lib.hid (by rw [HD.out, if_neg c3])
      generalize txt (frameL p) = F at R HT
      generalize txt (r.take (12 + m)) = T at x2 HT
      clear c3 HD fin
      go_wp2
      go_big_quiet (fail)
      rw [HW.out]
      clear r0 r1 r2 r3
      go_wp2_with (go_at_call 10; (with_reducible refine (R.out _).mono ?_); rintro e w2 ⟨rfl, hb2⟩)
      go_ret2
      have hC2 : Ch (fun _ => False) wr w2 := (Ch.drewN _ wr nq).tr (Ch.of_new hb2)
      exact ⟨.slice a xs.length c, xs, by rw [← HN.out]; rfl, HI.out.own.keep hC2 (fun _ _ => id), ⟨r, HI.out.cut, HF.out, HI.out.few⟩, HI.out.ch.trans (hC2.below HI.out.ch.size fun _ _ => id)⟩
end Go.Proofs.Ytmjlijhikmjmlaa
