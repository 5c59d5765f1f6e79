/- The walk of first. -/
import Derived.Test.YtogihpofkjpokaaGreatDoorFWrap
namespace Go.Proofs.YtogihpofkjpokaaGreatDoor.F5
open Go Go.RowKit

theorem txt_at (l : List UInt8) (n : Nat) (h : n < l.length) : (txt l)[n]? = some (l.getD n 0) := by
  rw [getElem?_pos (txt l) n h, List.getD_eq_getElem?_getD, List.getElem?_eq_getElem h]
  rfl
theorem number_txt (l : List UInt8) (h : 4 ≤ l.length) (w : World) :
    Calls Tryz.prog 93 #[.string (txt l)] w fun e w' => e = .returned (.int .u32 (u (num4 l))) ∧ ∃ m, w' = w.drewN m :=
  number_any (txt l) _ _ _ _ (txt_at l 0 (by omega)) (txt_at l 1 (by omega)) (txt_at l 2 (by omega)) (txt_at l 3 (by omega)) w
theorem txt_take (l : List UInt8) (k : Nat) : (txt l).extract 0 k = txt (l.take k) := by
  apply ByteArray.ext
  simp [txt]
theorem txt_drop (l : List UInt8) (k : Nat) : (txt l).extract k l.length = txt (l.drop k) := by
  apply ByteArray.ext
  have h : (l.drop k).take (l.length - k) = l.drop k := List.take_of_length_le (by rw [List.length_drop]; omega)
  simp [txt, h]

set_option maxRecDepth 100000 in
set_option maxHeartbeats 1000000 in
theorem first_any (s : List UInt8) (hs : s.length ≤ 100000) (w : World) :
    Calls Tryz.prog 72 #[.string (txt s)] w fun e w' => e = .returned (.tuple #[.string (txt ((firstL s).getD [])), .bool (firstL s).isSome]) ∧ ∃ m, w' = w.drewN m := by
  have hz := txt_size s
  have hs' : (s.length : Int) ≤ 100000 := by omega
  by_cases h1 : s.length < 12
  · have HF := Lib.hid (first_short h1)
    have h1' : (s.length : Int) < 12 := by omega
    go_enter Tryz.func72, Tryz.ntmps72
    go_wp2
    go_ret2
    rw [HF.out]
    exact ⟨rfl, 0, rfl⟩
  have h1' : (12 : Int) ≤ (s.length : Int) := by omega
  have HF : Hid (firstL s = if 1048577 < (num4 s).toNat then none
      else if num4 (s.drop 4) ≠ crcL (s.take 4) then none
      else if s.length - 12 < (num4 s).toNat then none
      else if num4 (s.drop 8) ≠ crcL ((s.drop 12).take (num4 s).toNat) then none
      else some ((s.drop 12).take (num4 s).toNat)) := Lib.hid (by unfold firstL; rw [if_neg h1])
  have P0 : Hid (∀ w, Calls Tryz.prog 93 #[.string (txt s)] w fun e w' => e = .returned (.int .u32 ((num4 s).toNat : Int)) ∧ ∃ m, w' = w.drewN m) := Lib.hid (number_txt s (by omega))
  have P1 := Lib.hid (number_txt (s.drop 4) (by rw [List.length_drop]; omega))
  have P2 := Lib.hid (check_txt (s.take 4) (by rw [List.length_take]; omega))
  have P3 := Lib.hid (number_txt (s.drop 8) (by rw [List.length_drop]; omega))
  have P4 := Lib.hid (check_txt ((s.drop 12).take (num4 s).toNat) (by rw [List.length_take, List.length_drop]; omega))
  have e12 := txt_drop s 12
  have e4 := txt_drop s 4
  have e8 := txt_drop s 8
  have e0 := txt_take s 4
  have hb : (txt (s.drop 12)).size = s.length - 12 := by rw [txt_size, List.length_drop]
  have ep := txt_take (s.drop 12) (num4 s).toNat
  have HP : Hid ((txt ((s.drop 12).take (num4 s).toNat)) = txt ((s.drop 12).take (num4 s).toNat)) := Lib.hid rfl
  have hn : (0 : Int) ≤ ((num4 s).toNat : Int) := by omega
  generalize (num4 s).toNat = n at HF P0 P4 ep HP hn
  have h12 : ((s.length - 12 : Nat) : Int) = (s.length : Int) - 12 := by omega
  obtain ⟨bl, hbl⟩ : ∃ bl : Nat, bl = s.length - 12 := ⟨_, rfl⟩
  rw [← hbl] at hb h12
  have HB := Lib.hid (And.intro hbl h12)
  clear hbl h12
  generalize txt (s.drop 12) = body at e12 hb ep
  generalize txt (s.drop 4) = t4 at e4 P1
  generalize txt (s.drop 8) = t8 at e8 P3
  generalize txt (s.take 4) = a4 at e0 P2
  generalize hpay : txt ((s.drop 12).take n) = pay at ep P4 HP
  have HP' := Lib.hid hpay
  clear hpay HP
  by_cases c1 : 1048577 < n
  · have HE : Hid (firstL s = none) := Lib.hid (by rw [HF.out, if_pos c1])
    have c1' : (1048577 : Int) < (n : Int) := by omega
    have C1 := Lib.hid c1
    clear c1
    go_enter Tryz.func72, Tryz.ntmps72
    go_wp2
    go_big_quiet ((go_at_call 93; with_reducible exact Calls.quiet_of (P0.out _)))
    obtain ⟨wa, hwa⟩ : ∃ x, x = w.drewN nq := ⟨_, rfl⟩
    rw [← hwa]
    have HW := Lib.hid hwa
    clear hwa
    go_wp2
    go_big_quiet (fail)
    go_wp2
    go_ret2
    rw [HE.out]
    exact ⟨rfl, _, by rw [HW.out, World.drewN_drewN]⟩
  have c1' : (n : Int) ≤ 1048577 := by omega
  have c1d : decide ((1048577 : Int) < (n : Int)) = false := decide_eq_false (by omega)
  rw [if_neg c1] at HF
  have C1 := Lib.hid c1
  clear c1
  by_cases c2 : num4 (s.drop 4) = crcL (s.take 4)
  · rw [if_neg (by simpa using c2)] at HF
    rw [c2] at P1
    generalize u (crcL (s.take 4)) = n1 at P1 P2
    by_cases c3 : s.length - 12 < n
    · have HE : Hid (firstL s = none) := Lib.hid (by rw [HF.out, if_pos c3])
      have c3' : (bl : Int) < (n : Int) := by have := HB.out.1; omega
      go_enter Tryz.func72, Tryz.ntmps72
      go_wp2
      go_big_quiet ((go_at_call 93; with_reducible exact Calls.quiet_of (P0.out _)))
      obtain ⟨wa, hwa⟩ : ∃ x, x = w.drewN nq := ⟨_, rfl⟩
      rw [← hwa]
      have HW := Lib.hid hwa
      clear hwa
      go_wp2
      go_big_quiet (first | (go_at_call 93; with_reducible exact Calls.quiet_of (P1.out _)) | (go_at_call 76; with_reducible exact Calls.quiet_of_same (P2.out _)))
      go_wp2
      go_ret2
      rw [HE.out]
      exact ⟨rfl, _, by rw [HW.out, World.drewN_drewN]⟩
    have c3' : (n : Int) ≤ (bl : Int) := by have := HB.out.1; omega
    rw [if_neg c3] at HF
    by_cases c4 : num4 (s.drop 8) = crcL ((s.drop 12).take n)
    · rw [if_neg (by simpa using c4)] at HF
      rw [c4] at P3
      generalize u (crcL ((s.drop 12).take n)) = n2 at P3 P4
      go_enter Tryz.func72, Tryz.ntmps72
      go_wp2
      go_big_quiet ((go_at_call 93; with_reducible exact Calls.quiet_of (P0.out _)))
      obtain ⟨wa, hwa⟩ : ∃ x, x = w.drewN nq := ⟨_, rfl⟩
      rw [← hwa]
      have HW := Lib.hid hwa
      clear hwa
      go_wp2
      go_big_quiet (first | (go_at_call 93; with_reducible exact Calls.quiet_of (P1.out _)) | (go_at_call 76; with_reducible exact Calls.quiet_of_same (P2.out _)))
      go_wp2_with (first | (go_at_call 93; (with_reducible refine (P3.out _).mono ?_); rintro e w' ⟨rfl, m, rfl⟩) | (go_at_call 76; (with_reducible refine (P4.out _).mono ?_); rintro e w' ⟨rfl, rfl⟩))
      go_ret2
      rw [HF.out, ← HP'.out]
      exact ⟨rfl, _, by rw [HW.out, World.drewN_drewN]⟩
    · have HE : Hid (firstL s = none) := Lib.hid (by rw [HF.out, if_pos (by simpa using c4)])
      have c4' : (u (num4 (s.drop 8)) != u (crcL ((s.drop 12).take n))) = true := by
        rw [bne_iff_ne]; exact fun h => c4 (u_inj h)
      have c4'' : ¬ u (num4 (s.drop 8)) = u (crcL ((s.drop 12).take n)) := fun h => c4 (u_inj h)
      generalize u (crcL ((s.drop 12).take n)) = n2 at P4 c4' c4''
      generalize u (num4 (s.drop 8)) = n3 at P3 c4' c4''
      clear c4
      go_enter Tryz.func72, Tryz.ntmps72
      go_wp2
      go_big_quiet ((go_at_call 93; with_reducible exact Calls.quiet_of (P0.out _)))
      obtain ⟨wa, hwa⟩ : ∃ x, x = w.drewN nq := ⟨_, rfl⟩
      rw [← hwa]
      have HW := Lib.hid hwa
      clear hwa
      go_wp2
      go_big_quiet (first | (go_at_call 93; with_reducible exact Calls.quiet_of (P1.out _)) | (go_at_call 76; with_reducible exact Calls.quiet_of_same (P2.out _)))
      go_wp2_with (first | (go_at_call 93; (with_reducible refine (P3.out _).mono ?_); rintro e w' ⟨rfl, m, rfl⟩) | (go_at_call 76; (with_reducible refine (P4.out _).mono ?_); rintro e w' ⟨rfl, rfl⟩))
      go_ret2
      rw [HE.out]
      exact ⟨rfl, _, by rw [HW.out, World.drewN_drewN]⟩
  · have HE : Hid (firstL s = none) := Lib.hid (by rw [HF.out, if_pos (by simpa using c2)])
    have c2' : (u (num4 (s.drop 4)) != u (crcL (s.take 4))) = true := by
      rw [bne_iff_ne]; exact fun h => c2 (u_inj h)
    have c2'' : ¬ u (num4 (s.drop 4)) = u (crcL (s.take 4)) := fun h => c2 (u_inj h)
    generalize u (crcL (s.take 4)) = n2 at P2 c2' c2''
    generalize u (num4 (s.drop 4)) = n3 at P1 c2' c2''
    clear c2
    go_enter Tryz.func72, Tryz.ntmps72
    go_wp2
    go_big_quiet ((go_at_call 93; with_reducible exact Calls.quiet_of (P0.out _)))
    obtain ⟨wa, hwa⟩ : ∃ x, x = w.drewN nq := ⟨_, rfl⟩
    rw [← hwa]
    have HW := Lib.hid hwa
    clear hwa
    go_wp2
    go_big_quiet (first | (go_at_call 93; with_reducible exact Calls.quiet_of (P1.out _)) | (go_at_call 76; with_reducible exact Calls.quiet_of_same (P2.out _)))
    go_wp2
    go_ret2
    rw [HE.out]
    exact ⟨rfl, _, by rw [HW.out, World.drewN_drewN]⟩
end Go.Proofs.YtogihpofkjpokaaGreatDoor.F5
