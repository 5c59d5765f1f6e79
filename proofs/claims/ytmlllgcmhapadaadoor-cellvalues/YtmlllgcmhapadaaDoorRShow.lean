/- The walk of the document's Show. -/
import Derived.Test.YtmlllgcmhapadaaDoorDigits
namespace Go.Proofs.YtmlllgcmhapadaaDoor
open Go Go.RowKit

set_option maxRecDepth 100000 in
set_option maxHeartbeats 4000000 in
theorem rshow_any (v : V) (hok : v.ok) (w : World) :
    Calls Tryd.prog 13 #[v.val] w fun e w' => e = .returned (.string (txt (showL v))) ∧ Below w.heap.size w w' := by
  have hR := fun W => rright_any v W
  cases hr : rightB v with
  | false =>
    rw [hr] at hR
    have HF : Hid (showL v = [63]) := Lib.hid (by unfold showL; rw [hr, if_neg Bool.false_ne_true])
    have HR := Lib.hid hR
    clear hR hr
    generalize showL v = sl at HF
    obtain ⟨k, n, s⟩ := v
    unfold V.val at HR ⊢
    go_enter Tryd.func13, Tryd.ntmps13
    go_wp2_with (go_at_call 11; (with_reducible refine (HR.out _).mono ?_); rintro e w1 ⟨rfl, hb1⟩)
    go_ret
    exact ⟨by rw [HF.out]; rfl, ((Below.refl _ _).alloc (Nat.le_refl _) _).trans (hb1.mono (by simp))⟩
  | true =>
    rw [hr] at hR
    have HF : Hid (showL v = if v.k = 1 then Lib.itoa v.n
      else if v.k = 2 then if v.n = 1 then [84, 82, 85, 69] else [70, 65, 76, 83, 69]
      else if v.k = 3 then [39] ++ subst1 39 [39, 39] v.s.data.toList ++ [39]
      else if v.k = 4 then [120, 39] ++ hexL v.s.data.toList ++ [39]
      else [78, 85, 76, 76]) := Lib.hid (by unfold showL; rw [hr, if_pos rfl])
    have HR := Lib.hid hR
    have hcs := right_cases hr
    clear hR hr
    generalize showL v = sl at HF
    obtain ⟨k, n, s⟩ := v
    have HO := Lib.hid hok
    clear hok
    unfold V.val at HR ⊢
    rcases hcs with ⟨h1, h2, h3⟩ | ⟨h1, h2⟩ | ⟨h1, h2, h3⟩ | ⟨h1, h2, h3⟩ | ⟨h1, h2, h3⟩
    · simp only at h1 h2 h3; subst h1 h2 h3
      go_enter Tryd.func13, Tryd.ntmps13
      go_wp2_with (go_at_call 11; (with_reducible refine (HR.out _).mono ?_); rintro e w1 ⟨rfl, hb1⟩; obtain ⟨⟨f0, f1, f2⟩, -, hB1⟩ := box_after (n := 0) hb1)
      go_ret
      exact ⟨by rw [HF.out]; rfl, hB1⟩
    · simp only at h1 h2; subst h1 h2
      have HI := Lib.hid (digits_any n HO.out.2.2.1 HO.out.2.2.2)
      go_enter Tryd.func13, Tryd.ntmps13
      go_wp2_with (first | (go_at_call 11; (with_reducible refine (HR.out _).mono ?_); rintro e w1 ⟨rfl, hb1⟩; obtain ⟨⟨f0, f1, f2⟩, -, hB1⟩ := box_after (n := 0) hb1) | (go_at_call 29; (with_reducible refine (HI.out w1).mono ?_); rintro e w2 ⟨rfl, hb2⟩))
      go_ret
      exact ⟨by rw [HF.out]; rfl, hB1.trans (hb2.mono hB1.size)⟩
    · simp only at h1 h2 h3; subst h1 h3
      rcases h2 with rfl | rfl
      · go_enter Tryd.func13, Tryd.ntmps13
        go_wp2_with (go_at_call 11; (with_reducible refine (HR.out _).mono ?_); rintro e w1 ⟨rfl, hb1⟩; obtain ⟨⟨f0, f1, f2⟩, -, hB1⟩ := box_after (n := 0) hb1)
        go_ret
        exact ⟨by rw [HF.out]; rfl, hB1⟩
      · go_enter Tryd.func13, Tryd.ntmps13
        go_wp2_with (go_at_call 11; (with_reducible refine (HR.out _).mono ?_); rintro e w1 ⟨rfl, hb1⟩; obtain ⟨⟨f0, f1, f2⟩, -, hB1⟩ := box_after (n := 0) hb1)
        go_ret
        exact ⟨by rw [HF.out]; rfl, hB1⟩
    · simp only at h1 h2 h3; subst h1 h2
      have HL := Lib.hid (fun i => subst1_len 39 39 39 (s.data.toList.take i))
      have HC : Hid (txt sl = txt ([39] ++ subst1 39 [39, 39] s.data.toList ++ [39])) := Lib.hid (by rw [HF.out]; rfl)
      clear HF
      go_enter Tryd.func13, Tryd.ntmps13
      go_wp2_with (go_at_call 11; (with_reducible refine (HR.out _).mono ?_); rintro e w1 ⟨rfl, hb1⟩; obtain ⟨⟨f0, f1, f2⟩, -, hB1⟩ := box_after (n := 0) hb1)
      clear hb1
      go_loop [3, 4] (fun x k => ∃ (kk : Nat) (l : List UInt8), k = .int .i64 (kk : Int) ∧ kk ≤ s.size ∧ x = .string (txt l) ∧ Hid (l = [39] ++ subst1 39 [39, 39] (s.data.toList.take kk))) (fun _ k => s.size - (intOf k).toNat)
      case atStart => exact ⟨0, [39], rfl, Nat.zero_le _, rfl, Lib.hid rfl⟩
      case round =>
        obtain ⟨kk, l, rfl, hk, rfl, HD⟩ := hrel
        have hll : l.length ≤ 2001 := by
          have h4 := HL.out kk
          rw [List.length_take, size_data] at h4
          rw [HD.out, List.length_append]
          simp
          omega
        by_cases hkl : kk < s.size
        · have hkl' : (kk : Int) < (s.size : Int) := by omega
          have hk0 : (0 : Int) ≤ (kk : Int) := by omega
          have HS := Lib.hid (take_snoc' s kk hkl)
          have e0 : s[kk]? = some s[kk] := getElem?_pos s kk hkl
          have r0 := run_index s .i64 (kk : Int) kk rfl s[kk] e0
          have x0 : s.extract kk (kk + 1) = txt [s[kk]] := by
            rw [ext_txt, show kk + 1 - kk = 1 by omega, List.drop_eq_getElem_cons (by rw [size_data]; exact hkl)]
            rfl
          generalize s[kk] = bk at HS r0 e0 x0
          clear e0
          have c1 := cat l [bk] (by simp; omega)
          by_cases hb0 : bk = 39
          · subst hb0
            have HSub := Lib.hid (show subst1 39 [39, 39] (s.data.toList.take kk ++ [39]) = subst1 39 [39, 39] (s.data.toList.take kk) ++ [39, 39] by rw [subst1_append]; rfl)
            have c2 : binOp .add 9 (.string (txt (l ++ [39]))) (.string ⟨#[39]⟩) = pure (.string (txt (l ++ [39] ++ [39]))) := cat (l ++ [39]) [39] (by simp; omega)
            go_wp2
            go_round
            case rel => exact ⟨kk + 1, l ++ [39] ++ [39], by go_num, by omega, by simp, Lib.hid (by rw [HS.out, HSub.out, HD.out]; simp)⟩
            case measure => simp [intOf]; omega
          · have HSub := Lib.hid (show subst1 39 [39, 39] (s.data.toList.take kk ++ [bk]) = subst1 39 [39, 39] (s.data.toList.take kk) ++ [bk] by rw [subst1_append, subst1_cons, if_neg hb0]; rfl)
            have hb1 : ((bk.toNat : Int) == 39) = false := by
              rw [beq_eq_false_iff_ne]
              intro h
              exact hb0 (UInt8.toNat_inj.1 (show bk.toNat = 39 by omega))
            go_wp2
            go_round
            case rel => exact ⟨kk + 1, l ++ [bk], by go_num, by omega, rfl, Lib.hid (by rw [HS.out, HSub.out, HD.out]; simp)⟩
            case measure => simp [intOf]; omega
        · have hkl' : (s.size : Int) ≤ (kk : Int) := by omega
          have c2 : binOp .add 9 (.string (txt l)) (.string ⟨#[39]⟩) = pure (.string (txt (l ++ [39]))) := cat l [39] (by simp; omega)
          have HD2 : Hid (txt (l ++ [39]) = txt sl) := Lib.hid (by rw [HC.out, HD.out, List.take_of_length_le (by rw [size_data]; omega)])
          generalize txt (l ++ [39]) = q2 at c2 HD2
          go_wp2
          go_ret
          exact ⟨by rw [← HD2.out]; rfl, hB1⟩
    · simp only at h1 h2 h3; subst h1 h2
      have HI := Lib.hid (fun W => rhex_any s W (by omega))
      have hql := hexL_length s.data.toList
      rw [size_data] at hql
      have HI2 : Hid (∀ W, Calls Tryd.prog 30 #[.string s] W fun e w' => e = .returned (.string (txt (hexL s.data.toList))) ∧ Below W.heap.size W w') := Lib.hid HI.out
      clear HI
      generalize hq : hexL s.data.toList = q at HI2 hql
      have HQ := Lib.hid hq
      clear hq
      have c1 : binOp .add 9 (.string ⟨#[120, 39]⟩) (.string (txt q)) = pure (.string (txt ([120, 39] ++ q))) := cat [120, 39] q (by simp; omega)
      have c2 : binOp .add 9 (.string (txt ([120, 39] ++ q))) (.string ⟨#[39]⟩) = pure (.string (txt ([120, 39] ++ q ++ [39]))) := cat ([120, 39] ++ q) [39] (by simp; omega)
      generalize txt ([120, 39] ++ q) = q1 at c1 c2
      have HC : Hid (txt sl = txt ([120, 39] ++ q ++ [39])) := Lib.hid (by rw [HF.out, ← HQ.out]; rfl)
      generalize txt ([120, 39] ++ q ++ [39]) = q2 at c2 HC
      clear hql
      go_enter Tryd.func13, Tryd.ntmps13
      go_wp2_with (first | (go_at_call 11; (with_reducible refine (HR.out _).mono ?_); rintro e w1 ⟨rfl, hb1⟩; obtain ⟨⟨f0, f1, f2⟩, -, hB1⟩ := box_after (n := 0) hb1) | (go_at_call 30; (with_reducible refine (HI2.out w1).mono ?_); rintro e w2 ⟨rfl, hb2⟩))
      go_ret
      exact ⟨by rw [HC.out]; rfl, hB1.trans (hb2.mono hB1.size)⟩
end Go.Proofs.YtmlllgcmhapadaaDoor
