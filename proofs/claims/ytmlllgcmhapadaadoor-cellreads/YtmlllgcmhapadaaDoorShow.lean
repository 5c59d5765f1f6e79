/- How a value is shown: plainly, and the walk. -/
import Derived.Test.YtmlllgcmhapadaaDoorHex
import Derived.Test.YtmlllgcmhapadaaDoorCutV
import Derived.Lib.AppendIntMem
namespace Go.Proofs.YtmlllgcmhapadaaDoor
open Go Go.RowKit

/-- What the library's variables hold. -/
def Env (w : World) : Prop := (∃ m : Int, w.cell? ⟨1, 0, none⟩ = some (.int .i64 m)) ∧ Lib.TabIs Tryd.prog w "internal/strconv.uint64pow10" .u64 Lib.pow10Tab
theorem Env.keep {w w' : World} (h : Env w) (hb : Below w.heap.size w w') : Env w' := by
  obtain ⟨⟨m, hm⟩, ht⟩ := h
  exact ⟨⟨m, (Ch.of_new (S := fun _ => False) hb).cell hm id⟩, Lib.tabBelow_of_tabIs ht w' hb⟩
def showL (v : V) : List UInt8 :=
  if rightB v = true then
    if v.k = 1 then Lib.itoa v.n
    else if v.k = 2 then if v.n = 1 then [84, 82, 85, 69] else [70, 65, 76, 83, 69]
    else if v.k = 3 then [39] ++ subst1 39 [39, 39] v.s.data.toList ++ [39]
    else if v.k = 4 then [120, 39] ++ hexL v.s.data.toList ++ [39]
    else [78, 85, 76, 76]
  else [63]
theorem formatInt_any (n : Int) (h0 : -9223372036854775808 ≤ n) (h1 : n ≤ 9223372036854775807) (w : World) (hE : Env w) :
    Calls Tryd.prog 26 #[.int .i64 n, .int .i64 10] w fun e w' => e = .returned (.string (txt (Lib.itoa n))) ∧ Below w.heap.size w w' := by
  refine (Tryd.strconv_FormatInt_10 n h0 h1 w hE.2).mono ?_
  rintro e w' ⟨rfl, k, os, rfl⟩
  exact ⟨rfl, Lib.below_grow _ w (Nat.le_refl _) k os⟩
/-- Two texts put together. -/
theorem cat (l m : List UInt8) (h : l.length + m.length ≤ 1000000000) : binOp .add 9 (.string (txt l)) (.string (txt m)) = pure (.string (txt (l ++ m))) := by
  have e : txt l ++ txt m = txt (l ++ m) := by apply ByteArray.ext; simp [txt]
  have h2 : ¬ (((txt l).size + (txt m).size : Nat) : Int) > IntKind.i64.max := by rw [txt_size, txt_size, show IntKind.i64.max = 9223372036854775807 by decide]; omega
  simp only [binOp, Op.stringOp]
  rw [if_neg h2, e]

set_option maxRecDepth 100000 in
set_option maxHeartbeats 4000000 in
theorem show_any (v : V) (hok : v.ok) (w : World) (hE : Env w) :
    Calls Tryd.prog 12 #[v.val] w fun e w' => e = .returned (.string (txt (showL v))) ∧ Below w.heap.size w w' := by
  have hR := fun W => right_any v W
  have HE := Lib.hid hE
  cases hr : rightB v with
  | false =>
    rw [hr] at hR
    have HF : Hid (showL v = [63]) := Lib.hid (by unfold showL; rw [hr, if_neg Bool.false_ne_true])
    have HR := Lib.hid hR
    clear hR hr hE
    generalize showL v = sl at HF
    obtain ⟨k, n, s⟩ := v
    unfold V.val at HR ⊢
    go_enter Tryd.func12, Tryd.ntmps12
    go_wp2_with (go_at_call 10; (with_reducible refine (HR.out _).mono ?_); rintro e w1 ⟨rfl, hb1⟩)
    go_ret
    exact ⟨by rw [HF.out]; rfl, ((Below.refl _ _).alloc (Nat.le_refl _) _).trans (hb1.mono (by simp))⟩
  | true =>
    rw [hr] at hR
    have HF : Hid (showL v = if v.k = 1 then Lib.itoa v.n
      else if v.k = 2 then if v.n = 1 then [84, 82, 85, 69] else [70, 65, 76, 83, 69]
      else if v.k = 3 then [39] ++ subst1 39 [39, 39] v.s.data.toList ++ [39]
      else if v.k = 4 then [120, 39] ++ hexL v.s.data.toList ++ [39]
      else [78, 85, 76, 76]) := Lib.hid (by unfold showL; rw [hr, if_pos rfl])
    have HR := Lib.hid hR
    have hcs := right_cases hr
    clear hR hr hE
    generalize showL v = sl at HF
    obtain ⟨k, n, s⟩ := v
    have HO := Lib.hid hok
    clear hok
    unfold V.val at HR ⊢
    rcases hcs with ⟨h1, h2, h3⟩ | ⟨h1, h2⟩ | ⟨h1, h2, h3⟩ | ⟨h1, h2, h3⟩ | ⟨h1, h2, h3⟩
    · simp only at h1 h2 h3; subst h1 h2 h3
      go_enter Tryd.func12, Tryd.ntmps12
      go_wp2_with (go_at_call 10; (with_reducible refine (HR.out _).mono ?_); rintro e w1 ⟨rfl, hb1⟩; obtain ⟨⟨f0, f1, f2⟩, -, hB1⟩ := box_after (n := 0) hb1)
      go_ret
      exact ⟨by rw [HF.out]; rfl, hB1⟩
    · simp only at h1 h2; subst h1 h2
      have HI := Lib.hid (formatInt_any n HO.out.2.2.1 HO.out.2.2.2)
      go_enter Tryd.func12, Tryd.ntmps12
      go_wp2_with (first | (go_at_call 10; (with_reducible refine (HR.out _).mono ?_); rintro e w1 ⟨rfl, hb1⟩; obtain ⟨⟨f0, f1, f2⟩, -, hB1⟩ := box_after (n := 0) hb1) | (go_at_call 26; (with_reducible refine (HI.out w1 (HE.out.keep hB1)).mono ?_); rintro e w2 ⟨rfl, hb2⟩))
      go_ret
      exact ⟨by rw [HF.out]; rfl, hB1.trans (hb2.mono hB1.size)⟩
    · simp only at h1 h2 h3; subst h1 h3
      rcases h2 with rfl | rfl
      · go_enter Tryd.func12, Tryd.ntmps12
        go_wp2_with (go_at_call 10; (with_reducible refine (HR.out _).mono ?_); rintro e w1 ⟨rfl, hb1⟩; obtain ⟨⟨f0, f1, f2⟩, -, hB1⟩ := box_after (n := 0) hb1)
        go_ret
        exact ⟨by rw [HF.out]; rfl, hB1⟩
      · go_enter Tryd.func12, Tryd.ntmps12
        go_wp2_with (go_at_call 10; (with_reducible refine (HR.out _).mono ?_); rintro e w1 ⟨rfl, hb1⟩; obtain ⟨⟨f0, f1, f2⟩, -, hB1⟩ := box_after (n := 0) hb1)
        go_ret
        exact ⟨by rw [HF.out]; rfl, hB1⟩
    · simp only at h1 h2 h3; subst h1 h2
      obtain ⟨m, hm⟩ := HE.out.1
      have HI := Lib.hid (replace_quote s h3 m)
      have HM := Lib.hid hm
      clear hm
      have hql := subst1_len 39 39 39 s.data.toList
      rw [size_data] at hql
      generalize hq : subst1 39 [39, 39] s.data.toList = q at HI hql
      have HQ := Lib.hid hq
      clear hq
      have c1 : binOp .add 9 (.string ⟨#[39]⟩) (.string (txt q)) = pure (.string (txt ([39] ++ q))) := cat [39] q (by simp; omega)
      have c2 : binOp .add 9 (.string (txt ([39] ++ q))) (.string ⟨#[39]⟩) = pure (.string (txt ([39] ++ q ++ [39]))) := cat ([39] ++ q) [39] (by simp; omega)
      generalize txt ([39] ++ q) = q1 at c1 c2
      have HC : Hid (txt sl = txt ([39] ++ q ++ [39])) := Lib.hid (by rw [HF.out, ← HQ.out]; rfl)
      generalize txt ([39] ++ q ++ [39]) = q2 at c2 HC
      clear hql
      go_enter Tryd.func12, Tryd.ntmps12
      go_wp2_with (first | (go_at_call 10; (with_reducible refine (HR.out _).mono ?_); rintro e w1 ⟨rfl, hb1⟩; obtain ⟨⟨f0, f1, f2⟩, -, hB1⟩ := box_after (n := 0) hb1) | (go_at_call 27; (with_reducible refine (HI.out w1 ((Ch.of_new (S := fun _ => False) hB1).cell HM.out id)).mono ?_); rintro e w2 ⟨rfl, hb2⟩))
      go_ret
      exact ⟨by rw [HC.out]; rfl, hB1.trans (hb2.mono hB1.size)⟩
    · simp only at h1 h2 h3; subst h1 h2
      have HI := Lib.hid (fun W => hex_any s W (by omega))
      have hql := hexL_length s.data.toList
      rw [size_data] at hql
      have HI2 : Hid (∀ W, Calls Tryd.prog 28 #[.string s] W fun e w' => e = .returned (.string (txt (hexL s.data.toList))) ∧ Below W.heap.size W w') := Lib.hid HI.out
      clear HI
      generalize hq : hexL s.data.toList = q at HI2 hql
      have HQ := Lib.hid hq
      clear hq
      have c1 : binOp .add 9 (.string ⟨#[120, 39]⟩) (.string (txt q)) = pure (.string (txt ([120, 39] ++ q))) := cat [120, 39] q (by simp; omega)
      have c2 : binOp .add 9 (.string (txt ([120, 39] ++ q))) (.string ⟨#[39]⟩) = pure (.string (txt ([120, 39] ++ q ++ [39]))) := cat ([120, 39] ++ q) [39] (by simp; omega)
      generalize txt ([120, 39] ++ q) = q1 at c1 c2
      have HC : Hid (txt sl = txt ([120, 39] ++ q ++ [39])) := Lib.hid (by rw [HF.out, ← HQ.out]; rfl)
      generalize txt ([120, 39] ++ q ++ [39]) = q2 at c2 HC
      clear hql
      go_enter Tryd.func12, Tryd.ntmps12
      go_wp2_with (first | (go_at_call 10; (with_reducible refine (HR.out _).mono ?_); rintro e w1 ⟨rfl, hb1⟩; obtain ⟨⟨f0, f1, f2⟩, -, hB1⟩ := box_after (n := 0) hb1) | (go_at_call 28; (with_reducible refine (HI2.out w1).mono ?_); rintro e w2 ⟨rfl, hb2⟩))
      go_ret
      exact ⟨by rw [HC.out]; rfl, hB1.trans (hb2.mono hB1.size)⟩
end Go.Proofs.YtmlllgcmhapadaaDoor
