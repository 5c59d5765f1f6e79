/- The walk of compareVals. -/
import Derived.Test.YtmlllgcmhapadaaDoorCmp
import Derived.Test.YtmlllgcmhapadaaDoorShelf
import Derived.Test.YtmlllgcmhapadaaDoorShown
import Derived.Deep.RegionHeld3
namespace Go.Proofs.YtmlllgcmhapadaaDoor
open Go Go.RowKit

theorem or_here (w : World) (x y z : Int) :
    Calls Tryd.prog 48 #[.slice (some ⟨w.heap.size, 0, none⟩) 3 3] (w.alloc (.cells #[.int .i64 x, .int .i64 y, .int .i64 z] 3)).drew fun e w' => e = .returned (.int .i64 (orI x (orI y z))) ∧ (w.alloc (.cells #[.int .i64 x, .int .i64 y, .int .i64 z] 3)).drew = w' :=
  or_any _ x y z _ (heap_alloc_new w (.cells #[.int .i64 x, .int .i64 y, .int .i64 z] 3))
set_option maxRecDepth 100000 in
set_option maxHeartbeats 600000 in
theorem compareVals_any (x y : V) (w : World) :
    Calls Tryd.prog 40 #[x.val, y.val] w fun e w' => e = .returned (.int .i64 (cmpV x y)) ∧ Below w.heap.size w w' := by
  obtain ⟨k, n, s⟩ := x
  obtain ⟨k', n', s'⟩ := y
  have HR := Lib.hid (show cmpV ⟨k, n, s⟩ ⟨k', n', s'⟩ = orI (cmpI k k') (orI (cmpI n n') (cmpB s.data.toList s'.data.toList)) from rfl)
  generalize cmpV ⟨k, n, s⟩ ⟨k', n', s'⟩ = R at HR
  have H1 := Lib.hid (Tryd.cmp_Compare_int k k')
  have H2 := Lib.hid (cmp64_any n n')
  have H3 := Lib.hid (Tryd.strings_Compare s s')
  unfold cmpI cmpB at HR
  generalize Lib.compareInt k k' = r1 at H1 HR
  have H2' : Hid (∀ w, Calls Tryd.prog 50 #[.int .i64 n, .int .i64 n'] w fun e w' => e = .returned (.int .i64 (Lib.compareInt n n')) ∧ w' = w) := Lib.hid H2.out
  clear H2
  generalize Lib.compareInt n n' = r2 at H2' HR
  generalize Lib.compareBytes s.data.toList s'.data.toList = r3 at H3 HR
  unfold V.val
  go_enter Tryd.func40, Tryd.ntmps40
  go_wp2_with fail
  obtain ⟨B1, B2, hB⟩ := keep6 (w := w) (x := ⟨k, n, s⟩) (y := ⟨k', n', s'⟩) (Below.refl _ _)
  obtain ⟨f0, f1, f2⟩ := B1.cells
  obtain ⟨g0, g1, g2⟩ := B2.cells
  simp only at f0 f1 f2 g0 g1 g2 hB
  clear B1 B2
  generalize (w.alloc (.cells #[.int .i64 k, .int .i64 n, .string s] 23)).alloc (.cells #[.int .i64 k', .int .i64 n', .string s'] 23) = W at *
  have hc : ∀ (p : Addr) v o, W.cell? p = some v → (W.alloc o).cell? p = some v := fun p v o h => (Ch.alloc (fun _ => False) W o).cell h id
  have HC := Lib.hid hc
  clear hc
  go_region_held3 (fun w' => w'.cell? ⟨w.heap.size, 0, none⟩ = some (.int .i64 k) ∧ w'.cell? ⟨w.heap.size, 1, none⟩ = some (.int .i64 n) ∧ w'.cell? ⟨w.heap.size, 2, none⟩ = some (.string s) ∧ w'.cell? ⟨w.heap.size + 1, 0, none⟩ = some (.int .i64 k') ∧ w'.cell? ⟨w.heap.size + 1, 1, none⟩ = some (.int .i64 n') ∧ w'.cell? ⟨w.heap.size + 1, 2, none⟩ = some (.string s'))
    (first | exact ⟨f0, f1, f2, g0, g1, g2⟩ | exact ⟨HC.out _ _ _ f0, HC.out _ _ _ f1, HC.out _ _ _ f2, HC.out _ _ _ g0, HC.out _ _ _ g1, HC.out _ _ _ g2⟩)
    (first
    | (go_at_call 49; (with_reducible refine (H1.out _).mono ?_); rintro e w1 ⟨rfl, rfl⟩)
    | (go_at_call 50; (with_reducible refine (H2'.out _).mono ?_); rintro e w1 ⟨rfl, rfl⟩)
    | (go_at_call 51; (with_reducible refine (H3.out _).mono ?_); rintro e w1 ⟨rfl, rfl⟩)
    | (go_at_call 48; (with_reducible refine (or_here W r1 r2 r3).mono ?_); rintro e w1 ⟨rfl, rfl⟩))
  all_goals
    go_wp2
    go_ret
    exact ⟨by rw [HR.out]; rfl, hB.trans (((Ch.alloc (fun _ => False) W _).tr (Ch.drew _ _)).new.mono hB.size)⟩
theorem drop_at (xs : List V) (i : Nat) (h : i < xs.length) : xs.drop i = at_ xs i :: xs.drop (i + 1) := by
  rw [List.drop_eq_getElem_cons h]
  unfold at_
  rw [List.getD_eq_getElem?_getD, List.getElem?_eq_getElem h]
  rfl
theorem cmpV_small (a b : V) : cmpV a b = -1 ∨ cmpV a b = 0 ∨ cmpV a b = 1 := by
  have hI : ∀ x y : Int, cmpI x y = -1 ∨ cmpI x y = 0 ∨ cmpI x y = 1 := fun x y => by
    rcases Int.lt_trichotomy x y with h | h | h
    · exact .inl (cmpI_lt h)
    · exact .inr (.inl (cmpI_eq h))
    · exact .inr (.inr (cmpI_gt h))
  have hB : ∀ l m : List UInt8, cmpB l m = -1 ∨ cmpB l m = 0 ∨ cmpB l m = 1 := by
    intro l
    induction l with
    | nil => intro m; cases m with
      | nil => exact .inr (.inl rfl)
      | cons b m => exact .inl rfl
    | cons a l ih => intro m; cases m with
      | nil => exact .inr (.inr rfl)
      | cons b m =>
        rw [cmpB_cons]
        unfold orI
        split
        · exact ih m
        · exact hI _ _
  unfold cmpV orI
  split
  · split
    · exact hB _ _
    · exact hI _ _
  · exact hI _ _
theorem cmpL_small : ∀ l m : List V, cmpL l m = -1 ∨ cmpL l m = 0 ∨ cmpL l m = 1
  | [], [] => .inr (.inl rfl)
  | [], _ :: _ => .inl rfl
  | _ :: _, [] => .inr (.inr rfl)
  | a :: l, b :: m => by
    rw [cmpL]
    unfold orI
    split
    · exact cmpL_small l m
    · exact cmpV_small a b

set_option maxRecDepth 100000 in
set_option maxHeartbeats 1000000 in
theorem compareFunc_any (a b : Option Addr) (c d : Nat) (xs ys : List V) (hx : xs.length ≤ 1000) (w : World) (ha : Rd w a xs) (hb : Rd w b ys) :
    Calls Tryd.prog 39 #[.slice a xs.length c, .slice b ys.length d, .func (.func 40) #[] #[]] w fun e w' => e = .returned (.int .i64 (cmpL xs ys)) ∧ Below w.heap.size w w' := by
  obtain ⟨R, hR⟩ : ∃ R, cmpL xs ys = R := ⟨_, rfl⟩
  rw [hR]
  have HR := Lib.hid hR
  clear hR
  go_enter Tryd.func39, Tryd.ntmps39
  go_wp2
  go_loopw [13] (fun i wr => ∃ (ii : Nat), i = .int .i64 (ii : Int) ∧ ii ≤ xs.length ∧ ii ≤ ys.length ∧ Hid (cmpL (xs.drop ii) (ys.drop ii) = R) ∧ Ch (fun _ => False) w wr) (fun i _ => xs.length - (intOf i).toNat)
  case atStart => exact ⟨0, rfl, Nat.zero_le _, Nat.zero_le _, HR, Ch.refl _ _⟩
  case round =>
    obtain ⟨ii, rfl, hi, hj, HI, hch⟩ := hrel
    by_cases hlt : ii < xs.length
    · have hlt' : (ii : Int) < (xs.length : Int) := by omega
      have hi0 : (0 : Int) ≤ (ii : Int) := by omega
      obtain ⟨b1, off1, rfl, p1, p2, p3⟩ := (ha.keep hch (fun _ _ => id)) ii hlt
      by_cases hlt2 : ii < ys.length
      · have hlt2' : (ii : Int) < (ys.length : Int) := by omega
        obtain ⟨b2, off2, rfl, q1, q2, q3⟩ := (hb.keep hch (fun _ _ => id)) ii hlt2
        have HD := Lib.hid (show orI (cmpV (at_ xs ii) (at_ ys ii)) (cmpL (xs.drop (ii + 1)) (ys.drop (ii + 1))) = R by rw [← HI.out, drop_at xs ii hlt, drop_at ys ii hlt2]; rfl)
        generalize at_ xs ii = x at p1 p2 p3 HD
        generalize at_ ys ii = y at q1 q2 q3 HD
        have HP := Lib.hid (compareVals_any x y)
        generalize cmpV x y = C at HP HD
        obtain ⟨k, n, s⟩ := x
        obtain ⟨k', n', s'⟩ := y
        unfold V.val at HP
        simp only at p1 p2 p3 q1 q2 q3 HP
        have q1' := (Ch.alloc (fun _ => False) wr (.cells #[.int .i64 k, .int .i64 n, .string s] 23)).cell q1 id
        have q2' := (Ch.alloc (fun _ => False) wr (.cells #[.int .i64 k, .int .i64 n, .string s] 23)).cell q2 id
        have q3' := (Ch.alloc (fun _ => False) wr (.cells #[.int .i64 k, .int .i64 n, .string s] 23)).cell q3 id
        by_cases hC : C = 0
        · subst hC
          go_wp2_with (go_at_call 40; (with_reducible refine (HP.out _).mono ?_); rintro e w1 ⟨rfl, hb1⟩)
          have hch1 : Ch (fun _ => False) w w1 := ((hch.tr (Ch.alloc _ _ _)).tr (Ch.alloc _ _ _)).tr (Ch.of_new hb1)
          clear hb1 hch p1 p2 p3 q1 q2 q3 q1' q2' q3'
          go_roundw
          case rel => exact ⟨ii + 1, by go_num, by omega, by omega, Lib.hid (by rw [← HD.out, orI_nil]), hch1⟩
          case measure => simp [intOf]; omega
        · have hC' : (C != 0) = true := by simpa using hC
          have HC := Lib.hid (show R = C by rw [← HD.out, orI_ne _ hC])
          go_wp2_with (go_at_call 40; (with_reducible refine (HP.out _).mono ?_); rintro e w1 ⟨rfl, hb1⟩)
          go_ret
          exact ⟨by rw [HC.out]; rfl, (((hch.tr (Ch.alloc _ _ _)).tr (Ch.alloc _ _ _)).tr (Ch.of_new hb1)).new⟩
      · have hlt2' : (ys.length : Int) ≤ (ii : Int) := by omega
        have HC := Lib.hid (show R = 1 by rw [← HI.out, List.drop_of_length_le (show ys.length ≤ ii by omega), drop_at xs ii hlt]; rfl)
        go_wp2
        go_ret
        exact ⟨by rw [HC.out]; rfl, (hch.tr (Ch.alloc _ _ _)).new⟩
    · have hlt' : (xs.length : Int) ≤ (ii : Int) := by omega
      by_cases hl : xs.length < ys.length
      · have HC := Lib.hid (show R = -1 by rw [← HI.out, List.drop_of_length_le (by omega), drop_at ys ii (by omega)]; rfl)
        go_wp2
        go_ret
        exact ⟨by rw [HC.out]; rfl, hch.new⟩
      · have HC := Lib.hid (show R = 0 by rw [← HI.out, List.drop_of_length_le (by omega), List.drop_of_length_le (by omega)]; rfl)
        go_wp2
        go_ret
        exact ⟨by rw [HC.out]; rfl, hch.new⟩
set_option maxHeartbeats 1000000 in
theorem compare_any (a b : Option Addr) (c d : Nat) (xs ys : List V) (hx : xs.length ≤ 1000) (w : World) (ha : Rd w a xs) (hb : Rd w b ys) :
    Calls Tryd.prog 24 #[.slice a xs.length c, .slice b ys.length d] w fun e w' => e = .returned (.int .i64 (cmpL xs ys)) ∧ Below w.heap.size w w' := by
  have HP := Lib.hid (compareFunc_any a b c d xs ys hx w ha hb)
  generalize cmpL xs ys = R at HP
  go_enter Tryd.func24, Tryd.ntmps24
  go_wp2_with (go_at_call 39; (with_reducible refine HP.out.mono ?_); rintro e w1 ⟨rfl, hb1⟩)
  go_ret
  exact ⟨rfl, hb1⟩
end Go.Proofs.YtmlllgcmhapadaaDoor
