/- Walks of the document's One and Compare. -/
import Derived.Test.YtmlllgcmhapadaaDoorCmpV
import Derived.Lib.QuietBelow
namespace Go.Proofs.YtmlllgcmhapadaaDoor
open Go Go.RowKit Go.Sort

theorem lss_text (t : TypeId) (a b : ByteArray) : binOp .lss t (.string a) (.string b) = pure (.bool (decide (cmpB a.data.toList b.data.toList < 0))) := by
  simp [binOp, Op.stringOp, less_cmp, ByteArray.toList_eq]
theorem less_text (a b : ByteArray) : Op.bytesLess a.toList b.toList = decide (cmpB a.data.toList b.data.toList < 0) := by rw [less_cmp, ByteArray.toList_eq, ByteArray.toList_eq]
theorem eq_text (a b : ByteArray) : (a.toList == b.toList) = decide (cmpB a.data.toList b.data.toList = 0) := by
  rw [Bool.eq_iff_iff, beq_iff_eq, decide_eq_true_eq, cmpB_zero, ByteArray.toList_eq, ByteArray.toList_eq]
theorem not_less (C : Int) : (!decide (C < 0) && !decide (C = 0)) = decide (0 < C) := by
  rcases Int.lt_trichotomy C 0 with h | h | h
  · rw [decide_eq_true h, decide_eq_false (show ¬ 0 < C by omega)]; rfl
  · subst h; rfl
  · rw [decide_eq_false (show ¬ C < 0 by omega), decide_eq_false (show ¬ C = 0 by omega), decide_eq_true h]; rfl
theorem gtr_text (t : TypeId) (a b : ByteArray) : binOp .gtr t (.string a) (.string b) = pure (.bool (decide (0 < cmpB a.data.toList b.data.toList))) := by
  simp only [binOp, Op.stringOp]
  rw [less_text, eq_text, Bool.not_or, not_less]
set_option maxRecDepth 100000 in
set_option maxHeartbeats 1000000 in
theorem one_any (x y : V) (w : World) :
    Calls Tryd.prog 41 #[x.val, y.val] w fun e w' => e = .returned (.int .i64 (cmpV x y)) ∧ Below w.heap.size w w' := by
  obtain ⟨k, n, s⟩ := x
  obtain ⟨k', n', s'⟩ := y
  have HR := Lib.hid (show cmpV ⟨k, n, s⟩ ⟨k', n', s'⟩ = orI (cmpI k k') (orI (cmpI n n') (cmpB s.data.toList s'.data.toList)) from rfl)
  generalize cmpV ⟨k, n, s⟩ ⟨k', n', s'⟩ = R at HR
  have hBl : Below w.heap.size w ((w.alloc (.cells #[.int .i64 k, .int .i64 n, .string s] 23)).alloc (.cells #[.int .i64 k', .int .i64 n', .string s'] 23)) := ((Ch.alloc (fun _ => False) w _).tr (Ch.alloc _ _ _)).new
  unfold V.val
  rcases Int.lt_trichotomy k k' with h | h | h
  · have HX := Lib.hid (show R = -1 by rw [HR.out, cmpI_lt h]; rfl)
    go_enter Tryd.func41, Tryd.ntmps41
    go_wp2
    go_ret
    exact ⟨by rw [HX.out]; rfl, hBl⟩
  · subst h
    have HR2 := Lib.hid (show R = orI (cmpI n n') (cmpB s.data.toList s'.data.toList) by rw [HR.out, cmpI_eq rfl, orI_nil])
    clear HR
    rcases Int.lt_trichotomy n n' with h | h | h
    · have HX := Lib.hid (show R = -1 by rw [HR2.out, cmpI_lt h]; rfl)
      go_enter Tryd.func41, Tryd.ntmps41
      go_wp2
      go_ret
      exact ⟨by rw [HX.out]; rfl, hBl⟩
    · subst h
      have HR3 := Lib.hid (show R = cmpB s.data.toList s'.data.toList by rw [HR2.out, cmpI_eq rfl, orI_nil])
      clear HR2
      have l1 := lss_text 9 s s'
      have l2 := gtr_text 9 s s'
      have hB3 : cmpB s.data.toList s'.data.toList = -1 ∨ cmpB s.data.toList s'.data.toList = 0 ∨ cmpB s.data.toList s'.data.toList = 1 := by
        have := cmpV_small ⟨0, 0, s⟩ ⟨0, 0, s'⟩
        unfold cmpV at this
        rwa [cmpI_eq rfl, orI_nil, orI_nil] at this
      generalize cmpB s.data.toList s'.data.toList = C at l1 l2 hB3 HR3
      rcases hB3 with rfl | rfl | rfl
      · go_enter Tryd.func41, Tryd.ntmps41
        go_wp2
        go_ret
        exact ⟨by rw [HR3.out]; rfl, hBl⟩
      · go_enter Tryd.func41, Tryd.ntmps41
        go_wp2
        go_ret
        exact ⟨by rw [HR3.out]; rfl, hBl⟩
      · go_enter Tryd.func41, Tryd.ntmps41
        go_wp2
        go_ret
        exact ⟨by rw [HR3.out]; rfl, hBl⟩
    · have HX := Lib.hid (show R = 1 by rw [HR2.out, cmpI_gt h]; rfl)
      have h' : ¬ n < n' := by omega
      go_enter Tryd.func41, Tryd.ntmps41
      go_wp2
      go_ret
      exact ⟨by rw [HX.out]; rfl, hBl⟩
  · have HX := Lib.hid (show R = 1 by rw [HR.out, cmpI_gt h]; rfl)
    have h' : ¬ k < k' := by omega
    go_enter Tryd.func41, Tryd.ntmps41
    go_wp2
    go_ret
    exact ⟨by rw [HX.out]; rfl, hBl⟩

set_option maxRecDepth 100000 in
set_option maxHeartbeats 1000000 in
theorem rcompare_any (a b : Option Addr) (c d : Nat) (xs ys : List V) (hx : xs.length ≤ 1000) (w : World) (ha : Rd w a xs) (hb : Rd w b ys) :
    Calls Tryd.prog 25 #[.slice a xs.length c, .slice b ys.length d] w fun e w' => e = .returned (.int .i64 (cmpL xs ys)) ∧ Below w.heap.size w w' := by
  obtain ⟨R, hR⟩ : ∃ R, cmpL xs ys = R := ⟨_, rfl⟩
  rw [hR]
  have HR := Lib.hid hR
  clear hR
  go_enter Tryd.func25, Tryd.ntmps25
  go_wp2
  go_loopw [5] (fun i wr => ∃ (ii : Nat), i = .int .i64 (ii : Int) ∧ ii ≤ xs.length ∧ ii ≤ ys.length ∧ Hid (cmpL (xs.drop ii) (ys.drop ii) = R) ∧ Ch (fun _ => False) w wr) (fun i _ => xs.length - (intOf i).toNat)
  case atStart => exact ⟨0, rfl, Nat.zero_le _, Nat.zero_le _, HR, Ch.refl _ _⟩
  case round =>
    obtain ⟨ii, rfl, hi, hj, HI, hch⟩ := hrel
    by_cases hlt : ii < xs.length
    · have hlt' : (ii : Int) < (xs.length : Int) := by omega
      have hi0 : (0 : Int) ≤ (ii : Int) := by omega
      by_cases hlt2 : ii < ys.length
      · have hlt2' : (ii : Int) < (ys.length : Int) := by omega
        obtain ⟨b1, off1, rfl, p1, p2, p3⟩ := (ha.keep hch (fun _ _ => id)) ii hlt
        obtain ⟨b2, off2, rfl, q1, q2, q3⟩ := (hb.keep hch (fun _ _ => id)) ii hlt2
        have HD := Lib.hid (show orI (cmpV (at_ xs ii) (at_ ys ii)) (cmpL (xs.drop (ii + 1)) (ys.drop (ii + 1))) = R by rw [← HI.out, drop_at xs ii hlt, drop_at ys ii hlt2]; rfl)
        generalize at_ xs ii = x at p1 p2 p3 HD
        generalize at_ ys ii = y at q1 q2 q3 HD
        have HP := Lib.hid (one_any x y)
        generalize cmpV x y = C at HP HD
        obtain ⟨k, n, s⟩ := x
        obtain ⟨k', n', s'⟩ := y
        unfold V.val at HP
        simp only at p1 p2 p3 q1 q2 q3 HP
        have p1' := cell_regrown p1
        have p2' := cell_regrown p2
        have p3' := cell_regrown p3
        have q1' := cell_regrown q1
        have q2' := cell_regrown q2
        have q3' := cell_regrown q3
        clear p1 p2 p3 q1 q2 q3
        have cc := Lib.hid (fun d os => Calls.regrown_of (HP.out (grow (redrawn wr d) os)))
        go_wp2_with fail
        refine wp_region_quiet_below mixed (by kernel_rfl) ?_
        repeat (quiet_step ((go_at_call 41; with_reducible exact cc.out _ _)))
        refine wpQuiet_nil ?_
        intro _ hw'
        obtain ⟨⟨dq, osq⟩, hw''⟩ := hw'
        subst hw''
        have hch1 : Ch (fun _ => False) w (grow (redrawn wr dq) osq) := hch.tr (Ch.of_new (below_regrown wr dq osq))
        clear hch p1' p2' p3' q1' q2' q3'
        generalize grow (redrawn wr dq) osq = w1 at hch1
        by_cases hC : C = 0
        · subst hC
          go_wp2
          go_roundw
          case rel => exact ⟨ii + 1, by go_num, by omega, by omega, Lib.hid (by rw [← HD.out, orI_nil]), hch1⟩
          case measure => simp [intOf]; omega
        · have hC' : (C != 0) = true := by simpa using hC
          have HC := Lib.hid (show R = C by rw [← HD.out, orI_ne _ hC])
          go_wp2
          go_ret
          exact ⟨by rw [HC.out]; rfl, hch1.new⟩
      · have hlt2' : (ys.length : Int) ≤ (ii : Int) := by omega
        have HC := Lib.hid (show R = 1 by rw [← HI.out, List.drop_of_length_le (show ys.length ≤ ii by omega), drop_at xs ii hlt]; rfl)
        have hl : ¬ xs.length < ys.length := by omega
        have hl2 : ys.length < xs.length := by omega
        go_wp2
        go_ret
        exact ⟨by rw [HC.out]; rfl, hch.new⟩
    · have hlt' : (xs.length : Int) ≤ (ii : Int) := by omega
      by_cases hl : xs.length < ys.length
      · have HC := Lib.hid (show R = -1 by rw [← HI.out, List.drop_of_length_le (by omega), drop_at ys ii (by omega)]; rfl)
        go_wp2
        go_ret
        exact ⟨by rw [HC.out]; rfl, hch.new⟩
      · have HC := Lib.hid (show R = 0 by rw [← HI.out, List.drop_of_length_le (by omega), List.drop_of_length_le (by omega)]; rfl)
        have hl2 : ¬ ys.length < xs.length := by omega
        go_wp2
        go_ret
        exact ⟨by rw [HC.out]; rfl, hch.new⟩
end Go.Proofs.YtmlllgcmhapadaaDoor
