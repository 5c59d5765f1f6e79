/- The walk of the law DiskFuel. -/
import Derived.Test.YtceejjocimgbmaaAwake
namespace Go.Proofs.Ytceejjocimgbmaa
open Go Go.RowKit Go.Maps

/-- One file of so many bytes, so many of them sure. -/
def files (j k : Nat) : List (List UInt8 × (List UInt8 × Nat)) := if j = 0 then [] else [([102], (List.replicate j 120, k))]
def lgF (n j : Nat) : Lg := ⟨1000, decide (n < j), true, ((n - j : Nat) : Int), files (min n j) 0⟩
def lgG (m : Nat) : Lg := ⟨1000, false, false, 0, files m m⟩
theorem files_used (r : Int) (a b : Bool) (f : Int) (j k : Nat) : (⟨r, a, b, f, files j k⟩ : Lg).used = j := by
  unfold Lg.used files
  split
  · rename_i h; simp [h]
  · simp
theorem files_put (r : Int) (a b : Bool) (f : Int) (j k : Nat) (hk : j = 0 → k = 0) : put [102] (((⟨r, a, b, f, files j k⟩ : Lg).old [102]).1 ++ [120], ((⟨r, a, b, f, files j k⟩ : Lg).old [102]).2) (files j k) = files (j + 1) k := by
  unfold Lg.old files
  by_cases h : j = 0
  · subst h; simp [put, look, hk rfl]
  · simp [put, look, h, List.replicate_succ']
theorem nameF : nameB [102] = true := by decide
theorem lgF_step (n j : Nat) (hn : n ≤ 50) : (lgF n j).app [102] [120] = lgF n (j + 1) ∧ (lgF n j).appC [102] [120] = if j < n then 0 else 3 := by
  unfold Lg.app Lg.appC
  rw [nameF]
  by_cases h1 : n < j
  · have e : (lgF n j).down = true := by simp [lgF, h1]
    rw [e]
    refine ⟨?_, ?_⟩
    · simp only [if_true]
      unfold lgF
      rw [show n - (j + 1) = n - j by omega, show min n (j + 1) = min n j by omega]
      simp [h1, show n < j + 1 by omega]
    · simp [show ¬ j < n by omega]
  · have e : (lgF n j).down = false := by simp [lgF, h1]
    have hu : (lgF n j).used = min n j := files_used _ _ _ _ _ _
    have hr : ¬ ((lgF n j).room - ((lgF n j).used : Int) < (([120] : List UInt8).length : Int)) := by
      rw [hu]; show ¬ ((1000 : Int) - _ < 1); omega
    rw [e, if_neg hr, if_neg hr]
    by_cases h2 : j < n
    · have hg : (lgF n j).go = true := by
        simp [Lg.go, lgF]
        omega
      have hs : (lgF n j).step = { lgF n j with fuel := ((n - j : Nat) : Int) - 1 } := by
        have : (0 : Int) < ((n - j : Nat) : Int) := by omega
        show (if true = true then (if 0 < ((n - j : Nat) : Int) then _ else _) else _) = _
        rw [if_pos rfl, if_pos this]
        rfl
      rw [hg, hs]
      refine ⟨?_, by simp [h2]⟩
      simp only [Bool.false_eq_true, if_false, if_true]
      have := files_put 1000 (decide (n < j)) true ((n - j : Nat) : Int) (min n j) 0 (fun _ => rfl)
      show (⟨1000, decide (n < j), true, ((n - j : Nat) : Int) - 1, put [102] _ (files (min n j) 0)⟩ : Lg) = _
      rw [show (lgF n j).old [102] = (⟨1000, decide (n < j), true, ((n - j : Nat) : Int), files (min n j) 0⟩ : Lg).old [102] from rfl, this]
      unfold lgF
      rw [show ((n - j : Nat) : Int) - 1 = ((n - (j + 1) : Nat) : Int) by omega, show min n j + 1 = min n (j + 1) by omega]
      simp [h1, show ¬ n < j + 1 by omega]
    · have ej : j = n := by omega
      subst ej
      have hg : (lgF j j).go = false := by simp [Lg.go, lgF]
      have hs : (lgF j j).step = { lgF j j with down := true } := by
        show (if true = true then (if 0 < ((j - j : Nat) : Int) then _ else _) else _) = _
        rw [if_pos rfl, if_neg (by omega)]
      rw [hg, hs]
      refine ⟨?_, by simp⟩
      simp only [Bool.false_eq_true, if_false, if_true]
      unfold lgF
      simp [show j - (j + 1) = 0 by omega]
theorem lgF_fall (n j : Nat) (hn : n ≤ 50) : (lgF n j).fall [1000] = lgG (min n j) := by
  have hm : min n j ≤ 50 := by omega
  unfold Lg.fall lgF lgG
  simp only
  congr 1
  generalize min n j = m at hm
  unfold files
  by_cases h : m = 0
  · simp [h, fallN]
  · have e : kept m 0 1000 = m := by unfold kept; omega
    simp [h, fallN, fallP, e]
theorem lgG_app (m : Nat) (hm : m ≤ 50) : (lgG m).appC [102] [120] = 0 ∧ ((lgG m).app [102] [120]).used = m + 1 := by
  have hu : (lgG m).used = m := files_used _ _ _ _ _ _
  have hr : ¬ ((lgG m).room - ((lgG m).used : Int) < (([120] : List UInt8).length : Int)) := by
    rw [hu]; show ¬ ((1000 : Int) - _ < 1); omega
  unfold Lg.app Lg.appC
  rw [nameF, if_neg hr, if_neg hr]
  refine ⟨rfl, ?_⟩
  show (⟨1000, false, false, 0, put [102] _ (files m m)⟩ : Lg).used = _
  rw [show (lgG m).old [102] = (⟨1000, false, false, 0, files m m⟩ : Lg).old [102] from rfl, files_put _ _ _ _ _ _ (fun h => h), files_used]

set_option maxRecDepth 100000 in
set_option maxHeartbeats 4000000 in
theorem diskFuel_out (n s : Int) (w : World) (h : n < 0 ∨ 50 < n ∨ s < 0 ∨ 50 < s) : Calls Try.prog 5 #[.int .i64 n, .int .i64 s] w fun e w' => e = .returned (.bool true) ∧ Below w.heap.size w w' := by
  have H1 := Lib.hid (awake_any w)
  by_cases h1 : n < 0
  · go_enter Try.func5, Try.ntmps5
    go_wp2_with (go_at_call 7; (with_reducible refine H1.out.mono ?_); rintro e w1 ⟨rfl, hb⟩)
    go_ret
    exact ⟨rfl, hb⟩
  · have h1' : 0 ≤ n := by omega
    by_cases h2 : 50 < n
    · go_enter Try.func5, Try.ntmps5
      go_wp2_with (go_at_call 7; (with_reducible refine H1.out.mono ?_); rintro e w1 ⟨rfl, hb⟩)
      go_ret
      exact ⟨rfl, hb⟩
    · have h2' : n ≤ 50 := by omega
      by_cases h3 : s < 0
      · go_enter Try.func5, Try.ntmps5
        go_wp2_with (go_at_call 7; (with_reducible refine H1.out.mono ?_); rintro e w1 ⟨rfl, hb⟩)
        go_ret
        exact ⟨rfl, hb⟩
      · have h3' : 0 ≤ s := by omega
        have h4' : 50 < s := by omega
        go_enter Try.func5, Try.ntmps5
        go_wp2_with (go_at_call 7; (with_reducible refine H1.out.mono ?_); rintro e w1 ⟨rfl, hb⟩)
        go_ret
        exact ⟨rfl, hb⟩

set_option maxRecDepth 100000 in
set_option maxHeartbeats 4000000 in
theorem diskFuel_in (n s : Nat) (w : World) (hn : n ≤ 50) (hs : s ≤ 50) : Calls Try.prog 5 #[.int .i64 (n : Int), .int .i64 (s : Int)] w fun e w' => e = .returned (.bool true) ∧ Below w.heap.size w w' := by
  have H1 := Lib.hid (awake_any w)
  have H2 : Hid (∀ W, _) := Lib.hid fun W => new_up W 1000 (by omega) (by omega)
  have H3 : Hid (∀ b W d, Up b W d ⟨1000, false, false, 0, []⟩ → Calls Try.prog 18 #[dp d, .int .i64 (n : Int)] W fun e w' => e = .returned (.tuple #[]) ∧ Up b w' d (lgF n 0) ∧ Ch (fun k => b ≤ k) W w') := Lib.hid fun b W d h => by
    refine (fuel_up h n (by omega)).mono ?_
    rintro e w' ⟨rfl, h', hc⟩
    refine ⟨rfl, ?_, hc⟩
    have : (lgF n 0) = ⟨1000, false, decide ((0 : Int) ≤ (n : Int)), (n : Int), []⟩ := by simp [lgF, files]
    rw [this]
    exact h'
  have H4 : Hid (∀ b W d j, b ≤ W.heap.size → Up b W d (lgF n j) → Calls Try.prog 10 #[dp d, .string ⟨#[102]⟩, .string ⟨#[120]⟩] W fun e w' => e = .returned (.int .i64 (if j < n then 0 else 3)) ∧ Up b w' d (lgF n (j + 1)) ∧ Ch (fun k => b ≤ k) W w') := Lib.hid fun b W d j hb h => by
    have hl : (lgF n j).fs.length < 1000000 := by show (files _ _).length < _; unfold files; split <;> simp
    have h' := append_up h hb ⟨#[102]⟩ ⟨#[120]⟩ hl (by decide)
    rw [show (⟨#[102]⟩ : ByteArray).data.toList = [102] from rfl, show (⟨#[120]⟩ : ByteArray).data.toList = [120] from rfl, (lgF_step n j hn).1, (lgF_step n j hn).2] at h'
    exact h'
  have hlF : ∀ a b, (files a b).length ≤ 1 := fun a b => by unfold files; split <;> simp
  have H5 : Hid (∀ b W d, Up b W d (lgF n s) → Calls Try.prog 9 #[dp d] W fun e w' => e = .returned (.bool (decide (n < s))) ∧ w' = W) := Lib.hid fun b W d h => down_up h
  have H6 : Hid (∀ b W d, Up b W d (lgF n s) → Calls Try.prog 19 #[dp d] W fun e w' => e = .returned (.int .i64 ((min n s : Nat) : Int)) ∧ w' = W) := Lib.hid fun b W d h => by
    have := used_up h
    rwa [show (lgF n s).used = min n s from files_used _ _ _ _ _ _] at this
  have H7 : Hid (∀ b W d, Up b W d (lgF n s) → Calls Try.prog 16 #[dp d, .slice (some ⟨W.heap.size, 0, none⟩) 1 1] (W.alloc (.cells #[.int .i64 1000] 3)) fun e w' => e = .returned (.tuple #[]) ∧ Up b w' d (lgG (min n s)) ∧ Ch (fun k => b ≤ k) W w') := Lib.hid fun b W d h => by
    have := fall_new h (Nat.le_trans (hlF _ _) (by omega)) 1000 3
    rwa [lgF_fall n s hn] at this
  have H8 : Hid (∀ b W d, Up b W d (lgG (min n s)) → Calls Try.prog 9 #[dp d] W fun e w' => e = .returned (.bool false) ∧ w' = W) := Lib.hid fun b W d h => down_up h
  have H9 : Hid (∀ b W d, b ≤ W.heap.size → Up b W d (lgG (min n s)) → Calls Try.prog 10 #[dp d, .string ⟨#[102]⟩, .string ⟨#[120]⟩] W fun e w' => e = .returned (.int .i64 0) ∧ Up b w' d ((lgG (min n s)).app [102] [120]) ∧ Ch (fun k => b ≤ k) W w') := Lib.hid fun b W d hb h => by
    have h' := append_up h hb ⟨#[102]⟩ ⟨#[120]⟩ (Nat.lt_of_le_of_lt (hlF _ _) (by omega)) (by decide)
    rw [show (⟨#[102]⟩ : ByteArray).data.toList = [102] from rfl, show (⟨#[120]⟩ : ByteArray).data.toList = [120] from rfl, (lgG_app (min n s) (by omega)).1] at h'
    exact h'
  have H10 : Hid (∀ b W d, Up b W d ((lgG (min n s)).app [102] [120]) → Calls Try.prog 19 #[dp d] W fun e w' => e = .returned (.int .i64 (((min n s : Nat) : Int) + 1)) ∧ w' = W) := Lib.hid fun b W d h => by
    have := used_up h
    rw [(lgG_app (min n s) (by omega)).2] at this
    rwa [show ((min n s + 1 : Nat) : Int) = ((min n s : Nat) : Int) + 1 from by omega] at this
  have hnI : (n : Int) ≤ 50 := by omega
  have hsI : (s : Int) ≤ 50 := by omega
  have hn0 : (0 : Int) ≤ (n : Int) := by omega
  have hs0 : (0 : Int) ≤ (s : Int) := by omega
  unfold dp at H2 H3 H4 H5 H6 H7 H8 H9 H10
  go_enter Try.func5, Try.ntmps5
  go_wp2_with (first
    | (go_at_call 7; (with_reducible refine H1.out.mono ?_); rintro e w1 ⟨rfl, b1⟩; have z1 := b1.size)
    | (go_at_call 8; (with_reducible refine (H2.out _).mono ?_); rintro e w2 ⟨rfl, h2, b2, z2⟩)
    | (go_at_call 18; (with_reducible refine (H3.out _ _ _ h2).mono ?_); rintro e w3 ⟨rfl, h3, b3⟩; have z3 := b3.size))
  have HC0 : Hid (Ch (fun k => w.heap.size ≤ k) w w3 ∧ w1.heap.size ≤ w3.heap.size ∧ w.heap.size ≤ w1.heap.size ∧ Up w1.heap.size w3 w1.heap.size (lgF n 0)) := Lib.hid ⟨((Ch.of_new b1).tr (Ch.of_below (b2.mono z1))).tr (b3.mono fun k _ hk => Nat.le_trans z1 hk), by omega, z1, h3⟩
  clear H1 H2 H3 b1 b2 b3 z2 z3 h2 h3
  generalize w1.heap.size = b at *
  go_loopw [7, 32] (fun dn i wr => ∃ j : Nat, i = .int .i64 (j : Int) ∧ j ≤ s ∧ dn = .int .i64 ((min n j : Nat) : Int) ∧ Hid (Ch (fun k => w.heap.size ≤ k) w wr ∧ b ≤ wr.heap.size ∧ w.heap.size ≤ b ∧ Up b wr b (lgF n j))) (fun _ i _ => s - (intOf i).toNat)
  case atStart => exact ⟨0, rfl, Nat.zero_le _, by simp, HC0⟩
  case round =>
    clear HC0
    obtain ⟨j, rfl, hj, rfl, HC⟩ := hrel
    by_cases hlt : j < s
    · have hlt' : (j : Int) < (s : Int) := by omega
      have HQ := Lib.hid (H4.out b wr b j HC.out.2.1 HC.out.2.2.2)
      have HE : Hid (∀ w', Up b w' b (lgF n (j + 1)) ∧ Ch (fun k => b ≤ k) wr w' → Hid (Ch (fun k => w.heap.size ≤ k) w w' ∧ b ≤ w'.heap.size ∧ w.heap.size ≤ b ∧ Up b w' b (lgF n (j + 1)))) := Lib.hid fun w' h => Lib.hid ⟨HC.out.1.tr (h.2.mono fun k _ hk => Nat.le_trans HC.out.2.2.1 hk), Nat.le_trans HC.out.2.1 h.2.size, HC.out.2.2.1, h.1⟩
      clear HC H4 H5 H6 H7 H8 H9 H10
      by_cases hjn : j < n
      · rw [if_pos hjn] at HQ
        have hmn : min n j = j := by omega
        have hmn' : min n (j + 1) = j + 1 := by omega
        rw [hmn]
        go_wp2_with (go_at_call 10; (with_reducible refine HQ.out.mono ?_); rintro e w4 ⟨rfl, h4⟩)
        go_roundw
        case rel => exact ⟨j + 1, by go_num, by omega, by rw [hmn']; go_num, HE.out _ h4⟩
        case measure => simp [intOf]; omega
      · rw [if_neg hjn] at HQ
        have hmn : min n j = n := by omega
        have hmn' : min n (j + 1) = n := by omega
        rw [hmn]
        go_wp2_with (go_at_call 10; (with_reducible refine HQ.out.mono ?_); rintro e w4 ⟨rfl, h4⟩)
        go_roundw
        case rel => exact ⟨j + 1, by go_num, by omega, by rw [hmn'], HE.out _ h4⟩
        case measure => simp [intOf]; omega
    · have hlt' : (s : Int) ≤ (j : Int) := by omega
      have ej : j = s := by omega
      subst ej
      have hm1 : min n j ≤ 50 := by omega
      have hm2 : ((min n j : Nat) : Int) = min (n : Int) (j : Int) := by omega
      have hU := HC.out.2.2.2
      have hz := HC.out.2.1
      have hcw := HC.out.1
      have hbb := HC.out.2.2.1
      have HH := Lib.hid (And.intro hcw hbb)
      clear hcw H4 HC
      generalize min n j = m at *
      have hm0 : (0 : Int) ≤ (m : Int) := by omega
      by_cases hnj : n < j
      · rw [decide_eq_true hnj] at H5
        have hnj' : (n : Int) < (j : Int) := by omega
        go_wp2_with (first
          | (go_at_call 9; (with_reducible refine (H5.out _ _ _ hU).mono ?_); rintro e w5 ⟨rfl, rfl⟩; clear H5)
          | (go_at_call 19; (with_reducible refine (H6.out _ _ _ hU).mono ?_); rintro e w6 ⟨rfl, rfl⟩; clear H6)
          | (go_at_call 16; (with_reducible refine (H7.out _ _ _ hU).mono ?_); rintro e w7 ⟨rfl, h7, b7⟩; have z7 := b7.size)
          | (go_at_call 9; (with_reducible refine (H8.out _ _ _ h7).mono ?_); rintro e w8 ⟨rfl, rfl⟩)
          | (go_at_call 10; (with_reducible refine (H9.out _ _ _ (by omega) h7).mono ?_); rintro e w9 ⟨rfl, h9, b9⟩)
          | (go_at_call 19; (with_reducible refine (H10.out _ _ _ h9).mono ?_); rintro e w10 ⟨rfl, rfl⟩))
        go_ret
        refine ⟨rfl, ?_⟩
        refine Ch.below ((HH.out.1.tr (b7.mono fun k _ hk => Nat.le_trans HH.out.2 hk)).tr (b9.mono fun k _ hk => Nat.le_trans HH.out.2 hk)) (Nat.le_refl _) ?_
        intro k hk h
        omega
      · rw [decide_eq_false hnj] at H5
        have hnj' : (j : Int) ≤ (n : Int) := by omega
        go_wp2_with (first
          | (go_at_call 9; (with_reducible refine (H5.out _ _ _ hU).mono ?_); rintro e w5 ⟨rfl, rfl⟩; clear H5)
          | (go_at_call 19; (with_reducible refine (H6.out _ _ _ hU).mono ?_); rintro e w6 ⟨rfl, rfl⟩; clear H6)
          | (go_at_call 16; (with_reducible refine (H7.out _ _ _ hU).mono ?_); rintro e w7 ⟨rfl, h7, b7⟩; have z7 := b7.size)
          | (go_at_call 9; (with_reducible refine (H8.out _ _ _ h7).mono ?_); rintro e w8 ⟨rfl, rfl⟩)
          | (go_at_call 10; (with_reducible refine (H9.out _ _ _ (by omega) h7).mono ?_); rintro e w9 ⟨rfl, h9, b9⟩)
          | (go_at_call 19; (with_reducible refine (H10.out _ _ _ h9).mono ?_); rintro e w10 ⟨rfl, rfl⟩))
        go_ret
        refine ⟨rfl, ?_⟩
        refine Ch.below ((HH.out.1.tr (b7.mono fun k _ hk => Nat.le_trans HH.out.2 hk)).tr (b9.mono fun k _ hk => Nat.le_trans HH.out.2 hk)) (Nat.le_refl _) ?_
        intro k hk h
        omega
theorem diskFuel_any (n s : Int) (w : World) : Calls Try.prog 5 #[.int .i64 n, .int .i64 s] w fun e w' => e = .returned (.bool true) ∧ Below w.heap.size w w' := by
  by_cases h : n < 0 ∨ 50 < n ∨ s < 0 ∨ 50 < s
  · exact diskFuel_out n s w h
  · obtain ⟨a, rfl⟩ : ∃ a : Nat, n = (a : Int) := ⟨n.toNat, by omega⟩
    obtain ⟨b, rfl⟩ : ∃ b : Nat, s = (b : Int) := ⟨s.toNat, by omega⟩
    exact diskFuel_in a b w (by omega) (by omega)
end Go.Proofs.Ytceejjocimgbmaa
