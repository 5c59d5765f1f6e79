/- Walks of Sorted over numbers, at two pairs. -/
import Derived.Test.YtlgamaldngkdnaaOf
import Derived.Deep.RegionHeld3
import Derived.BigQuiet
import Derived.StillTailTactics
import Derived.BigRegion
namespace Go.Proofs.Ytlgamaldngkdnaa
open Go Go.RowKit

set_option maxHeartbeats 400000 in
theorem isNaN_int (a : Int) (w : World) : Calls Try.prog 52 #[.int .i64 a] w fun e w' => e = .returned (.bool false) ∧ w' = w := by
  go_enter Try.func52, Try.ntmps52
  go_wp2
  go_ret
  exact ⟨by simp, rfl⟩
set_option maxHeartbeats 400000 in
theorem less_int (a b : Int) (w : World) : Calls Try.prog 47 #[.int .i64 a, .int .i64 b] w fun e w' => e = .returned (.bool (decide (a < b))) ∧ w' = w := by
  go_enter Try.func47, Try.ntmps47
  go_wp2_with (go_at_call 52; refine (isNaN_int _ _).mono ?_; rintro e w' ⟨rfl, rfl⟩)
  go_ret
  exact ⟨by simp, rfl⟩
def cmpI (a b : Int) : Int := if a < b then -1 else if b < a then 1 else 0
set_option maxHeartbeats 400000 in
theorem compare_int (a b : Int) (w : World) : Calls Try.prog 46 #[.int .i64 a, .int .i64 b] w fun e w' => e = .returned (.int .i64 (cmpI a b)) ∧ w' = w := by
  by_cases h1 : a < b
  · have HC : Hid (cmpI a b = -1) := Lib.hid (by unfold cmpI; rw [if_pos h1])
    go_enter Try.func46, Try.ntmps46
    go_wp2_with (go_at_call 52; refine (isNaN_int _ _).mono ?_; rintro e w' ⟨rfl, rfl⟩)
    go_ret
    exact ⟨by rw [HC.out]; rfl, rfl⟩
  · by_cases h2 : b < a
    · have HC : Hid (cmpI a b = 1) := Lib.hid (by unfold cmpI; rw [if_neg h1, if_pos h2])
      go_enter Try.func46, Try.ntmps46
      go_wp2_with (go_at_call 52; refine (isNaN_int _ _).mono ?_; rintro e w' ⟨rfl, rfl⟩)
      go_ret
      exact ⟨by rw [HC.out]; rfl, rfl⟩
    · have HC : Hid (cmpI a b = 0) := Lib.hid (by unfold cmpI; rw [if_neg h1, if_neg h2])
      go_enter Try.func46, Try.ntmps46
      go_wp2_with (go_at_call 52; refine (isNaN_int _ _).mono ?_; rintro e w' ⟨rfl, rfl⟩)
      go_ret
      exact ⟨by rw [HC.out]; rfl, rfl⟩
set_option maxHeartbeats 400000 in
theorem cmp45_any (a b : Int) (s t : ByteArray) (w : World) : Calls Try.prog 45 #[.agg #[.int .i64 a, .string s], .agg #[.int .i64 b, .string t]] w fun e w' => e = .returned (.int .i64 (cmpI a b)) ∧ w' = (w.alloc (.cells #[.int .i64 a, .string s] 59)).alloc (.cells #[.int .i64 b, .string t] 59) := by
  go_enter Try.func45, Try.ntmps45
  go_wp2_with (go_at_call 46; refine (compare_int _ _ _).mono ?_; rintro e w' ⟨rfl, rfl⟩)
  go_ret
  exact ⟨rfl, rfl⟩

/-- Four cells of block g. -/
def D4 (w : World) (g : Nat) (a : Int) (s : ByteArray) (b : Int) (t : ByteArray) : Prop :=
  (w.cell? ⟨g, 0, none⟩ = some (.int .i64 a) ∧ w.cell? ⟨g, 1, none⟩ = some (.string s) ∧ w.cell? ⟨g, 2, none⟩ = some (.int .i64 b) ∧ w.cell? ⟨g, 3, none⟩ = some (.string t)) ∧
  (w.frozen? ⟨g, 0, none⟩ = false ∧ w.frozen? ⟨g, 1, none⟩ = false ∧ w.frozen? ⟨g, 2, none⟩ = false ∧ w.frozen? ⟨g, 3, none⟩ = false)
theorem D4.keep {S : Nat → Prop} {w w' : World} {g : Nat} {a b : Int} {s t : ByteArray} (h : D4 w g a s b t) (hc : Ch S w w') (hn : ¬ S g) : D4 w' g a s b t := by
  obtain ⟨⟨c0, c1, c2, c3⟩, f0, f1, f2, f3⟩ := h
  exact ⟨⟨hc.cell (p := ⟨g, 0, none⟩) c0 hn, hc.cell (p := ⟨g, 1, none⟩) c1 hn, hc.cell (p := ⟨g, 2, none⟩) c2 hn, hc.cell (p := ⟨g, 3, none⟩) c3 hn⟩,
    hc.frozen (p := ⟨g, 0, none⟩) c0 f0 hn, hc.frozen (p := ⟨g, 1, none⟩) c1 f1 hn, hc.frozen (p := ⟨g, 2, none⟩) c2 f2 hn, hc.frozen (p := ⟨g, 3, none⟩) c3 f3 hn⟩
theorem cell_set4 (w : World) (g : Nat) (j k : Nat) (x y : Value) (h : w.cell? ⟨g, j, none⟩ = some x) : (w.setCell ⟨g, k, none⟩ y).cell? ⟨g, j, none⟩ = some (if j = k then y else x) := by
  by_cases e : j = k
  · subst e; rw [World.cell?_setCell_same _ _ _ h, if_pos rfl]
  · rw [World.cell?_setCell_other _ _ _ _ (by intro he; injection he; omega), if_neg e]; exact h
theorem D4.swap {w : World} {g : Nat} {a b : Int} {s t : ByteArray} (h : D4 w g a s b t) : D4 ((((w.setCell ⟨g, 2, none⟩ (.int .i64 a)).setCell ⟨g, 3, none⟩ (.string s)).setCell ⟨g, 0, none⟩ (.int .i64 b)).setCell ⟨g, 1, none⟩ (.string t)) g b t a s := by
  obtain ⟨⟨c0, c1, c2, c3⟩, f0, f1, f2, f3⟩ := h
  refine ⟨⟨?_, ?_, ?_, ?_⟩, ?_, ?_, ?_, ?_⟩
  · exact cell_set4 _ g 0 1 _ _ (cell_set4 _ g 0 0 _ _ (cell_set4 _ g 0 3 _ _ (cell_set4 _ g 0 2 _ _ c0)))
  · exact cell_set4 _ g 1 1 _ _ (cell_set4 _ g 1 0 _ _ (cell_set4 _ g 1 3 _ _ (cell_set4 _ g 1 2 _ _ c1)))
  · exact cell_set4 _ g 2 1 _ _ (cell_set4 _ g 2 0 _ _ (cell_set4 _ g 2 3 _ _ (cell_set4 _ g 2 2 _ _ c2)))
  · exact cell_set4 _ g 3 1 _ _ (cell_set4 _ g 3 0 _ _ (cell_set4 _ g 3 3 _ _ (cell_set4 _ g 3 2 _ _ c3)))
  · simp only [World.frozen?_setCell]; exact f0
  · simp only [World.frozen?_setCell]; exact f1
  · simp only [World.frozen?_setCell]; exact f2
  · simp only [World.frozen?_setCell]; exact f3
set_option maxRecDepth 100000 in
set_option maxHeartbeats 1000000 in
theorem ins2 (g cap : Nat) (s t : ByteArray) (w : World) (h : D4 w g 2 s 1 t) :
    Calls Try.prog 55 #[.slice (some ⟨g, 0, none⟩) 2 cap, .int .i64 0, .int .i64 2, .func (.func 45) #[] #[]] w fun e w' => e = .returned (.tuple #[]) ∧ D4 w' g 1 t 2 s ∧ Ch (fun k => k = g) w w' := by
  go_enter Try.func55, Try.ntmps55
  go_wp2
  go_loopw [8] (fun i wr => (i = .int .i64 1 ∧ D4 wr g 2 s 1 t ∧ Ch (fun k => k = g) w wr) ∨ (i = .int .i64 2 ∧ D4 wr g 1 t 2 s ∧ Ch (fun k => k = g) w wr)) (fun i _ => 2 - (intOf i).toNat)
  case atStart => exact .inl ⟨rfl, h, Ch.refl _ _⟩
  case round =>
    clear h
    rcases hrel with ⟨rfl, h, hc⟩ | ⟨rfl, h, hc⟩
    · go_wp2
      go_loopw [9] (fun j w2 => (j = .int .i64 1 ∧ D4 w2 g 2 s 1 t ∧ Ch (fun k => k = g) w w2) ∨ (j = .int .i64 0 ∧ D4 w2 g 1 t 2 s ∧ Ch (fun k => k = g) w w2)) (fun j _ => (intOf j).toNat)
      case atStart => exact .inl ⟨rfl, h, hc⟩
      case round =>
        clear h hc
        rcases hrel with ⟨rfl, h, hc⟩ | ⟨rfl, h, hc⟩
        · have h' := h
          obtain ⟨⟨c0, c1, c2, c3⟩, f0, f1, f2, f3⟩ := h'
          go_wp2_with fail
          have hw0 : IntKind.i64.wrap (0 : Int) = 0 := by decide
          have hcm : cmpI 1 2 = -1 := by decide
          go_still_tail 14, (by kernel_rfl)
          change wpList _ _ _ _ _ wr.drew
          have hd := h.keep (Ch.drew (fun _ => False) wr) id
          have hcd := hc.tr (Ch.drew (fun k => k = g) wr)
          clear c0 c1 c2 c3 f0 f1 f2 f3 h hc
          generalize wr.drew = wq at hd hcd ⊢
          have hgl := World.block_lt_of_cell? _ _ hd.1.1
          go_wp2_with (go_at_call 45; refine (cmp45_any _ _ _ _ _).mono ?_; rintro e w' ⟨rfl, rfl⟩)
          have hd2 := hd.keep ((Ch.alloc (fun _ => False) wq (.cells #[.int .i64 1, .string t] 59)).tr (Ch.alloc _ _ (.cells #[.int .i64 2, .string s] 59))) id
          have hc2 := (hcd.tr (Ch.alloc _ wq (.cells #[.int .i64 1, .string t] 59))).tr (Ch.alloc _ _ (.cells #[.int .i64 2, .string s] 59))
          clear hd hcd
          generalize (wq.alloc (.cells #[.int .i64 1, .string t] 59)).alloc (.cells #[.int .i64 2, .string s] 59) = wz at hd2 hc2 ⊢
          have hsw := hd2.swap
          have hsc : Ch (fun k => k = g) w ((((wz.setCell ⟨g, 2, none⟩ (.int .i64 2)).setCell ⟨g, 3, none⟩ (.string s)).setCell ⟨g, 0, none⟩ (.int .i64 1)).setCell ⟨g, 1, none⟩ (.string t)) :=
            (((hc2.tr (Ch.setCell _ _ _ fun _ => rfl)).tr (Ch.setCell _ _ _ fun _ => rfl)).tr (Ch.setCell _ _ _ fun _ => rfl)).tr (Ch.setCell _ _ _ fun _ => rfl)
          obtain ⟨⟨c0, c1, c2, c3⟩, f0, f1, f2, f3⟩ := hd2
          go_region
          clear c0 c1 c2 c3 f0 f1 f2 f3 hc2
          generalize (((wz.setCell ⟨g, 2, none⟩ (.int .i64 2)).setCell ⟨g, 3, none⟩ (.string s)).setCell ⟨g, 0, none⟩ (.int .i64 1)).setCell ⟨g, 1, none⟩ (.string t) = wy at hsw hsc ⊢
          have hsw2 : D4 wy.drew g 1 t 2 s := hsw
          have hsc2 := hsc.tr (Ch.drew _ wy)
          go_wp2
          go_roundw
          case rel => exact .inr ⟨rfl, hsw2, hsc2⟩
          case measure => simp [intOf]
        · have h' := h
          obtain ⟨⟨c0, c1, c2, c3⟩, f0, f1, f2, f3⟩ := h'
          go_wp2_with fail
          go_quiet (fail)
          have h2 : ∀ n, D4 (wr.drewN n) g 1 t 2 s := fun _ => h
          have hc2 : ∀ n, Ch (fun k => k = g) w (wr.drewN n) := fun n => hc.tr (Ch.drewN _ wr n)
          clear c0 c1 c2 c3 f0 f1 f2 f3 h hc
          go_wp2
          go_roundw
          case rel => exact .inr ⟨rfl, h2 _, hc2 _⟩
          case measure => simp [intOf]
    · go_wp2
      go_end0
      exact ⟨rfl, h, hc⟩
end Go.Proofs.Ytlgamaldngkdnaa
