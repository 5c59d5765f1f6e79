/- Which list is a tuple: plainly, and the walks. -/
import Derived.Test.YtmlllgcmhapadaaDoorRight
namespace Go.Proofs.YtmlllgcmhapadaaDoor
open Go Go.RowKit

def tupleB (xs : List V) : Bool := decide (xs.length ≤ 64) && xs.all rightB
theorem all_take_succ (xs : List V) (i : Nat) (h : i < xs.length) : (xs.take (i + 1)).all rightB = ((xs.take i).all rightB && rightB (at_ xs i)) := by
  rw [take_succ_v xs i h, List.all_append]; simp
theorem all_of_take_false (xs : List V) (i : Nat) (h : (xs.take i).all rightB = false) : xs.all rightB = false := by
  rw [← List.take_append_drop i xs, List.all_append, h, Bool.false_and]

set_option maxRecDepth 100000 in
set_option maxHeartbeats 1000000 in
theorem isTuple_any (a : Option Addr) (cap : Nat) (xs : List V) (w : World) (hr : Rd w a xs) :
    Calls Tryd.prog 31 #[.slice a xs.length cap] w fun e w' => e = .returned (.bool (tupleB xs)) ∧ Below w.heap.size w w' := by
  by_cases hn : xs.length ≤ 64
  · have hn' : (xs.length : Int) ≤ 64 := by omega
    have hT : tupleB xs = xs.all rightB := by unfold tupleB; rw [decide_eq_true hn, Bool.true_and]
    have HT := Lib.hid hT
    clear hT
    go_enter Tryd.func31, Tryd.ntmps31
    go_wp2
    go_loopw [10] (fun i wr => ∃ (ii : Nat), i = .int .i64 (ii : Int) ∧ ii ≤ xs.length ∧ Hid ((xs.take ii).all rightB = true) ∧ Ch (fun _ => False) w wr) (fun i _ => xs.length - (intOf i).toNat)
    case atStart => exact ⟨0, rfl, Nat.zero_le _, Lib.hid (by simp), Ch.refl _ _⟩
    case round =>
      obtain ⟨ii, rfl, hi, hR, hch⟩ := hrel
      by_cases hlt : ii < xs.length
      · have hlt' : (ii : Int) < (xs.length : Int) := by omega
        have hi0 : (0 : Int) ≤ (ii : Int) := by omega
        obtain ⟨b, off, rfl, hc1, hc2, hc3⟩ := (hr.keep hch (fun _ _ => id)) ii hlt
        have HS := Lib.hid (all_take_succ xs ii hlt)
        have HF := Lib.hid (all_of_take_false xs (ii + 1))
        generalize at_ xs ii = y at hc1 hc2 hc3 HS
        have P := right_any y
        unfold V.val at P
        cases hy : rightB y with
        | true =>
          rw [hy] at P
          have HY := Lib.hid hy
          clear hy
          obtain ⟨k, n, s⟩ := y
          simp only at hc1 hc2 hc3 P
          have HP := Lib.hid P
          clear P
          go_wp2_with (go_at_call 10; (with_reducible refine (HP.out _).mono ?_); rintro e w1 ⟨rfl, hb1⟩)
          have hch3 : Ch (fun _ => False) w w1 := (hch.tr (Ch.alloc _ _ _)).tr (Ch.of_new hb1)
          clear hb1 hc1 hc2 hc3 hch
          go_roundw
          case rel => exact ⟨ii + 1, by go_num, by omega, Lib.hid (by rw [HS.out, hR.out, HY.out]; rfl), hch3⟩
          case measure => simp [intOf]; omega
        | false =>
          rw [hy] at P
          have HY := Lib.hid hy
          clear hy
          obtain ⟨k, n, s⟩ := y
          simp only at hc1 hc2 hc3 P
          have HP := Lib.hid P
          clear P
          go_wp2_with (go_at_call 10; (with_reducible refine (HP.out _).mono ?_); rintro e w1 ⟨rfl, hb1⟩)
          have hch3 : Ch (fun _ => False) w w1 := (hch.tr (Ch.alloc _ _ _)).tr (Ch.of_new hb1)
          go_ret
          refine ⟨?_, hch3.new⟩
          rw [HT.out, HF.out (by rw [HS.out, HY.out, Bool.and_false])]
          rfl
      · have hlt' : (xs.length : Int) ≤ (ii : Int) := by omega
        go_wp2
        go_ret
        refine ⟨?_, hch.new⟩
        have h := hR.out
        rw [List.take_of_length_le (by omega)] at h
        rw [HT.out, h]
        rfl
  · have hn' : 64 < (xs.length : Int) := by omega
    have hT : tupleB xs = false := by unfold tupleB; rw [decide_eq_false hn, Bool.false_and]
    rw [hT]
    clear hT
    go_enter Tryd.func31, Tryd.ntmps31
    go_wp2
    go_ret
    exact ⟨rfl, Below.refl _ _⟩

set_option maxRecDepth 100000 in
set_option maxHeartbeats 1000000 in
theorem rtuple_any (a : Option Addr) (cap : Nat) (xs : List V) (w : World) (hr : Rd w a xs) :
    Calls Tryd.prog 33 #[.slice a xs.length cap] w fun e w' => e = .returned (.bool (tupleB xs)) ∧ Below w.heap.size w w' := by
  by_cases hn : xs.length ≤ 64
  · have hn' : (xs.length : Int) ≤ 64 := by omega
    have hT : tupleB xs = xs.all rightB := by unfold tupleB; rw [decide_eq_true hn, Bool.true_and]
    have HT := Lib.hid hT
    clear hT
    go_enter Tryd.func33, Tryd.ntmps33
    go_wp2
    go_loopw [3] (fun i wr => ∃ (ii : Nat), i = .int .i64 (ii : Int) ∧ ii ≤ xs.length ∧ Hid ((xs.take ii).all rightB = true) ∧ Ch (fun _ => False) w wr) (fun i _ => xs.length - (intOf i).toNat)
    case atStart => exact ⟨0, rfl, Nat.zero_le _, Lib.hid (by simp), Ch.refl _ _⟩
    case round =>
      obtain ⟨ii, rfl, hi, hR, hch⟩ := hrel
      by_cases hlt : ii < xs.length
      · have hlt' : (ii : Int) < (xs.length : Int) := by omega
        have hi0 : (0 : Int) ≤ (ii : Int) := by omega
        obtain ⟨b, off, rfl, hc1, hc2, hc3⟩ := (hr.keep hch (fun _ _ => id)) ii hlt
        have HS := Lib.hid (all_take_succ xs ii hlt)
        have HF := Lib.hid (all_of_take_false xs (ii + 1))
        generalize at_ xs ii = y at hc1 hc2 hc3 HS
        have P := rright_any y
        unfold V.val at P
        cases hy : rightB y with
        | true =>
          rw [hy] at P
          have HY := Lib.hid hy
          clear hy
          obtain ⟨k, n, s⟩ := y
          simp only at hc1 hc2 hc3 P
          have HP := Lib.hid P
          clear P
          go_wp2_with (go_at_call 11; (with_reducible refine (HP.out _).mono ?_); rintro e w1 ⟨rfl, hb1⟩)
          have hch3 : Ch (fun _ => False) w w1 := hch.tr (Ch.of_new hb1)
          clear hb1 hc1 hc2 hc3 hch
          go_roundw
          case rel => exact ⟨ii + 1, by go_num, by omega, Lib.hid (by rw [HS.out, hR.out, HY.out]; rfl), hch3⟩
          case measure => simp [intOf]; omega
        | false =>
          rw [hy] at P
          have HY := Lib.hid hy
          clear hy
          obtain ⟨k, n, s⟩ := y
          simp only at hc1 hc2 hc3 P
          have HP := Lib.hid P
          clear P
          go_wp2_with (go_at_call 11; (with_reducible refine (HP.out _).mono ?_); rintro e w1 ⟨rfl, hb1⟩)
          have hch3 : Ch (fun _ => False) w w1 := hch.tr (Ch.of_new hb1)
          go_ret
          refine ⟨?_, hch3.new⟩
          rw [HT.out, HF.out (by rw [HS.out, HY.out, Bool.and_false])]
          rfl
      · have hlt' : (xs.length : Int) ≤ (ii : Int) := by omega
        go_wp2
        go_ret
        refine ⟨?_, hch.new⟩
        have h := hR.out
        rw [List.take_of_length_le (by omega)] at h
        rw [HT.out, h]
        rfl
  · have hn' : 64 < (xs.length : Int) := by omega
    have hT : tupleB xs = false := by unfold tupleB; rw [decide_eq_false hn, Bool.false_and]
    rw [hT]
    clear hT
    go_enter Tryd.func33, Tryd.ntmps33
    go_wp2
    go_ret
    exact ⟨rfl, Below.refl _ _⟩

/-- Not too long? -/
def shortB (v : V) : Bool := decide (v.s.size ≤ 1100)
def fewB (xs : List V) : Bool := decide (xs.length ≤ 70) && xs.all shortB
theorem short_take_succ (xs : List V) (i : Nat) (h : i < xs.length) : (xs.take (i + 1)).all shortB = ((xs.take i).all shortB && shortB (at_ xs i)) := by
  rw [take_succ_v xs i h, List.all_append]; simp
theorem short_of_take_false (xs : List V) (i : Nat) (h : (xs.take i).all shortB = false) : xs.all shortB = false := by
  rw [← List.take_append_drop i xs, List.all_append, h, Bool.false_and]
/-- A slice that came in: where it lies, its room, its values. -/
structure Sl where
  a : Option Addr
  c : Nat
  xs : List V
def Sl.val (l : Sl) : Value := .slice l.a l.xs.length l.c
def slAt (ls : List Sl) (i : Nat) : Sl := ls.getD i ⟨none, 0, []⟩
def fewL (ls : List Sl) : Bool := ls.all fun l => fewB l.xs
theorem slAt_get (ls : List Sl) (i : Nat) (h : i < ls.length) : slAt ls i = ls[i] := by
  unfold slAt; rw [List.getD_eq_getElem?_getD, List.getElem?_eq_getElem h]; rfl
theorem few_take_succ (ls : List Sl) (i : Nat) (h : i < ls.length) : fewL (ls.take (i + 1)) = (fewL (ls.take i) && fewB (slAt ls i).xs) := by
  unfold fewL
  rw [List.take_succ_eq_append_getElem h, List.all_append, slAt_get ls i h]; simp
theorem few_of_take_false (ls : List Sl) (i : Nat) (h : fewL (ls.take i) = false) : fewL ls = false := by
  unfold fewL at *
  rw [← List.take_append_drop i ls, List.all_append, h, Bool.false_and]

set_option maxRecDepth 100000 in
set_option maxHeartbeats 1000000 in
theorem few_any (g cap : Nat) (ls : List Sl) (hm : ls.length ≤ 100) (w : World) (hr : ∀ i, i < ls.length → w.cell? ⟨g, i, none⟩ = some (slAt ls i).val ∧ Rd w (slAt ls i).a (slAt ls i).xs ∧ (slAt ls i).xs.length ≤ maxLen) :
    Calls Tryd.prog 14 #[.slice (some ⟨g, 0, none⟩) ls.length cap] w fun e w' => e = .returned (.bool (fewL ls)) ∧ Below w.heap.size w w' := by
  go_enter Tryd.func14, Tryd.ntmps14
  go_wp2
  go_loopw [9] (fun i wr => ∃ (ii : Nat), i = .int .i64 (ii : Int) ∧ ii ≤ ls.length ∧ Hid (fewL (ls.take ii) = true) ∧ Ch (fun _ => False) w wr) (fun i _ => ls.length - (intOf i).toNat)
  case atStart => exact ⟨0, rfl, Nat.zero_le _, Lib.hid (by simp [fewL]), Ch.refl _ _⟩
  case round =>
    obtain ⟨ii, rfl, hi, hR, hch⟩ := hrel
    by_cases hlt : ii < ls.length
    · have hlt' : (ii : Int) < (ls.length : Int) := by omega
      have hi0 : (0 : Int) ≤ (ii : Int) := by omega
      obtain ⟨hc, hrd, hml⟩ := hr ii hlt
      have hc2 := hch.cell hc id
      have hrd2 := hrd.keep hch (fun _ _ => id)
      have HS := Lib.hid (few_take_succ ls ii hlt)
      have HF := Lib.hid (few_of_take_false ls (ii + 1))
      clear hc hrd
      generalize slAt ls ii = l at hc2 hrd2 HS hml
      obtain ⟨a, c, xs⟩ := l
      simp only [Sl.val] at hc2 hrd2 HS hml
      unfold maxLen at hml
      by_cases hn : xs.length ≤ 70
      · have hn' : (xs.length : Int) ≤ 70 := by omega
        have HB := Lib.hid (show fewB xs = xs.all shortB by unfold fewB; rw [decide_eq_true hn, Bool.true_and])
        go_wp2
        go_loopw [18] (fun j wj => ∃ (jj : Nat), j = .int .i64 (jj : Int) ∧ jj ≤ xs.length ∧ Hid ((xs.take jj).all shortB = true) ∧ Ch (fun _ => False) wr wj) (fun j _ => xs.length - (intOf j).toNat)
        case atStart => exact ⟨0, rfl, Nat.zero_le _, Lib.hid (by simp), Ch.refl _ _⟩
        case round =>
          obtain ⟨jj, rfl, hj, hR2, hch2⟩ := hrel
          by_cases hlt2 : jj < xs.length
          · have hlt2' : (jj : Int) < (xs.length : Int) := by omega
            have hj0 : (0 : Int) ≤ (jj : Int) := by omega
            obtain ⟨b, off, rfl, hc4, hc5, hc6⟩ := (hrd2.keep hch2 (fun _ _ => id)) jj hlt2
            have HS2 := Lib.hid (short_take_succ xs jj hlt2)
            have HF2 := Lib.hid (short_of_take_false xs (jj + 1))
            generalize at_ xs jj = y at hc4 hc5 hc6 HS2
            obtain ⟨k, n, s⟩ := y
            simp only at hc4 hc5 hc6
            by_cases hs : s.size ≤ 1100
            · have hs' : (s.size : Int) ≤ 1100 := by omega
              have HY := Lib.hid (show shortB ⟨k, n, s⟩ = true from decide_eq_true hs)
              clear hc2
              go_wp2
              have hch3 := hch2.tr (Ch.alloc (fun _ => False) wr (.cells #[.int .i64 k, .int .i64 n, .string s] 23))
              clear hc4 hc5 hc6 hch2
              go_roundw
              case rel => exact ⟨jj + 1, by go_num, by omega, Lib.hid (by rw [HS2.out, hR2.out, HY.out]; rfl), hch3⟩
              case measure => simp [intOf]; omega
            · have hs' : 1100 < (s.size : Int) := by omega
              have HY := Lib.hid (show shortB ⟨k, n, s⟩ = false from decide_eq_false hs)
              clear hc2
              go_wp2
              go_ret
              refine ⟨?_, ((hch.tr hch2).tr (Ch.alloc _ _ _)).new⟩
              rw [HF.out (by rw [HS.out, HB.out, HF2.out (by rw [HS2.out, HY.out, Bool.and_false]), Bool.and_false])]
              rfl
          · have hlt2' : (xs.length : Int) ≤ (jj : Int) := by omega
            have h := hR2.out
            rw [List.take_of_length_le (by omega)] at h
            have HY := Lib.hid h
            clear h hc2
            go_wp2
            have hch3 := hch.tr hch2
            clear hch hch2
            go_roundw
            case rel => exact ⟨ii + 1, by go_num, by omega, Lib.hid (by rw [HS.out, hR.out, HB.out, HY.out]; rfl), hch3⟩
            case measure => simp [intOf]; omega
      · have hn' : 70 < (xs.length : Int) := by omega
        have HB := Lib.hid (show fewB xs = false by unfold fewB; rw [decide_eq_false hn, Bool.false_and])
        go_wp2
        go_ret
        refine ⟨?_, hch.new⟩
        rw [HF.out (by rw [HS.out, HB.out, Bool.and_false])]
        rfl
    · have hlt' : (ls.length : Int) ≤ (ii : Int) := by omega
      go_wp2
      go_ret
      refine ⟨?_, hch.new⟩
      have h := hR.out
      rw [List.take_of_length_le (by omega)] at h
      rw [h]
      rfl
end Go.Proofs.YtmlllgcmhapadaaDoor
