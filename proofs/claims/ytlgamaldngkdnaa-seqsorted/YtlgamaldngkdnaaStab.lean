/- Pairs in a block that is turned in place; exchanges; the walk of swapRange. -/
import Derived.Test.YtlgamaldngkdnaaOrder
import Derived.BigQuiet
import Derived.BigRegion
import Derived.Deep.RegionHeld3
namespace Go.Proofs.Ytlgamaldngkdnaa
open Go Go.RowKit

/-- The block g has these pairs. -/
def Dat (w : World) (g : Nat) (ds : List Pr) : Prop := ∃ cur : Array Value, w.heap[g]? = some (.cells cur 55 (0, 0)) ∧ ds.length * 2 ≤ cur.size ∧ cur.toList.take (ds.length * 2) = cellsP ds
theorem Dat.cells {w : World} {g : Nat} {ds : List Pr} (h : Dat w g ds) {i : Nat} (hi : i < ds.length) : w.cell? ⟨g, i * 2, none⟩ = some (.string (ky ds i)) ∧ w.cell? ⟨g, i * 2 + 1, none⟩ = some (.int .i64 (vl ds i)) := by
  obtain ⟨cur, hg, hs, ht⟩ := h
  constructor
  · rw [cell_of_row _ _ _ _ _ _ hg]
    have h3 : (cur.toList.take (ds.length * 2))[i * 2]? = (cellsP ds)[i * 2]? := by rw [ht]
    rw [List.getElem?_take_of_lt (by omega)] at h3
    rw [← Array.getElem?_toList, h3, (cellsP_even ds i hi).1]
  · rw [cell_of_row _ _ _ _ _ _ hg]
    have h3 : (cur.toList.take (ds.length * 2))[i * 2 + 1]? = (cellsP ds)[i * 2 + 1]? := by rw [ht]
    rw [List.getElem?_take_of_lt (by omega)] at h3
    rw [← Array.getElem?_toList, h3, (cellsP_even ds i hi).2]
theorem Dat.fr {w : World} {g : Nat} {ds : List Pr} (h : Dat w g ds) (j : Nat) : w.frozen? ⟨g, j, none⟩ = false := by
  obtain ⟨cur, hg, _⟩ := h
  exact frozen_of_row _ _ _ _ _ hg
theorem Dat.lt {w : World} {g : Nat} {ds : List Pr} (h : Dat w g ds) : g < w.heap.size := by
  obtain ⟨cur, hg, _⟩ := h
  exact (Array.getElem?_eq_some_iff.1 hg).1
theorem Dat.keep {S : Nat → Prop} {w w' : World} {g : Nat} {ds : List Pr} (h : Dat w g ds) (hc : Ch S w w') (hn : ¬ S g) : Dat w' g ds := by
  have hl := h.lt
  obtain ⟨cur, hg, r⟩ := h
  exact ⟨cur, (hc.block g hl hn).trans hg, r⟩
theorem cellsP_set (ds : List Pr) (i : Nat) (p : Pr) : cellsP (ds.set i p) = ((cellsP ds).set (i * 2) (.string p.1)).set (i * 2 + 1) (.int .i64 p.2) := by
  induction ds generalizing i with
  | nil => rfl
  | cons q ds ih =>
    have e : ∀ (q : Pr) ds, cellsP (q :: ds) = .string q.1 :: .int .i64 q.2 :: cellsP ds := fun _ _ => rfl
    cases i with
    | zero => rfl
    | succ i =>
      rw [List.set_cons_succ, e, e, ih, show (i + 1) * 2 = i * 2 + 1 + 1 by omega]
      rfl
/-- One pair set. -/
def set2 (w : World) (g i : Nat) (p : Pr) : World := (w.setCell ⟨g, i * 2, none⟩ (.string p.1)).setCell ⟨g, i * 2 + 1, none⟩ (.int .i64 p.2)
theorem Dat.set {w : World} {g : Nat} {ds : List Pr} (h : Dat w g ds) (i : Nat) (p : Pr) : Dat (set2 w g i p) g (ds.set i p) := by
  obtain ⟨cur, hg, hs, ht⟩ := h
  refine ⟨_, heap_setCell_same _ g (i * 2 + 1) _ 55 _ (heap_setCell_same _ g (i * 2) _ 55 _ hg), by simp; omega, ?_⟩
  rw [List.length_set, cellsP_set, ← ht]
  simp [Array.toList_setIfInBounds, List.take_set]
theorem set2_ch (w : World) (g i : Nat) (p : Pr) : Ch (fun k => k = g) w (set2 w g i p) :=
  Ch.tr (B := w.setCell ⟨g, i * 2, none⟩ (.string p.1)) (Ch.setCell (S := fun k => k = g) w ⟨g, i * 2, none⟩ _ fun _ => rfl) (Ch.setCell (S := fun k => k = g) _ ⟨g, i * 2 + 1, none⟩ _ fun _ => rfl)
def pr (ds : List Pr) (i : Nat) : Pr := (ky ds i, vl ds i)
/-- Two exchanged. -/
def swp (ds : List Pr) (i j : Nat) : List Pr := (ds.set i (pr ds j)).set j (pr ds i)
theorem swp_length (ds : List Pr) (i j : Nat) : (swp ds i j).length = ds.length := by simp [swp]
theorem pr_get {ds : List Pr} {i : Nat} (h : i < ds.length) : pr ds i = ds[i] := by
  unfold pr ky vl
  rw [List.getD_eq_getElem?_getD, List.getElem?_eq_getElem h]
  rfl
theorem Dat.swp {w : World} {g : Nat} {ds : List Pr} (h : Dat w g ds) (i j : Nat) : Dat (set2 (set2 w g i (pr ds j)) g j (pr ds i)) g (swp ds i j) := (h.set i _).set j _

/-- The first n from a on exchanged with those from b on. -/
def swaps (ds : List Pr) (a b : Nat) : Nat → List Pr
  | 0 => ds
  | n + 1 => swp (swaps ds a b n) (a + n) (b + n)
theorem swaps_length (ds : List Pr) (a b n : Nat) : (swaps ds a b n).length = ds.length := by
  induction n with
  | zero => rfl
  | succ n ih => rw [swaps, swp_length, ih]

theorem pr_set (ds : List Pr) (i : Nat) (p : Pr) (k : Nat) (hi : i < ds.length) : pr (ds.set i p) k = if k = i then p else pr ds k := by
  unfold pr ky vl
  rw [List.getD_eq_getElem?_getD, List.getD_eq_getElem?_getD, List.getElem?_set]
  by_cases h : i = k
  · subst h; rw [if_pos rfl, if_pos rfl, if_pos hi]; rfl
  · rw [if_neg h, if_neg (fun e => h e.symm)]
theorem pr_swp (ds : List Pr) {i j : Nat} (hi : i < ds.length) (hj : j < ds.length) (k : Nat) : pr (swp ds i j) k = if k = j then pr ds i else if k = i then pr ds j else pr ds k := by
  unfold swp
  rw [pr_set _ _ _ _ (by rw [List.length_set]; exact hj), pr_set _ _ _ _ hi]
theorem pr_swaps (ds : List Pr) {a b : Nat} : ∀ (n : Nat), a + n ≤ b → b + n ≤ ds.length → ∀ k, pr (swaps ds a b n) k = if a ≤ k ∧ k < a + n then pr ds (k - a + b) else if b ≤ k ∧ k < b + n then pr ds (k - b + a) else pr ds k
  | 0, _, _, k => by rw [swaps, if_neg (by omega), if_neg (by omega)]
  | n + 1, h1, h2, k => by
    have ih := pr_swaps (a := a) (b := b) ds n (by omega) (by omega)
    rw [swaps, pr_swp (i := a + n) (j := b + n) _ (by rw [swaps_length]; omega) (by rw [swaps_length]; omega), ih, ih, ih]
    repeat' split
    all_goals first | (exfalso; omega) | rfl | (congr 1; omega)
theorem pr_ext {xs ys : List Pr} (hl : xs.length = ys.length) (h : ∀ k, k < xs.length → pr xs k = pr ys k) : xs = ys := by
  refine List.ext_getElem hl fun k h1 h2 => ?_
  rw [← pr_get h1, ← pr_get h2]
  exact h k h1
/-- Two parts, one behind the other, exchanged. -/
def R (f : Nat → Pr) (a m b k : Nat) : Pr := if k < a then f k else if k < a + (b - m) then f (k - a + m) else if k < b then f (k - (b - m)) else f k
def rotL (es : List Pr) (a m b : Nat) : List Pr := es.take a ++ ((es.take b).drop m ++ ((es.take m).drop a ++ es.drop b))
theorem rotL_length (es : List Pr) {a m b : Nat} (h1 : a ≤ m) (h2 : m ≤ b) (h3 : b ≤ es.length) : (rotL es a m b).length = es.length := by
  unfold rotL; simp; omega
theorem pr_append (xs ys : List Pr) (k : Nat) : pr (xs ++ ys) k = if k < xs.length then pr xs k else pr ys (k - xs.length) := by
  unfold pr ky vl
  rw [List.getD_eq_getElem?_getD, List.getElem?_append]
  split
  · rw [List.getD_eq_getElem?_getD]
  · rw [List.getD_eq_getElem?_getD]
theorem pr_take (xs : List Pr) (n k : Nat) (h : k < n) : pr (xs.take n) k = pr xs k := by
  unfold pr ky vl
  rw [List.getD_eq_getElem?_getD, List.getElem?_take_of_lt h, List.getD_eq_getElem?_getD]
theorem pr_drop (xs : List Pr) (n k : Nat) : pr (xs.drop n) k = pr xs (n + k) := by
  unfold pr ky vl
  rw [List.getD_eq_getElem?_getD, List.getElem?_drop, List.getD_eq_getElem?_getD]
theorem pr_rotL (es : List Pr) {a m b : Nat} (h1 : a ≤ m) (h2 : m ≤ b) (h3 : b ≤ es.length) (k : Nat) : pr (rotL es a m b) k = R (pr es) a m b k := by
  unfold rotL R
  rw [pr_append, pr_append, pr_append]
  have l1 : (es.take a).length = a := by rw [List.length_take]; omega
  have l2 : ((es.take b).drop m).length = b - m := by rw [List.length_drop, List.length_take]; omega
  have l3 : ((es.take m).drop a).length = m - a := by rw [List.length_drop, List.length_take]; omega
  rw [l1, l2, l3]
  by_cases c1 : k < a
  · rw [if_pos c1, if_pos c1, pr_take _ _ _ c1]
  · rw [if_neg c1, if_neg c1]
    by_cases c2 : k < a + (b - m)
    · rw [if_pos (by omega), if_pos c2, pr_drop, pr_take _ _ _ (by omega)]
      congr 1; omega
    · rw [if_neg (by omega), if_neg c2]
      by_cases c3 : k < b
      · rw [if_pos (by omega), if_pos c3, pr_drop, pr_take _ _ _ (by omega)]
        congr 1; omega
      · rw [if_neg (by omega), if_neg c3, pr_drop]
        congr 1; omega

set_option maxRecDepth 100000 in
set_option maxHeartbeats 4000000 in
theorem swapRange_any (w : World) (g cap : Nat) (ds : List Pr) (h : Dat w g ds) (a b n : Nat) (hab : a + n ≤ b) (hb : b + n ≤ ds.length) (hl : ds.length ≤ 1000) (cf : Value) :
    Calls Try.prog 59 #[.slice (some ⟨g, 0, none⟩) ds.length cap, .int .i64 (a : Int), .int .i64 (b : Int), .int .i64 (n : Int), cf] w fun e w' => e = .returned (.tuple #[]) ∧ Dat w' g (swaps ds a b n) ∧ Ch (fun k => k = g) w w' := by
  have H := Lib.hid h
  clear h
  have hlI : (ds.length : Int) ≤ 1000 := by omega
  go_enter Try.func59, Try.ntmps59
  go_wp2
  go_loopw [10] (fun i wr => ∃ (ii : Nat), i = .int .i64 (ii : Int) ∧ ii ≤ n ∧ Hid (Dat wr g (swaps ds a b ii) ∧ Ch (fun k => k = g) w wr)) (fun i _ => n - (intOf i).toNat)
  case atStart => exact ⟨0, rfl, Nat.zero_le _, Lib.hid ⟨H.out, Ch.refl _ _⟩⟩
  case round =>
    obtain ⟨ii, rfl, hi, HI⟩ := hrel
    by_cases hlt : ii < n
    · have hlt' : (ii : Int) < (n : Int) := by omega
      obtain ⟨x, hx⟩ : ∃ x, a + ii = x := ⟨_, rfl⟩
      obtain ⟨y, hy⟩ : ∃ y, b + ii = y := ⟨_, rfl⟩
      have hxy : x < y := by omega
      have hyl : y < ds.length := by omega
      have hx1 : (a : Int) + (ii : Int) = (x : Int) := by omega
      have hy1 : (b : Int) + (ii : Int) = (y : Int) := by omega
      have wx : IntKind.i64.wrap ((a : Int) + (ii : Int)) = (x : Int) := (IntWalk.i64_in _ (by omega)).trans hx1
      have wy : IntKind.i64.wrap ((b : Int) + (ii : Int)) = (y : Int) := (IntWalk.i64_in _ (by omega)).trans hy1
      have hx0 : (0 : Int) ≤ (x : Int) := by omega
      have hy0 : (0 : Int) ≤ (y : Int) := by omega
      have hxl : (x : Int) < (ds.length : Int) := by omega
      have hyl' : (y : Int) < (ds.length : Int) := by omega
      have HS : Hid (swaps ds a b (ii + 1) = swp (swaps ds a b ii) x y) := Lib.hid (by rw [swaps, hx, hy])
      have hD := HI.out.1
      have hln := swaps_length ds a b ii
      generalize swaps ds a b ii = es at *
      obtain ⟨c0, c1⟩ := hD.cells (i := x) (by omega)
      obtain ⟨d0, d1⟩ := hD.cells (i := y) (by omega)
      have f0 := hD.fr (x * 2)
      have f1 := hD.fr (x * 2 + 1)
      have f2 := hD.fr (y * 2)
      have f3 := hD.fr (y * 2 + 1)
      have HE := Lib.hid (hD.swp x y)
      have HCh : Hid (Ch (fun k => k = g) w (set2 (set2 wr g x (pr es y)) g y (pr es x))) := Lib.hid ((HI.out.2.tr (set2_ch _ _ _ _)).tr (set2_ch _ _ _ _))
      clear hD hx hy hx1 hy1
      unfold pr set2 at HE HCh
      simp only at HE HCh
      generalize ky es x = xk at *
      generalize vl es x = xv at *
      generalize ky es y = yk at *
      generalize vl es y = yv at *
      go_wp2_with fail
      go_region
      have HE2 := Lib.hid (HE.out.keep (Ch.drew (fun _ => False) _) id)
      have HC2 := Lib.hid (HCh.out.tr (Ch.drew _ _))
      clear HE HCh c0 c1 d0 d1 f0 f1 f2 f3 wx wy
      generalize ((((wr.setCell ⟨g, x * 2, none⟩ (.string yk)).setCell ⟨g, x * 2 + 1, none⟩ (.int .i64 yv)).setCell ⟨g, y * 2, none⟩ (.string xk)).setCell ⟨g, y * 2 + 1, none⟩ (.int .i64 xv)).drew = W at *
      go_wp2
      go_roundw
      case rel => exact ⟨ii + 1, by go_num, by omega, Lib.hid ⟨by rw [HS.out]; exact HE2.out, HC2.out⟩⟩
      case measure => simp [intOf]; omega
    · have hlt' : (n : Int) ≤ (ii : Int) := by omega
      obtain rfl : ii = n := by omega
      go_wp2
      go_end0
      exact ⟨rfl, HI.out⟩

/-- What a step of rotate does to what is to come. -/
theorem R_more {f h : Nat → Pr} {m i j : Nat} (hij : j < i) (him : i ≤ m) (hh : ∀ k, h k = if m - i ≤ k ∧ k < m - i + j then f (k - (m - i) + m) else if m ≤ k ∧ k < m + j then f (k - m + (m - i)) else f k) (k : Nat) : R h (m - (i - j)) m (m + j) k = R f (m - i) m (m + j) k := by
  unfold R
  simp only [hh]
  repeat' split
  all_goals first | (exfalso; omega) | rfl | (congr 1; omega)
theorem R_less {f h : Nat → Pr} {m i j : Nat} (hij : i < j) (him : i ≤ m) (hh : ∀ k, h k = if m - i ≤ k ∧ k < m - i + i then f (k - (m - i) + (m + j - i)) else if m + j - i ≤ k ∧ k < m + j - i + i then f (k - (m + j - i) + (m - i)) else f k) (k : Nat) : R h (m - i) m (m + (j - i)) k = R f (m - i) m (m + j) k := by
  unfold R
  simp only [hh]
  repeat' split
  all_goals first | (exfalso; omega) | rfl | (congr 1; omega)
theorem R_end {f h : Nat → Pr} {m i : Nat} (him : i ≤ m) (hh : ∀ k, h k = if m - i ≤ k ∧ k < m - i + i then f (k - (m - i) + m) else if m ≤ k ∧ k < m + i then f (k - m + (m - i)) else f k) (k : Nat) : h k = R f (m - i) m (m + i) k := by
  unfold R
  rw [hh]
  repeat' split
  all_goals first | (exfalso; omega) | rfl | (congr 1; omega)

set_option maxRecDepth 100000 in
set_option maxHeartbeats 4000000 in
theorem rotate_any (w : World) (g cap : Nat) (ds : List Pr) (h : Dat w g ds) (a m b : Nat) (ham : a < m) (hmb : m < b) (hb : b ≤ ds.length) (hl : ds.length ≤ 1000) (cf : Value) :
    Calls Try.prog 57 #[.slice (some ⟨g, 0, none⟩) ds.length cap, .int .i64 (a : Int), .int .i64 (m : Int), .int .i64 (b : Int), cf] w fun e w' => e = .returned (.tuple #[]) ∧ Dat w' g (rotL ds a m b) ∧ Ch (fun k => k = g) w w' := by
  have H := Lib.hid h
  clear h
  have hlI : (ds.length : Int) ≤ 1000 := by omega
  have HSw := Lib.hid (fun V es (hV : Dat V g es) (hes : es.length = ds.length) x y n (h1 : x + n ≤ y) (h2 : y + n ≤ es.length) => swapRange_any V g cap es hV x y n h1 h2 (by omega) cf)
  go_enter Try.func57, Try.ntmps57
  go_wp2
  go_loopw [10, 11] (fun i j wr => ∃ (ii jj : Nat) (es : List Pr), i = .int .i64 (ii : Int) ∧ j = .int .i64 (jj : Int) ∧ 0 < ii ∧ 0 < jj ∧ ii ≤ m - a ∧ jj ≤ b - m ∧ Hid (es.length = ds.length ∧ (∀ k, R (pr es) (m - ii) m (m + jj) k = R (pr ds) a m b k) ∧ Dat wr g es ∧ Ch (fun k => k = g) w wr)) (fun i j _ => (intOf i).toNat + (intOf j).toNat)
  case atStart => exact ⟨m - a, b - m, ds, by go_num, by go_num, by omega, by omega, Nat.le_refl _, Nat.le_refl _, Lib.hid ⟨rfl, fun k => by rw [show m - (m - a) = a by omega, show m + (b - m) = b by omega], H.out, Ch.refl _ _⟩⟩
  case round =>
    obtain ⟨ii, jj, es, rfl, rfl, hi0, hj0, hi, hj, HI⟩ := hrel
    have hes := HI.out.1
    have hi0' : (0 : Int) < (ii : Int) := by omega
    have hj0' : (0 : Int) < (jj : Int) := by omega
    have hi' : (ii : Int) ≤ (m : Int) - (a : Int) := by omega
    have hj' : (jj : Int) ≤ (b : Int) - (m : Int) := by omega
    have ha0 : (0 : Int) ≤ (a : Int) := by omega
    have hbI : (b : Int) ≤ 1000 := by omega
    have hmi : (m : Int) - (ii : Int) = ((m - ii : Nat) : Int) := by omega
    by_cases heq : ii = jj
    · have heq' : (ii : Int) = (jj : Int) := by omega
      have HC := Lib.hid (HSw.out wr es HI.out.2.2.1 hes (m - ii) m ii (by omega) (by omega))
      rw [hes] at HC
      have hne : ((ii : Int) == (jj : Int)) = true := by rw [beq_iff_eq]; exact heq'
      have HEQ := Lib.hid heq
      clear heq' heq
      go_wp2_with (go_at_call 59; (with_reducible refine HC.out.mono ?_); rintro e w2 ⟨rfl, hD2, hc2⟩)
      go_end0
      refine ⟨rfl, ?_, HI.out.2.2.2.tr hc2⟩
      have heq := HEQ.out
      have e : swaps es (m - ii) m ii = rotL ds a m b := by
        refine pr_ext (by rw [swaps_length, hes, rotL_length ds (by omega) (by omega) hb]) fun k _ => ?_
        rw [pr_rotL ds (by omega) (by omega) hb, ← HI.out.2.1 k, ← heq]
        exact R_end (by omega) (pr_swaps es ii (by omega) (by omega)) k
      rw [← e]
      exact hD2
    · have hne : ¬ (ii : Int) = (jj : Int) := by omega
      by_cases hgt : jj < ii
      · have hgt' : (jj : Int) < (ii : Int) := by omega
        have HC := Lib.hid (HSw.out wr es HI.out.2.2.1 hes (m - ii) m jj (by omega) (by omega))
        rw [hes] at HC
        go_wp2_with (go_at_call 59; (with_reducible refine HC.out.mono ?_); rintro e w2 ⟨rfl, hD2, hc2⟩)
        go_roundw
        case rel => exact ⟨ii - jj, jj, swaps es (m - ii) m jj, by go_num, rfl, by omega, hj0, by omega, hj, Lib.hid ⟨by rw [swaps_length, hes], fun k => by rw [← HI.out.2.1 k]; exact R_more hgt (by omega) (pr_swaps es jj (by omega) (by omega)) k, hD2, HI.out.2.2.2.tr hc2⟩⟩
        case measure => simp [intOf]; omega
      · have hgt' : (ii : Int) < (jj : Int) := by omega
        have hmj : (m : Int) + (jj : Int) - (ii : Int) = ((m + jj - ii : Nat) : Int) := by omega
        have HC := Lib.hid (HSw.out wr es HI.out.2.2.1 hes (m - ii) (m + jj - ii) ii (by omega) (by omega))
        rw [hes] at HC
        go_wp2_with (go_at_call 59; (with_reducible refine HC.out.mono ?_); rintro e w2 ⟨rfl, hD2, hc2⟩)
        go_roundw
        case rel => exact ⟨ii, jj - ii, swaps es (m - ii) (m + jj - ii) ii, rfl, by go_num, hi0, by omega, hi, by omega, Lib.hid ⟨by rw [swaps_length, hes], fun k => by rw [← HI.out.2.1 k]; exact R_less (by omega) (by omega) (pr_swaps es ii (by omega) (by omega)) k, hD2, HI.out.2.2.2.tr hc2⟩⟩
        case measure => simp [intOf]; omega
end Go.Proofs.Ytlgamaldngkdnaa
