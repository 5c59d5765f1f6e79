/- Keys of two lists in cells; two lists joined, plainly. -/
import Derived.Test.YtlgamaldngkdnaaOrder
import Derived.Laws.Rows
namespace Go.Proofs.Ytlgamaldngkdnaa
open Go Go.RowKit

/-- A key, and what two have there. -/
structure Bt where
  k : ByteArray
  l : Int
  r : Int
  hl : Bool
  hr : Bool
def Bt.cells (b : Bt) : List Value := [.string b.k, .int .i64 b.l, .int .i64 b.r, .bool b.hl, .bool b.hr]
def cellsB (bs : List Bt) : List Value := bs.flatMap Bt.cells
theorem cellsB_length (bs : List Bt) : (cellsB bs).length = bs.length * 5 := by
  induction bs with
  | nil => rfl
  | cons p xs ih => simp [cellsB, List.flatMap_cons, Bt.cells] at ih ⊢; omega
theorem cellsB_append (xs ys : List Bt) : cellsB (xs ++ ys) = cellsB xs ++ cellsB ys := by simp [cellsB]
def nilB : Bt := ⟨ByteArray.empty, 0, 0, false, false⟩
def bt (bs : List Bt) (i : Nat) : Bt := bs.getD i nilB
theorem cellsB_at (bs : List Bt) (i j : Nat) (h : i < bs.length) (hj : j < 5) : (cellsB bs)[i * 5 + j]? = (bt bs i).cells[j]? := by
  induction bs generalizing i with
  | nil => simp at h
  | cons p xs ih =>
    have e : cellsB (p :: xs) = p.cells ++ cellsB xs := rfl
    cases i with
    | zero =>
      rw [e, List.getElem?_append_left (by simp [Bt.cells]; omega)]
      simp [bt]
    | succ i =>
      rw [e, List.getElem?_append_right (by simp [Bt.cells]; omega)]
      have := ih i (by simpa using h)
      rw [show (i + 1) * 5 + j - p.cells.length = i * 5 + j by simp [Bt.cells]; omega, this]
      simp [bt]
/-- A slice that a call made itself, of such. -/
def OwB (w : World) (base : Nat) (e : TypeId) (v : Value) (bs : List Bt) : Prop := w.ownsRow base e 5 v bs.length (cellsB bs)
def RdB (w : World) (a : Option Addr) (bs : List Bt) : Prop :=
  ∀ i, i < bs.length → ∃ b off, a = some ⟨b, off, none⟩ ∧ ∀ j, j < 5 → w.cell? ⟨b, off + i * 5 + j, none⟩ = (bt bs i).cells[j]?
theorem OwB.rd {w : World} {base : Nat} {e : TypeId} {v : Value} {bs : List Bt} (h : OwB w base e v bs) : ∃ a cap, v = .slice a bs.length cap ∧ RdB w a bs ∧ (∀ ad, a = some ad → base ≤ ad.block ∧ ad.block < w.heap.size) := by
  rcases h.2 with ⟨hv, h0⟩ | ⟨g, cap, cur, hv, hb, hg, hnc, hcm, hcs, ht⟩
  · exact ⟨none, 0, by rw [hv, h0], fun i hi => absurd hi (by omega), fun ad h => by cases h⟩
  · refine ⟨some ⟨g, 0, none⟩, cap, hv, fun i hi => ⟨g, 0, rfl, fun j hj => ?_⟩, fun ad h => by cases h; exact ⟨hb, (Array.getElem?_eq_some_iff.1 hg).1⟩⟩
    rw [cell_of_row _ _ _ _ _ _ hg, Nat.zero_add]
    have h3 : (cur.toList.take (bs.length * 5))[i * 5 + j]? = (cellsB bs)[i * 5 + j]? := by rw [ht]
    rw [List.getElem?_take_of_lt (by omega)] at h3
    rw [← Array.getElem?_toList, h3, cellsB_at bs i j hi hj]
theorem RdB.keep {S : Nat → Prop} {w w' : World} {a : Option Addr} {bs : List Bt} (h : RdB w a bs) (hc : Ch S w w') (hs : ∀ ad, a = some ad → ¬ S ad.block) : RdB w' a bs := fun i hi => by
  obtain ⟨b, off, ha, h1⟩ := h i hi
  refine ⟨b, off, ha, fun j hj => ?_⟩
  have h2 := h1 j hj
  have h3 : ∃ v, (bt bs i).cells[j]? = some v := ⟨_, List.getElem?_eq_getElem (by simp [Bt.cells]; omega)⟩
  obtain ⟨v, hv⟩ := h3
  rw [hv] at h2 ⊢
  exact hc.cell (p := ⟨b, off + i * 5 + j, none⟩) h2 (hs ⟨b, off, none⟩ ha)
theorem OwB.keep {S : Nat → Prop} {w w' : World} {base : Nat} {e : TypeId} {v : Value} {bs : List Bt} (h : OwB w base e v bs) (hc : Ch S w w') (hs : ∀ k, base ≤ k → k < w.heap.size → ¬ S k) : OwB w' base e v bs := by
  refine ⟨h.1, ?_⟩
  rcases h.2 with h2 | ⟨g, cap, cur, hv, hb, hg, r⟩
  · exact .inl h2
  · have hlt := (Array.getElem?_eq_some_iff.1 hg).1
    exact .inr ⟨g, cap, cur, hv, hb, (hc.block g hlt (hs g hb hlt)).trans hg, r⟩
theorem OwB.nil (w : World) (base : Nat) (e : TypeId) : OwB w base e (.slice none 0 0) [] := World.ownsRow_nil _ _ _ _
theorem OwB.own {w : World} {base : Nat} {e : TypeId} {v : Value} {bs : List Bt} (h : OwB w base e v bs) (k : Nat) (hk : v.ownBlock = some k) : base ≤ k ∧ k < w.heap.size := World.ownsRow.lt h k hk
theorem Try.info52 : (Try.prog.info? 52).map (fun i => (i.zero, i.size, i.bytes)) = some (some (.agg #[.string ByteArray.empty, .int .i64 0, .int .i64 0, .bool false, .bool false]), 5, 40) := by kernel_rfl
theorem Try.info53 : (Try.prog.info? 53).map (fun i => (i.zero, i.size, i.bytes)) = some (some (.agg #[.string ByteArray.empty, .int .i64 0, .int .i64 0, .bool false, .bool false]), 5, 40) := by kernel_rfl

def rightB (y : Pr) : Bt := ⟨y.1, 0, y.2, false, true⟩
def leftB (x : Pr) : Bt := ⟨x.1, x.2, 0, true, false⟩
def bothB (x y : Pr) : Bt := ⟨x.1, x.2, y.2, true, true⟩
/-- Two lists, key by key. -/
def joinL : List Pr → List Pr → List Bt
  | [], b => b.map rightB
  | x :: a, [] => leftB x :: joinL a []
  | x :: a, y :: b => if lt y.1 x.1 then rightB y :: joinL (x :: a) b else if lt x.1 y.1 then leftB x :: joinL a (y :: b) else bothB x y :: joinL a b
termination_by a b => a.length + b.length
theorem joinL_nil (b : List Pr) : joinL [] b = b.map rightB := by rw [joinL]
theorem joinL_left (x : Pr) (a : List Pr) : joinL (x :: a) [] = leftB x :: joinL a [] := by rw [joinL]
theorem joinL_r {x y : Pr} (a b : List Pr) (h : lt y.1 x.1 = true) : joinL (x :: a) (y :: b) = rightB y :: joinL (x :: a) b := by rw [joinL, if_pos h]
theorem joinL_l {x y : Pr} (a b : List Pr) (h : lt y.1 x.1 = false) (h2 : lt x.1 y.1 = true) : joinL (x :: a) (y :: b) = leftB x :: joinL a (y :: b) := by rw [joinL, if_neg (by rw [h]; simp), if_pos h2]
theorem joinL_b {x y : Pr} (a b : List Pr) (h : lt y.1 x.1 = false) (h2 : lt x.1 y.1 = false) : joinL (x :: a) (y :: b) = bothB x y :: joinL a b := by rw [joinL, if_neg (by rw [h]; simp), if_neg (by rw [h2]; simp)]
theorem joinL_length (a b : List Pr) : (joinL a b).length ≤ a.length + b.length := by
  induction a, b using joinL.induct with
  | case1 b => rw [joinL_nil]; simp
  | case2 x a ih => rw [joinL_left]; simp only [List.length_cons]; omega
  | case3 x a y b h ih => rw [joinL_r a b h]; simp only [List.length_cons] at ih ⊢; omega
  | case4 x a y b h h2 ih => rw [joinL_l a b (by simpa using h) h2]; simp only [List.length_cons] at ih ⊢; omega
  | case5 x a y b h h2 ih => rw [joinL_b a b (by simpa using h) (by simpa using h2)]; simp only [List.length_cons] at ih ⊢; omega

set_option maxRecDepth 100000 in
set_option maxHeartbeats 400000 in
theorem rightOnly_any (k : ByteArray) (v : Int) (w : World) : Calls Try.prog 42 #[.agg #[.string k, .int .i64 v]] w fun e w' => e = .returned (.agg #[.string k, .int .i64 0, .int .i64 v, .bool false, .bool true]) ∧ Ch (fun _ => False) w w' := by
  go_enter Try.func42, Try.ntmps42
  go_wp2
  have hh := World.alloc_heap_new (w.alloc (.cells #[.string k, .int .i64 v] 55)) (.cells #[.string k, .int .i64 0, .int .i64 v, .bool false, .bool true] 52)
  rw [World.size_alloc] at hh
  exact bodyPost_ret (results_cell_row rfl _ _ (w.heap.size + 1) 52 _ (0, 0) _ rfl hh Try.underlying52 rfl (by kernel_rfl)) rfl ⟨rfl, (Ch.alloc _ w _).tr (Ch.alloc _ _ _)⟩
end Go.Proofs.Ytlgamaldngkdnaa
