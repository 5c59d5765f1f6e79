/- Rows of words in memory. -/
import Derived.Test.YtfjlkphpeneahaaDoorASha
import Derived.Lib.Hide
namespace Go.Proofs.YtfjlkphpeneahaaDoor.S1
open Go Go.RowKit

/-- Block b of w is the row of these words. -/
def Row (w : World) (b : Nat) (t : TypeId) (l : List (BitVec 32)) : Prop := w.heap[b]? = some (.cells (wvs l) t (0, 0))

theorem Row.heap {w : World} {b : Nat} {t : TypeId} {l : List (BitVec 32)} (h : Row w b t l) : w.heap[b]? = some (.cells (wvs l) t (0, 0)) := h
theorem Row.cell {w : World} {b : Nat} {t : TypeId} {l : List (BitVec 32)} (h : Row w b t l) (j : Nat) (hj : j < l.length) :
    w.cell? ⟨b, j, none⟩ = some (.int .u32 (u (l.getD j 0))) := by
  rw [cell_of_row _ _ _ _ _ _ h.heap]; exact wvs_get l j hj
theorem Row.frozen {w : World} {b : Nat} {t : TypeId} {l : List (BitVec 32)} (h : Row w b t l) (j : Nat) : w.frozen? ⟨b, j, none⟩ = false :=
  frozen_of_row _ _ _ _ _ h.heap
theorem Row.drew {w : World} {b : Nat} {t : TypeId} {l : List (BitVec 32)} (h : Row w b t l) : Row w.drew b t l := h
theorem Row.set {w : World} {b : Nat} {t : TypeId} {l : List (BitVec 32)} (h : Row w b t l) (k : Nat) (x : BitVec 32) :
    Row (w.setCell ⟨b, k, none⟩ (.int .u32 (u x))) b t (l.set k x) := by
  unfold Row; rw [heap_setCell_same _ _ _ _ _ _ h.heap, wvs_set]
theorem Row.other {w : World} {b : Nat} {t : TypeId} {l : List (BitVec 32)} (h : Row w b t l) {a : Addr} (ha : b ≠ a.block) (v : Value) :
    Row (w.setCell a v) b t l := by
  unfold Row; rw [heap_setCell_other _ _ _ _ ha]; exact h
theorem Row.alloc {w : World} {b : Nat} {t : TypeId} {l : List (BitVec 32)} (h : Row w b t l) (o : Obj) : Row (w.alloc o) b t l := by
  have hb : b < w.heap.size := by
    by_cases hb : b < w.heap.size
    · exact hb
    · have := h.heap; rw [Array.getElem?_eq_none (by omega)] at this; cases this
  unfold Row; rw [Below.heap_alloc _ _ _ hb]; exact h
theorem Row.lt {w : World} {b : Nat} {t : TypeId} {l : List (BitVec 32)} (h : Row w b t l) : b < w.heap.size := by
  by_cases hb : b < w.heap.size
  · exact hb
  · have := h.heap; rw [Array.getElem?_eq_none (by omega)] at this; cases this
theorem Row.below {B : Nat} {w w' : World} {b : Nat} {t : TypeId} {l : List (BitVec 32)} (h : Row w b t l) (hb : Below B w w') (hl : b < B) : Row w' b t l := by
  unfold Row; rw [hb.block _ hl]; exact h
theorem below_setRow {B : Nat} {a w : World} (h : Below B a w) {g : Nat} (hg : B ≤ g) (cs : Array Value) : Below B a (w.setRow g cs) :=
  h.trans ⟨rfl, rfl, rfl, by simp, fun k hk => setRow_other w g k cs (by omega)⟩
theorem Row.put {w : World} {b : Nat} {t : TypeId} {l : List (BitVec 32)} (h : Row w b t l) (l' : List (BitVec 32)) : Row (w.setRow b (wvs l')) b t l' :=
  setRow_heap w b _ _ t _ h.heap
theorem Row.keep {w : World} {b : Nat} {t : TypeId} {l : List (BitVec 32)} (h : Row w b t l) {g : Nat} (hg : b ≠ g) (cs : Array Value) : Row (w.setRow g cs) b t l := by
  unfold Row; rw [setRow_other w g b cs hg]; exact h
theorem wvs_one (l : List (BitVec 32)) : (wvs l).all (·.oneCell') = true := by
  simp [wvs, wv, Value.oneCell']

/-- A text's bytes by their places. -/
def mb (s : ByteArray) : Nat → UInt8 := fun j => s.data.toList.getD j 0
theorem extract_at (s : ByteArray) (a b i : Nat) (h : i < (s.extract a b).size) : (s.extract a b)[i] = mb s (a + i) := by
  have hs : i < min b s.size - a := by simpa [ByteArray.size_extract] using h
  have hl : a + i < s.data.toList.length := by
    show a + i < s.data.size
    have : s.data.size = s.size := rfl
    omega
  unfold mb
  rw [ByteArray.getElem_extract, List.getD_eq_getElem?_getD, List.getElem?_eq_getElem hl]
  simp [ByteArray.getElem_eq_getElem_data]
theorem mb_get (s : ByteArray) (i : Nat) (h : i < s.size) : s[i] = mb s i := by
  have hl : i < s.data.toList.length := h
  unfold mb
  rw [List.getD_eq_getElem?_getD, List.getElem?_eq_getElem hl]
  simp [ByteArray.getElem_eq_getElem_data]
theorem list_of_getD (l : List (BitVec 32)) (n : Nat) (f : Nat → BitVec 32) (hl : l.length = n) (h : ∀ j, j < n → l.getD j 0 = f j) : l = (List.range n).map f := by
  apply List.ext_getElem
  · simp [hl]
  · intro i h1 h2
    have := h i (by omega)
    rw [List.getD_eq_getElem?_getD, List.getElem?_eq_getElem h1] at this
    simpa using this
theorem getD_set_same (l : List (BitVec 32)) (k : Nat) (x : BitVec 32) (h : k < l.length) : (l.set k x).getD k 0 = x := by
  simp [List.getD_eq_getElem?_getD, h]
theorem getD_set_other (l : List (BitVec 32)) (k j : Nat) (x : BitVec 32) (h : j ≠ k) : (l.set k x).getD j 0 = l.getD j 0 := by
  simp [List.getD_eq_getElem?_getD, List.getElem?_set_ne (Ne.symm h)]
/-- One word more is right. -/
theorem words_step {l : List (BitVec 32)} {k n : Nat} {f : Nat → BitVec 32} {x : BitVec 32} (hl : l.length = n) (hk : k < n) (hp : ∀ j, j < k → l.getD j 0 = f j) (hx : x = f k) :
    (l.set k x).length = n ∧ ∀ j, j < k + 1 → (l.set k x).getD j 0 = f j := by
  refine ⟨by simp [hl], fun j hj => ?_⟩
  by_cases e : j = k
  · subst e; rw [getD_set_same _ _ _ (by omega), hx]
  · rw [getD_set_other _ _ _ _ e]; exact hp j (by omega)

end Go.Proofs.YtfjlkphpeneahaaDoor.S1
