/- Rows of bytes in memory; a state's bytes. -/
import Derived.Test.YtfjlkphpeneahaaDoorACells
namespace Go.Proofs.YtfjlkphpeneahaaDoor.S1
open Go Go.RowKit

def bv (b : UInt8) : Value := .int .u8 (b.toNat : Int)
def bvs (l : List UInt8) : Array Value := (l.map bv).toArray
theorem bvs_size (l : List UInt8) : (bvs l).size = l.length := by simp [bvs]
theorem bvs_get (l : List UInt8) (j : Nat) (h : j < l.length) : (bvs l)[j]? = some (.int .u8 ((l.getD j 0).toNat : Int)) := by
  simp [bvs, bv, h]
theorem bvs_set (l : List UInt8) (j : Nat) (x : UInt8) : (bvs l).setIfInBounds j (.int .u8 (x.toNat : Int)) = bvs (l.set j x) := by
  simp [bvs, bv, List.map_set]
def BRow (w : World) (b : Nat) (t : TypeId) (l : List UInt8) : Prop := w.heap[b]? = some (.cells (bvs l) t (0, 0))
theorem BRow.heap {w : World} {b : Nat} {t : TypeId} {l : List UInt8} (h : BRow w b t l) : w.heap[b]? = some (.cells (bvs l) t (0, 0)) := h
theorem BRow.cell {w : World} {b : Nat} {t : TypeId} {l : List UInt8} (h : BRow w b t l) (j : Nat) (hj : j < l.length) :
    w.cell? ⟨b, j, none⟩ = some (.int .u8 ((l.getD j 0).toNat : Int)) := by
  rw [cell_of_row _ _ _ _ _ _ h.heap]; exact bvs_get l j hj
theorem BRow.frozen {w : World} {b : Nat} {t : TypeId} {l : List UInt8} (h : BRow w b t l) (j : Nat) : w.frozen? ⟨b, j, none⟩ = false :=
  frozen_of_row _ _ _ _ _ h.heap
theorem BRow.set {w : World} {b : Nat} {t : TypeId} {l : List UInt8} (h : BRow w b t l) (k : Nat) (x : UInt8) :
    BRow (w.setCell ⟨b, k, none⟩ (.int .u8 (x.toNat : Int))) b t (l.set k x) := by
  unfold BRow; rw [heap_setCell_same _ _ _ _ _ _ h.heap, bvs_set]
theorem BRow.other {w : World} {b : Nat} {t : TypeId} {l : List UInt8} (h : BRow w b t l) {a : Addr} (ha : b ≠ a.block) (v : Value) :
    BRow (w.setCell a v) b t l := by
  unfold BRow; rw [heap_setCell_other _ _ _ _ ha]; exact h
theorem BRow.lt {w : World} {b : Nat} {t : TypeId} {l : List UInt8} (h : BRow w b t l) : b < w.heap.size := by
  by_cases hb : b < w.heap.size
  · exact hb
  · have := h.heap; rw [Array.getElem?_eq_none (by omega)] at this; cases this
theorem BRow.below {B : Nat} {w w' : World} {b : Nat} {t : TypeId} {l : List UInt8} (h : BRow w b t l) (hb : Below B w w') (hl : b < B) : BRow w' b t l := by
  unfold BRow; rw [hb.block _ hl]; exact h
theorem BRow.text {w : World} {b : Nat} {t : TypeId} {l : List UInt8} (h : BRow w b t l) (j : Nat) (hj : j < l.length) :
    w.cell? ((⟨b, 0, none⟩ : Addr).add j) = some (.int .u8 (l[j].toNat : Int)) := by
  have e : (⟨b, 0, none⟩ : Addr).add j = ⟨b, j, none⟩ := by unfold Addr.add; split <;> simp_all
  rw [e, h.cell j hj]
  simp [List.getD_eq_getElem?_getD, hj]

theorem bgetD_set_same (l : List UInt8) (k : Nat) (x : UInt8) (h : k < l.length) : (l.set k x).getD k 0 = x := by
  simp [List.getD_eq_getElem?_getD, h]
theorem bgetD_set_other (l : List UInt8) (k j : Nat) (x : UInt8) (h : j ≠ k) : (l.set k x).getD j 0 = l.getD j 0 := by
  simp [List.getD_eq_getElem?_getD, List.getElem?_set_ne (Ne.symm h)]
theorem bytes_step {l : List UInt8} {k n : Nat} {f : Nat → UInt8} {x : UInt8} (hl : l.length = n) (hk : k < n) (hp : ∀ j, j < k → l.getD j 0 = f j) (hx : x = f k) :
    (l.set k x).length = n ∧ ∀ j, j < k + 1 → (l.set k x).getD j 0 = f j := by
  refine ⟨by simp [hl], fun j hj => ?_⟩
  by_cases e : j = k
  · subst e; rw [bgetD_set_same _ _ _ (by omega), hx]
  · rw [bgetD_set_other _ _ _ _ e]; exact hp j (by omega)
theorem blist_of_getD (l : List UInt8) (n : Nat) (f : Nat → UInt8) (hl : l.length = n) (h : ∀ j, j < n → l.getD j 0 = f j) : l = (List.range n).map f := by
  apply List.ext_getElem
  · simp [hl]
  · intro i h1 h2
    have := h i (by omega)
    rw [List.getD_eq_getElem?_getD, List.getElem?_eq_getElem h1] at this
    simpa using this

/-- Byte i of a word, the highest first. -/
def wbyte (x : BitVec 32) (i : Nat) : UInt8 := UInt8.ofNat (x.toNat / 2 ^ (24 - 8 * i))
def stByte (st : St) (j : Nat) : UInt8 := wbyte (st.l.getD (j / 4) 0) (j % 4)
/-- A state's 32 bytes. -/
def St.text (st : St) : List UInt8 := (List.range 32).map (stByte st)
theorem wbyte_toNat (x : BitVec 32) (i : Nat) : ((wbyte x i).toNat : Int) = u x / 2 ^ (24 - 8 * i) % 256 := by
  unfold wbyte u
  rw [UInt8.toNat_ofNat']
  simp
theorem u_b0 (x : BitVec 32) : u x / (16777216 : Int) % 256 = ((wbyte x 0).toNat : Int) := by rw [wbyte_toNat]; rfl
theorem u_b1 (x : BitVec 32) : u x / (65536 : Int) % 256 = ((wbyte x 1).toNat : Int) := by rw [wbyte_toNat]; rfl
theorem u_b2 (x : BitVec 32) : u x / (256 : Int) % 256 = ((wbyte x 2).toNat : Int) := by rw [wbyte_toNat]; rfl
theorem u_b3 (x : BitVec 32) : u x % 256 = ((wbyte x 3).toNat : Int) := by rw [wbyte_toNat]; simp

end Go.Proofs.YtfjlkphpeneahaaDoor.S1
