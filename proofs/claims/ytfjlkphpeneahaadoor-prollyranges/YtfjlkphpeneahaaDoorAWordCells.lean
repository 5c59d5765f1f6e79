/- Words and bytes in cells that may lie anywhere. -/
import Derived.Test.YtfjlkphpeneahaaDoorAGather
namespace Go.Proofs.YtfjlkphpeneahaaDoor.S1
open Go Go.RowKit

theorem Tryd.info110 : (Tryd.prog.info? 110).map (fun i => (i.zero, i.size, i.bytes)) = some (some (.int .u32 0), 1, 4) := by kernel_rfl

/-- Words lie in block g, and may be written. -/
def WC (w : World) (g : Nat) (l : List (BitVec 32)) : Prop := g < w.heap.size ∧ ∀ j, j < l.length → w.cell? ⟨g, j, none⟩ = some (.int .u32 (u (l.getD j 0))) ∧ w.frozen? ⟨g, j, none⟩ = false
theorem WC.lt {w : World} {g : Nat} {l : List (BitVec 32)} (h : WC w g l) : g < w.heap.size := h.1
theorem WC.cell {w : World} {g : Nat} {l : List (BitVec 32)} (h : WC w g l) (j : Nat) (hj : j < l.length) : w.cell? ⟨g, j, none⟩ = some (.int .u32 (u (l.getD j 0))) := (h.2 j hj).1
theorem WC.frozen {w : World} {g : Nat} {l : List (BitVec 32)} (h : WC w g l) (j : Nat) (hj : j < l.length) : w.frozen? ⟨g, j, none⟩ = false := (h.2 j hj).2
theorem WC.of_block {w w' : World} {g : Nat} {l : List (BitVec 32)} (h : WC w g l) (hz : w.heap.size ≤ w'.heap.size) (hb : w'.heap[g]? = w.heap[g]?) : WC w' g l :=
  ⟨Nat.lt_of_lt_of_le h.1 hz, fun j hj => ⟨(World.cell?_of_block (a := ⟨g, j, none⟩) hb).trans (h.2 j hj).1, (World.frozen?_of_block (a := ⟨g, j, none⟩) hb).trans (h.2 j hj).2⟩⟩
theorem WC.drew {w : World} {g : Nat} {l : List (BitVec 32)} (h : WC w g l) : WC w.drew g l := h
theorem WC.drewN {w : World} {g : Nat} {l : List (BitVec 32)} (h : WC w g l) (n : Nat) : WC (w.drewN n) g l := h
theorem WC.alloc {w : World} {g : Nat} {l : List (BitVec 32)} (h : WC w g l) (o : Obj) : WC (w.alloc o) g l := h.of_block (by simp) (Below.heap_alloc _ _ _ h.1)
theorem WC.kp {B : Nat} {w w' : World} {g : Nat} {l : List (BitVec 32)} (h : WC w g l) (hb : Kp B w w') (hg : g < B) : WC w' g l := h.of_block hb.size (hb.block _ hg)
theorem WC.far {w : World} {g : Nat} {l : List (BitVec 32)} (h : WC w g l) {p : Addr} (hp : g ≠ p.block) (x : Value) : WC (w.setCell p x) g l :=
  h.of_block (by simp [World.setCell]) (Below.heap_setCell _ _ _ _ hp)
theorem WC.set {w : World} {g : Nat} {l : List (BitVec 32)} (h : WC w g l) (k : Nat) (x : BitVec 32) : WC (w.setCell ⟨g, k, none⟩ (.int .u32 (u x))) g (l.set k x) := by
  refine ⟨by simpa [World.setCell] using h.1, fun j hj => ?_⟩
  rw [List.length_set] at hj
  have h1 := h.2 j hj
  refine ⟨?_, by rw [World.frozen?_setCell]; exact h1.2⟩
  by_cases e : j = k
  · subst e
    rw [World.cell?_setCell_same _ _ _ h1.1, getD_set_same _ _ _ hj]
  · rw [World.cell?_setCell_other _ _ _ _ (by intro he; injection he; omega), getD_set_other _ _ _ _ e]
    exact h1.1
theorem WC.of_own {w : World} {base : Nat} {v : Value} {l : List (BitVec 32)} (h : w.ownsRow base 110 1 v l.length (l.map wv)) (hl : 0 < l.length) : ∃ g cap, v = .slice (some ⟨g, 0, none⟩) l.length cap ∧ base ≤ g ∧ WC w g l := by
  rcases h.2 with ⟨_, h0⟩ | ⟨g, cap, cur, hv, hb, hg, hnc, hcm, hcs, ht⟩
  · omega
  · refine ⟨g, cap, hv, hb, ?_, fun j hj => ⟨?_, frozen_of_row _ _ _ _ _ hg⟩⟩
    · rcases Nat.lt_or_ge g w.heap.size with h1 | h1
      · exact h1
      · rw [Array.getElem?_eq_none h1] at hg; cases hg
    · rw [cell_of_row _ _ _ _ _ _ hg]
      have h3 : (cur.toList.take (l.length * 1))[j]? = (l.map wv)[j]? := by rw [ht]
      rw [List.getElem?_take_of_lt (by omega)] at h3
      rw [← Array.getElem?_toList, h3]
      simp [wv, hj]
/-- Bytes lie in block g. -/
def BR (w : World) (g : Nat) (l : List UInt8) : Prop := g < w.heap.size ∧ ∀ j, j < l.length → w.cell? ⟨g, j, none⟩ = some (.int .u8 ((l.getD j 0).toNat : Int))
theorem BR.lt {w : World} {g : Nat} {l : List UInt8} (h : BR w g l) : g < w.heap.size := h.1
theorem BR.cell {w : World} {g : Nat} {l : List UInt8} (h : BR w g l) (j : Nat) (hj : j < l.length) : w.cell? ⟨g, j, none⟩ = some (.int .u8 ((l.getD j 0).toNat : Int)) := h.2 j hj
theorem BR.of_block {w w' : World} {g : Nat} {l : List UInt8} (h : BR w g l) (hz : w.heap.size ≤ w'.heap.size) (hb : w'.heap[g]? = w.heap[g]?) : BR w' g l :=
  ⟨Nat.lt_of_lt_of_le h.1 hz, fun j hj => (World.cell?_of_block (a := ⟨g, j, none⟩) hb).trans (h.2 j hj)⟩
theorem BR.drew {w : World} {g : Nat} {l : List UInt8} (h : BR w g l) : BR w.drew g l := h
theorem BR.drewN {w : World} {g : Nat} {l : List UInt8} (h : BR w g l) (n : Nat) : BR (w.drewN n) g l := h
theorem BR.alloc {w : World} {g : Nat} {l : List UInt8} (h : BR w g l) (o : Obj) : BR (w.alloc o) g l := h.of_block (by simp) (Below.heap_alloc _ _ _ h.1)
theorem BR.far {w : World} {g : Nat} {l : List UInt8} (h : BR w g l) {p : Addr} (hp : g ≠ p.block) (x : Value) : BR (w.setCell p x) g l :=
  h.of_block (by simp [World.setCell]) (Below.heap_setCell _ _ _ _ hp)
theorem SB.br {w : World} {base : Nat} {v : Value} {l : List UInt8} (h : SB w base v (l.map bv)) : ∃ g cap, v = .slice (some ⟨g, 0, none⟩) l.length cap ∧ base ≤ g ∧ BR w g l := by
  obtain ⟨g, cap, hv, hb, hg, hc⟩ := h
  refine ⟨g, cap, by rw [hv, List.length_map], hb, hg, fun j hj => ?_⟩
  have := hc.olds j (bv (l.getD j 0)) (by simp [List.getD_eq_getElem?_getD, hj])
  rw [Nat.zero_add] at this
  exact this
theorem src_new {w : World} {g : Nat} {l : List UInt8} (n : Nat) (hn : n = l.length) (h : w.heap[g]? = some (.cells (bvs l) 5 (0, 0))) : Src Tryd.prog 1 108 (.slice (some ⟨g, 0, none⟩) n n) n (l.map bv) w := by
  subst hn
  refine Src.ofSlice w Tryd.underlying108 ⟨g, 0, none⟩ l.length l.length (l.map bv) (by simp) (fun j x hj => ?_) (fun x hx => ?_)
  · have e : (⟨g, 0, none⟩ : Addr).add j = ⟨g, j, none⟩ := by unfold Addr.add; split <;> simp_all
    rw [e, cell_of_row _ _ _ _ _ _ h]
    simpa [bvs] using hj
  · obtain ⟨b, _, rfl⟩ := List.mem_map.1 hx
    rfl

end Go.Proofs.YtfjlkphpeneahaaDoor.S1
