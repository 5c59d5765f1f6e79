/- The roots of primes, plainly: numbers of 64 bits as the walk carries them, and their parts of 16 bits in cells. -/
import Derived.Test.YtbbdlggbddaahaaDoorWordCells
namespace Go.Proofs.YtbbdlggbddaahaaDoor
open Go Go.RowKit

/-- A number of 64 bits. -/
def q (n : Nat) : Int := (n : Int)
def addW (a b : Nat) : Nat := (a + b) % 18446744073709551616
def mulW (a b : Nat) : Nat := (a * b) % 18446744073709551616
def lo16 (a : Nat) : Nat := a % 65536
def hi16 (a : Nat) : Nat := a / 65536 % 18446744073709551616
def hi32 (a : Nat) : Nat := a / 4294967296 % 18446744073709551616
def innV (m l r : List Nat) (c i j : Nat) : Nat := addW (addW (r.getD (i + j) 0) (mulW (m.getD i 0) (l.getD j 0))) c
def inn (m l : List Nat) (i : Nat) : Nat → Nat → List Nat → Nat → List Nat × Nat
  | 0, _, r, c => (r, c)
  | f + 1, j, r, c => inn m l i f (j + 1) (r.set (i + j) (lo16 (innV m l r c i j))) (hi16 (innV m l r c i j))
def midR (r : List Nat × Nat) (i : Nat) : List Nat := r.1.set (i + 3) (addW (r.1.getD (i + 3) 0) r.2)
def mid (m l : List Nat) : Nat → Nat → List Nat → List Nat
  | 0, _, r => r
  | f + 1, i, r => mid m l f (i + 1) (midR (inn m l i 3 0 r 0) i)
def outm (l : List Nat) : Nat → List Nat → List Nat
  | 0, m => m
  | f + 1, m => outm l f (mid m l m.length 0 (List.replicate (m.length + 3) 0))
def fin (m : List Nat) (pw : Nat) : Nat → Nat → Bool → Nat × Bool
  | 0, top, rest => (top, rest)
  | t + 1, top, rest => if 2 * pw ≤ t then fin m pw t (addW (mulW top 65536) (m.getD t 0)) rest else fin m pw t top (rest || decide (0 < m.getD t 0))
def limbs (x : Nat) : List Nat := [lo16 x, lo16 (hi16 x), hi32 x]
def aboveE (tr : Nat × Bool) (p : Nat) : Bool := decide (p < tr.1) || (tr.1 == p && tr.2)
def aboveN (x pw p : Nat) : Bool := aboveE (fin (outm (limbs x) (pw - 1) (limbs x)) pw (outm (limbs x) (pw - 1) (limbs x)).length 0 false) p
def rootx (pw p : Nat) : Nat → Nat → Nat
  | 0, x => x
  | b + 1, x => if aboveN (x ||| 2 ^ b) pw p then rootx pw p b x else rootx pw p b (x ||| 2 ^ b)
def root (pw p : Nat) : Nat := rootx pw p 37 0 % 4294967296
def primesF : Nat → List Nat → Nat → Nat → List Nat
  | 0, l, _, _ => l
  | f + 1, l, k, n => if l.length < n then primesF f (if l.all (fun p => !(k % p == 0)) then l ++ [k] else l) (k + 1) n else l

theorem q_def (n : Nat) : q n = (n : Int) := rfl
theorem q_nonneg (n : Nat) : 0 ≤ q n := Int.natCast_nonneg _
theorem q_add (a b : Nat) : IntKind.u64.wrap (q a + q b) = q (addW a b) := by
  unfold q addW; rw [IntKind.wrap_u64]; omega
theorem q_mul (a b : Nat) : IntKind.u64.wrap (q a * q b) = q (mulW a b) := by
  unfold q mulW; rw [IntKind.wrap_u64, ← Int.natCast_mul]; omega
theorem q_mul16 (a : Nat) : IntKind.u64.wrap (q a * (65536 : Int)) = q (mulW a 65536) := q_mul a 65536
theorem q_lo (a : Nat) : (q a).tmod (65536 : Int) = q (lo16 a) := by
  unfold q lo16; rw [Int.tmod_eq_emod_of_nonneg (by omega)]; omega
theorem q_hi (a : Nat) : IntKind.u64.wrap ((q a).tdiv (65536 : Int)) = q (hi16 a) := by
  unfold q hi16; rw [IntKind.wrap_u64, Int.tdiv_eq_ediv_of_nonneg (by omega)]; omega
theorem q_hi32 (a : Nat) : IntKind.u64.wrap ((q a).tdiv (4294967296 : Int)) = q (hi32 a) := by
  unfold q hi32; rw [IntKind.wrap_u64, Int.tdiv_eq_ediv_of_nonneg (by omega)]; omega
theorem q_inj {a b : Nat} (h : q a = q b) : a = b := by unfold q at h; omega

theorem inn_len (m l : List Nat) (i f j : Nat) (r : List Nat) (c : Nat) : (inn m l i f j r c).1.length = r.length := by
  induction f generalizing j r c with
  | zero => rfl
  | succ f ih => rw [inn, ih, List.length_set]
theorem midR_len (r : List Nat × Nat) (i : Nat) : (midR r i).length = r.1.length := by unfold midR; rw [List.length_set]
theorem mid_len (m l : List Nat) (f i : Nat) (r : List Nat) : (mid m l f i r).length = r.length := by
  induction f generalizing i r with
  | zero => rfl
  | succ f ih => rw [mid, ih, midR_len, inn_len]

def qv (n : Nat) : Value := .int .u64 (q n)
def qvs (l : List Nat) : Array Value := (l.map qv).toArray
/-- Numbers of 64 bits lie in block g, and may be written. -/
def QC (w : World) (g : Nat) (l : List Nat) : Prop := g < w.heap.size ∧ ∀ j, j < l.length → w.cell? ⟨g, j, none⟩ = some (.int .u64 (q (l.getD j 0))) ∧ w.frozen? ⟨g, j, none⟩ = false
theorem QC.lt {w : World} {g : Nat} {l : List Nat} (h : QC w g l) : g < w.heap.size := h.1
theorem QC.cell {w : World} {g : Nat} {l : List Nat} (h : QC w g l) (j : Nat) (hj : j < l.length) : w.cell? ⟨g, j, none⟩ = some (.int .u64 (q (l.getD j 0))) := (h.2 j hj).1
theorem QC.frozen {w : World} {g : Nat} {l : List Nat} (h : QC w g l) (j : Nat) (hj : j < l.length) : w.frozen? ⟨g, j, none⟩ = false := (h.2 j hj).2
theorem QC.of_block {w w' : World} {g : Nat} {l : List Nat} (h : QC w g l) (hz : w.heap.size ≤ w'.heap.size) (hb : w'.heap[g]? = w.heap[g]?) : QC w' g l :=
  ⟨Nat.lt_of_lt_of_le h.1 hz, fun j hj => ⟨(World.cell?_of_block (a := ⟨g, j, none⟩) hb).trans (h.2 j hj).1, (World.frozen?_of_block (a := ⟨g, j, none⟩) hb).trans (h.2 j hj).2⟩⟩
theorem QC.drew {w : World} {g : Nat} {l : List Nat} (h : QC w g l) : QC w.drew g l := h
theorem QC.drewN {w : World} {g : Nat} {l : List Nat} (h : QC w g l) (n : Nat) : QC (w.drewN n) g l := h
theorem QC.alloc {w : World} {g : Nat} {l : List Nat} (h : QC w g l) (o : Obj) : QC (w.alloc o) g l := h.of_block (by simp) (Below.heap_alloc _ _ _ h.1)
theorem QC.kp {B : Nat} {w w' : World} {g : Nat} {l : List Nat} (h : QC w g l) (hb : Kp B w w') (hg : g < B) : QC w' g l := h.of_block hb.size (hb.block _ hg)
theorem QC.far {w : World} {g : Nat} {l : List Nat} (h : QC w g l) {p : Addr} (hp : g ≠ p.block) (x : Value) : QC (w.setCell p x) g l :=
  h.of_block (by simp [World.setCell]) (Below.heap_setCell _ _ _ _ hp)
theorem ngetD_set_same (l : List Nat) (k x : Nat) (h : k < l.length) : (l.set k x).getD k 0 = x := by
  simp [List.getD_eq_getElem?_getD, h]
theorem ngetD_set_other (l : List Nat) (j k x : Nat) (h : j ≠ k) : (l.set k x).getD j 0 = l.getD j 0 := by
  simp [List.getD_eq_getElem?_getD, List.getElem?_set_ne (Ne.symm h)]
theorem QC.set {w : World} {g : Nat} {l : List Nat} (h : QC w g l) (k : Nat) (x : Nat) : QC (w.setCell ⟨g, k, none⟩ (.int .u64 (q x))) g (l.set k x) := by
  refine ⟨by simpa [World.setCell] using h.1, fun j hj => ?_⟩
  rw [List.length_set] at hj
  have h1 := h.2 j hj
  refine ⟨?_, by rw [World.frozen?_setCell]; exact h1.2⟩
  by_cases e : j = k
  · subst e
    rw [World.cell?_setCell_same _ _ _ h1.1, ngetD_set_same _ _ _ hj]
  · rw [World.cell?_setCell_other _ _ _ _ (by intro he; injection he; omega), ngetD_set_other _ _ _ _ e]
    exact h1.1
theorem QC.of_new (w : World) (l : List Nat) : QC (w.alloc (.cells (qvs l) 41)) w.heap.size l := by
  have hh : (w.alloc (.cells (qvs l) 41)).heap[w.heap.size]? = some (.cells (qvs l) 41 (0, 0)) := heap_alloc_new w _
  refine ⟨by simp, fun j hj => ⟨?_, frozen_of_row _ _ _ _ _ hh⟩⟩
  rw [cell_of_row _ _ _ _ _ _ hh]
  simp [qvs, qv, hj]
theorem Tryd.info41 : (Tryd.prog.info? 41).map (fun i => (i.zero, i.size, i.bytes)) = some (some (.int .u64 0), 1, 8) := by kernel_rfl
theorem QC.of_own {w : World} {base : Nat} {v : Value} {l : List Nat} (h : w.ownsRow base 41 1 v l.length (l.map qv)) (hl : 0 < l.length) : ∃ g cap, v = .slice (some ⟨g, 0, none⟩) l.length cap ∧ base ≤ g ∧ QC w g l := by
  rcases h.2 with ⟨_, h0⟩ | ⟨g, cap, cur, hv, hb, hg, hnc, hcm, hcs, ht⟩
  · omega
  · refine ⟨g, cap, hv, hb, ?_, fun j hj => ⟨?_, frozen_of_row _ _ _ _ _ hg⟩⟩
    · rcases Nat.lt_or_ge g w.heap.size with h1 | h1
      · exact h1
      · rw [Array.getElem?_eq_none h1] at hg; cases hg
    · rw [cell_of_row _ _ _ _ _ _ hg]
      have h3 : (cur.toList.take (l.length * 1))[j]? = (l.map qv)[j]? := by rw [ht]
      rw [List.getElem?_take_of_lt (by omega)] at h3
      rw [← Array.getElem?_toList, h3]
      simp [qv, hj]

end Go.Proofs.YtbbdlggbddaahaaDoor
