/- The walk of the document's Bytes. -/
import Derived.Test.YtfjlkphpeneahaaDoorTItem
import Derived.Deep.RegionHeld3
namespace Go.Proofs.YtfjlkphpeneahaaDoor
open Go Go.RowKit

theorem undrew {w w' : World} (h : Below w.drew.heap.size w.drew w') : Below w.heap.size w w' := ((Below.refl _ _).drew).trans h
set_option maxRecDepth 100000 in
set_option maxHeartbeats 1000000 in
theorem rbytes_any (x : It) (hx : x.1.length ≤ 20000 ∧ x.2.length ≤ 20000) (w : World) :
    Calls Tryd.prog 34 #[iv x] w fun e w' => e = .returned (.string (txt (itemL x))) ∧ Below w.heap.size w w' := by
  obtain ⟨k, v⟩ := x
  have hk : k.length ≤ 20000 := hx.1
  have hv : v.length ≤ 20000 := hx.2
  have zk := txt_size k
  have zv := txt_size v
  unfold iv
  dsimp only
  have P1 := Lib.hid (fun V => two_any k.length (by omega) V)
  have P2 := Lib.hid (fun V => two_any v.length (by omega) V)
  have e1 := cat (be2 k.length) k (by simp [be2_len]; omega)
  have e2 := cat (be2 k.length ++ k) (be2 v.length) (by simp [be2_len]; omega)
  have e3 := cat (be2 k.length ++ k ++ be2 v.length) v (by simp [be2_len]; omega)
  have HR : Hid (be2 k.length ++ k ++ be2 v.length ++ v = itemL (k, v)) := Lib.hid (by simp [itemL])
  rw [HR.out] at e3
  have q0 : (w.alloc (.cells #[.string (txt k), .string (txt v)] 43)).cell? ⟨w.heap.size, 0, none⟩ = some (.string (txt k)) := cell_of_row _ _ 0 _ _ _ (heap_alloc_new w _)
  have q1 : (w.alloc (.cells #[.string (txt k), .string (txt v)] 43)).cell? ⟨w.heap.size, 1, none⟩ = some (.string (txt v)) := cell_of_row _ _ 1 _ _ _ (heap_alloc_new w _)
  have hb0 : Below w.heap.size w (w.alloc (.cells #[.string (txt k), .string (txt v)] 43)) := (Below.refl _ _).alloc (Nat.le_refl _) _
  have hsz : w.heap.size < (w.alloc (.cells #[.string (txt k), .string (txt v)] 43)).heap.size := by simp
  generalize itemL (k, v) = r at *
  generalize txt (be2 k.length ++ k ++ be2 v.length) = t3 at *
  generalize txt (be2 k.length ++ k) = t2 at *
  generalize txt (be2 k.length) = t1 at *
  generalize txt (be2 v.length) = t5 at *
  clear HR hx hk hv
  go_enter Tryd.func34, Tryd.ntmps34
  go_upto_region 1 with fail
  generalize w.alloc (.cells #[.string (txt k), .string (txt v)] 43) = W1 at *
  generalize hbb : w.heap.size = bb at *
  have HC : Hid (∀ V, Below W1.heap.size W1 V → V.cell? ⟨bb, 0, none⟩ = some (.string (txt k)) ∧ V.cell? ⟨bb, 1, none⟩ = some (.string (txt v))) := Lib.hid fun V hb => ⟨(Ch.of_new (S := fun _ => False) hb).cell q0 id, (Ch.of_new (S := fun _ => False) hb).cell q1 id⟩
  go_region_held3 (fun V => V.cell? ⟨bb, 0, none⟩ = some (.string (txt k)) ∧ V.cell? ⟨bb, 1, none⟩ = some (.string (txt v)))
    (first | exact ⟨q0, q1⟩ | exact HC.out _ hb2 | exact HC.out _ hb1)
    (first
      | (go_at_call 65; (with_reducible refine (P1.out _).mono ?_); rintro e w1 ⟨rfl, hb1'⟩; have hb1 : Below W1.heap.size W1 w1 := undrew hb1')
      | (go_at_call 65; (with_reducible refine (P2.out _).mono ?_); rintro e w2 ⟨rfl, hb2'⟩; have hb2 : Below W1.heap.size W1 w2 := Below.trans hb1 (hb2'.mono hb1.size)))
  all_goals (
    go_wp2
    go_ret
    exact ⟨rfl, by rw [hbb]; exact hb0.trans (hb2.mono (by omega))⟩)
end Go.Proofs.YtfjlkphpeneahaaDoor
