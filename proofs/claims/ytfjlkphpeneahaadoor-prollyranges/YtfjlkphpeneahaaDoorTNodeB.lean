/- The walk of nodeBytes. -/
import Derived.Test.YtfjlkphpeneahaaDoorTItem
import Derived.Test.YtfjlkphpeneahaaDoorShelf
namespace Go.Proofs.YtfjlkphpeneahaaDoor
open Go Go.RowKit

theorem OwT.cap {w : World} {base : Nat} {a : Option Addr} {n c : Nat} {xs : List Bs} (h : OwT w base (.slice a n c) xs) : n ≤ c ∧ c ≤ maxLen := by
  rcases h.2 with ⟨hv, h0⟩ | ⟨g, cap, cur, hv, hb, hg, hnc, hcm, hcs, ht⟩
  · cases hv; unfold maxLen; omega
  · cases hv; exact ⟨hnc, hcm⟩
theorem join_flat : ∀ xs : List Bs, Lib.join xs [] = xs.flatten
  | [] => rfl
  | [x] => by simp [Lib.join, List.intercalate]
  | x :: y :: r => by
    have h := join_flat (y :: r)
    unfold Lib.join List.intercalate at h ⊢
    rw [List.intersperse_cons_cons, List.flatten_cons, List.flatten_cons, h, List.nil_append]
    rfl
def node0 (lev : Nat) (n : Nat) : Bs := [80, UInt8.ofNat lev, UInt8.ofNat n]
theorem head_run (lev n : Nat) (hl : lev < 256) (hn : n < 256) (w : World) : (convert 108 9 (.slice (some ⟨w.heap.size, 0, none⟩) 3 3)).run Tryd.prog (w.alloc (.cells #[.int .u8 80, .int .u8 (lev : Int), .int .u8 (n : Int)] 5)) = .ok (.string (txt (node0 lev n))) (w.alloc (.cells #[.int .u8 80, .int .u8 (lev : Int), .int .u8 (n : Int)] 5)) := by
  have e : #[.int .u8 80, .int .u8 (lev : Int), .int .u8 (n : Int)] = bvs (node0 lev n) := by
    unfold node0 bvs
    simp only [List.map_cons, List.map_nil, bv, u8_small hl, u8_small hn]
    rfl
  rw [e]
  refine run_convert_bytes_back _ 108 9 5 ⟨w.heap.size, 0, none⟩ 3 (node0 lev n) Tryd.underlying108 Tryd.underlying5 Tryd.underlying9 ?_
  intro j hj
  rw [add0, cell_of_row _ _ _ _ _ _ (heap_alloc_new _ _)]
  simp [bvs, bv, hj]
/-- strings.Join with nothing between. -/
theorem join_any {w : World} {a : Option Addr} {xs : List Bs} {c : Nat} (hr : RdT w a xs) (hc : xs.length ≤ c) (hl : xs.length ≤ 1000) (hx : xs.flatten.length ≤ 1000000) :
    Calls Tryd.prog 54 #[.slice a xs.length c, .string ⟨#[]⟩] w fun e w' => e = .returned (.string (txt xs.flatten)) ∧ Below w.heap.size w w' := by
  cases hxs : xs with
  | nil => exact (Tryd.strings_Join_none a c ⟨#[]⟩ w).mono (by rintro e w' ⟨rfl, rfl⟩; exact ⟨rfl, Below.refl _ _⟩)
  | cons x r =>
    obtain ⟨b, off, rfl, h1⟩ := hr 0 (by rw [hxs]; simp)
    have hj : Lib.join ((xs.map txt).map (·.data.toList)) (ByteArray.mk #[]).data.toList = xs.flatten := by
      rw [List.map_map, show ((fun x : ByteArray => x.data.toList) ∘ txt) = id from rfl, List.map_id]
      exact join_flat xs
    have := Tryd.strings_Join b off c (xs.map txt) ⟨#[]⟩ w (fun j y hy => by
      rw [List.getElem?_map] at hy
      cases hj : xs[j]? with
      | none => rw [hj] at hy; cases hy
      | some z =>
        rw [hj] at hy
        cases hy
        have hlt := (List.getElem?_eq_some_iff.1 hj).1
        obtain ⟨b', off', he, h2⟩ := hr j hlt
        cases he
        rw [h2, List.getD_eq_getElem?_getD, hj]; rfl) (World.block_lt_of_cell? _ _ h1) (by simp; omega) (by simpa using hc) (by rw [hj]; omega)
    rw [List.length_map, hj] at this
    rw [← hxs]
    exact this
set_option maxRecDepth 100000 in
set_option maxHeartbeats 400000 in
theorem nodeBytes_any {w : World} (lev : Nat) (hlev : lev < 256) {a : Option Addr} {xs : List Bs} {c : Nat} (hr : RdT w a xs) (hc : xs.length ≤ c) (hl : xs.length ≤ 16) (hx : xs.flatten.length ≤ 1000000) :
    Calls Tryd.prog 27 #[.int .i64 (lev : Int), .slice a xs.length c] w fun e w' => e = .returned (.string (txt (node0 lev xs.length ++ xs.flatten))) ∧ Below w.heap.size w w' := by
  have hl' : (xs.length : Int) ≤ 16 := by omega
  have hlev' : (lev : Int) < 256 := by omega
  have hb0 : Below w.heap.size w (w.alloc (.cells #[.int .u8 80, .int .u8 (lev : Int), .int .u8 (xs.length : Int)] 5)) := (Below.refl _ _).alloc (Nat.le_refl _) _
  have h1 := head_run lev xs.length hlev (by omega) w
  have P := Lib.hid (join_any (hr.new hb0) hc (by omega) hx)
  have e1 := cat (node0 lev xs.length) xs.flatten (by rw [show (node0 lev xs.length).length = 3 from rfl]; omega)
  generalize txt (node0 lev xs.length ++ xs.flatten) = t2 at *
  generalize txt (node0 lev xs.length) = t1 at *
  generalize txt xs.flatten = t3 at *
  go_enter Tryd.func27, Tryd.ntmps27
  go_wp2_with (go_at_call 54; (with_reducible refine P.out.mono ?_); rintro e w1 ⟨rfl, hb1⟩)
  go_ret
  exact ⟨rfl, hb0.trans (hb1.mono hb0.size)⟩
end Go.Proofs.YtfjlkphpeneahaaDoor
