/- The walk of Names; slices that are read. -/
import Derived.Test.YtogihpofkjpokaaGreatDoorDFileFall
namespace Go.Proofs.YtogihpofkjpokaaGreatDoor.D4
open Go Go.RowKit Go.Maps

/-- The slice of the address has these texts. -/
def RdS (w : World) (a : Option Addr) (xs : List (List UInt8)) : Prop :=
  ∀ i, i < xs.length → ∃ b off, a = some ⟨b, off, none⟩ ∧ w.cell? ⟨b, off + i, none⟩ = some (.string ⟨(xs.getD i []).toArray⟩)
/-- .. and these numbers. -/
def RdI (w : World) (a : Option Addr) (xs : List Int) : Prop :=
  ∀ i, i < xs.length → ∃ b off, a = some ⟨b, off, none⟩ ∧ w.cell? ⟨b, off + i, none⟩ = some (.int .i64 (xs.getD i 0))
theorem RdS.keep {P : Nat → Prop} {w w' : World} {a : Option Addr} {xs : List (List UInt8)} (h : RdS w a xs) (hc : Ch P w w') (hs : ∀ ad, a = some ad → ¬ P ad.block) : RdS w' a xs := fun i hi => by
  obtain ⟨b, off, ha, h1⟩ := h i hi
  exact ⟨b, off, ha, hc.cell (p := ⟨b, off + i, none⟩) h1 (hs ⟨b, off, none⟩ ha)⟩
theorem RdI.keep {P : Nat → Prop} {w w' : World} {a : Option Addr} {xs : List Int} (h : RdI w a xs) (hc : Ch P w w') (hs : ∀ ad, a = some ad → ¬ P ad.block) : RdI w' a xs := fun i hi => by
  obtain ⟨b, off, ha, h1⟩ := h i hi
  exact ⟨b, off, ha, hc.cell (p := ⟨b, off + i, none⟩) h1 (hs ⟨b, off, none⟩ ha)⟩
theorem owns_rd {w : World} {base : Nat} {v : Value} {xs : List (List UInt8)} (h : w.ownsRow base 9 1 v xs.length (xs.map encStr)) :
    ∃ a cap, v = .slice a xs.length cap ∧ RdS w a xs ∧ ∀ ad, a = some ad → base ≤ ad.block ∧ ad.block < w.heap.size := by
  rcases h.2 with ⟨hv, h0⟩ | ⟨g, cap, cur, hv, hb, hg, hnc, hcm, hcs, ht⟩
  · exact ⟨none, 0, by rw [hv, h0], fun i hi => absurd hi (by omega), fun ad h => by cases h⟩
  · refine ⟨some ⟨g, 0, none⟩, cap, hv, fun i hi => ⟨g, 0, rfl, ?_⟩, fun ad h => by cases h; exact ⟨hb, lt_of_heap hg⟩⟩
    rw [cell_of_row _ _ _ _ _ _ hg, Nat.zero_add]
    have h3 : (cur.toList.take (xs.length * 1))[i]? = (xs.map encStr)[i]? := by rw [ht]
    rw [List.getElem?_take_of_lt (by omega)] at h3
    rw [← Array.getElem?_toList, h3, List.getElem?_map, List.getElem?_eq_getElem hi, List.getD_eq_getElem?_getD, List.getElem?_eq_getElem hi]
    rfl

set_option maxRecDepth 100000 in
set_option maxHeartbeats 1000000 in
theorem names_any {w : World} {d : Nat} {s : S} (h : At w d s) (hlen : s.fs.length ≤ 1000000) :
    Calls Tryz.prog 30 #[dp d] w fun e w' => ∃ a c, e = .returned (.slice a s.fs.length c) ∧ RdS w' a (s.fs.map (·.1)) ∧ (∀ ad, a = some ad → w.heap.size ≤ ad.block ∧ ad.block < w'.heap.size) ∧ Below w.heap.size w w' := by
  have c2 := h.c2
  have HK := Lib.hid (callsIn_wide.1 (Tryz.maps_Keys_27 s.m w))
  have HS : Hid (Calls Tryz.prog 48 #[.func (.func 70) #[] #[.pointer (some ⟨w.heap.size, 0, none⟩)]] (w.alloc (.cells #[.map s.m] 60)) fun e w' => ∃ a c, e = .returned (.slice a s.fs.length c) ∧ RdS w' a (s.fs.map (·.1)) ∧ (∀ ad, a = some ad → w.heap.size ≤ ad.block ∧ ad.block < w'.heap.size) ∧ Below w.heap.size w w') := Lib.hid (by
    have hB : Below w.heap.size w (w.alloc (.cells #[.map s.m] 60)) := (Below.refl _ _).alloc (Nat.le_refl _) _
    have hz : w.heap.size ≤ (w.alloc (.cells #[.map s.m] 60)).heap.size := hB.size
    cases hm : s.m with
    | none =>
      rw [hm] at hB hz
      refine (callsIn_wide.1 (Tryz.slices_Sorted_keys_nil_26_27 w)).mono ?_
      rintro e w' ⟨v, ss, rfl, rfl, hO, hn, hb⟩
      rw [hn.2 rfl, h.nomap hm]
      exact ⟨none, 0, rfl, fun i hi => absurd hi (by simp), (fun ad e => by cases e), hB.trans (hb.mono hz)⟩
    | some b =>
      rw [hm] at hB hz
      have ho := h.map b hm
      refine (callsIn_wide.1 (Tryz.slices_Sorted_keys_26_27 b _ _ rdP w ho (by rw [dat_size, on_length]; unfold maxLen; omega) (by rw [dat_size, on_length]; omega))).mono ?_
      rintro e w' ⟨v, ss, rfl, hp, hO, hn, hb⟩
      rw [dat_keys, show (on F.blk s.fs).map (·.1) = s.fs.map (·.1) from by unfold on; simp] at hp
      rw [sorted_names h.asc hp] at hO
      have hl := hp.length_eq
      rw [hl] at hO
      obtain ⟨a, c, rfl, hR, ha⟩ := owns_rd hO
      rw [List.length_map]
      exact ⟨a, c, rfl, hR, fun ad e => ⟨Nat.le_trans hz (ha ad e).1, (ha ad e).2⟩, hB.trans (hb.mono hz)⟩)
  clear h
  generalize s.m = m at c2 HK HS
  unfold dp
  go_enter Tryz.func30, Tryz.ntmps30
  go_wp2_with (first | (go_at_call 49; (with_reducible refine HK.out.mono ?_); rintro e w1 ⟨rfl, rfl⟩) | (go_at_call 48; (with_reducible refine HS.out.mono ?_); rintro e w1 ⟨a, c, rfl, hR, ha, hb⟩))
  go_ret
  exact ⟨a, c, rfl, hR, ha, hb⟩
set_option maxRecDepth 100000 in
theorem names_nil (w : World) : Calls Tryz.prog 30 #[.pointer none] w fun e w' => e = .returned (.slice none 0 0) ∧ w' = w := by
  go_enter Tryz.func30, Tryz.ntmps30
  go_wp2
  go_ret
  exact ⟨rfl, rfl⟩
end Go.Proofs.YtogihpofkjpokaaGreatDoor.D4
