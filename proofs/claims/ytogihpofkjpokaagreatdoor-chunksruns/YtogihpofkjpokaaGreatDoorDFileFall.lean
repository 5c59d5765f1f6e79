/- The walk of a file's fall. -/
import Derived.Test.YtogihpofkjpokaaGreatDoorDRead
namespace Go.Proofs.YtogihpofkjpokaaGreatDoor.D4
open Go Go.RowKit Go.Maps

/-- How many bytes are kept. -/
def kept (len sure : Nat) (n : Int) : Nat := sure + (min (max n 0) ((len : Int) - (sure : Int))).toNat
theorem kept_le {len sure : Nat} (n : Int) (h : sure ≤ len) : kept len sure n ≤ len := by unfold kept; omega
theorem kept_int {len sure : Nat} (n : Int) (h : sure ≤ len) : (sure : Int) + min (max n 0) ((len : Int) - (sure : Int)) = (kept len sure n : Int) := by unfold kept; omega
theorem _root_.Go.Proofs.YtogihpofkjpokaaGreatDoor.OwB.cut {w : World} {base : Nat} {v : Value} {l : List UInt8} (h : OwB w base v l) (m : Nat) (hm : m ≤ l.length) :
    ∃ a c, v = .slice a l.length c ∧ l.length ≤ c ∧ OwB w base (.slice a m c) (l.take m) ∧ (Value.slice a m c).ownBlock = v.ownBlock := by
  rcases h.2 with ⟨hv, h0⟩ | ⟨g, cap, cur, hv, hb, hg, hnc, hcm, hcs, ht⟩
  · have : l = [] := List.length_eq_zero_iff.1 h0
    subst this
    have : m = 0 := by simpa using hm
    subst this
    exact ⟨none, 0, hv, Nat.le_refl _, OwB.nil _ _, by rw [hv]⟩
  · refine ⟨_, cap, hv, hnc, ⟨by simp, .inr ⟨g, cap, cur, ?_, hb, hg, ?_, hcm, hcs, ?_⟩⟩, by rw [hv]; rfl⟩
    · rw [List.length_take, Nat.min_eq_left hm]
    · rw [List.length_take]; omega
    · rw [Nat.mul_one] at ht
      rw [List.length_take, Nat.mul_one, Nat.min_eq_left hm, List.map_take, ← ht, List.take_take, Nat.min_eq_left hm]
def F.fall (f : F) (n : Int) (v' : Value) : F := ⟨f.blk, v', f.data.take (kept f.data.length f.sure n), kept f.data.length f.sure n⟩

set_option maxRecDepth 100000 in
set_option maxHeartbeats 4000000 in
theorem ffall_any {w : World} {f : F} (h : File w f) (hne : f.v.ownBlock ≠ some f.blk) (n : Int) (hlen : f.data.length ≤ 1073741824) :
    Calls Tryz.prog 41 #[dp f.blk, .int .i64 n] w fun e w' => ∃ v', e = .returned (.int .i64 ((f.data.length : Int) - (kept f.data.length f.sure n : Int))) ∧ File w' (f.fall n v') ∧ v'.ownBlock = f.v.ownBlock ∧ Ch (fun k => k = f.blk) w w' := by
  obtain ⟨blk, v, data, sure⟩ := f
  obtain ⟨hb, hO, hs⟩ := h
  simp only at hb hO hs hne hlen ⊢
  have hk := kept_le n hs
  have hki := kept_int n hs
  obtain ⟨a, c, rfl, hc, hO2, hown⟩ := hO.cut _ hk
  have c0 : w.cell? ⟨blk, 0, none⟩ = some (.slice a data.length c) := cell_of_row _ _ _ _ _ _ hb
  have c1 : w.cell? ⟨blk, 1, none⟩ = some (.int .i64 (sure : Int)) := cell_of_row _ _ _ _ _ _ hb
  have f0 : w.frozen? ⟨blk, 0, none⟩ = false := frozen_of_row _ _ _ _ _ hb
  have f1 : w.frozen? ⟨blk, 1, none⟩ = false := frozen_of_row _ _ _ _ _ hb
  have hsI : (sure : Int) ≤ (data.length : Int) := by omega
  have hcI : (kept data.length sure n : Int) ≤ (c : Int) := by omega
  have hkI : (kept data.length sure n : Int) ≤ (data.length : Int) := by omega
  have HE : Hid (File ((w.setCell ⟨blk, 1, none⟩ (.int .i64 (kept data.length sure n : Int))).setCell ⟨blk, 0, none⟩ (.slice a (kept data.length sure n) c)) (F.fall ⟨blk, .slice a data.length c, data, sure⟩ n (.slice a (kept data.length sure n) c))) := Lib.hid (by
    refine ⟨heap_setCell_same _ blk 0 _ 112 _ (heap_setCell_same _ blk 1 _ 112 _ hb), ?_, ?_⟩
    · refine (hO2.keep (Ch.set1 _ blk 1 _) ?_).keep (Ch.set1 _ blk 0 _) ?_
      · intro k hk e; rw [hown] at hk; exact hne (e ▸ hk)
      · intro k hk e; rw [hown] at hk; exact hne (e ▸ hk)
    · show kept data.length sure n ≤ (data.take (kept data.length sure n)).length
      rw [List.length_take]; omega)
  have hslice : ∀ W : World, (Instr.slice 110 (.slice a data.length c) none (some (.int .i64 (kept data.length sure n : Int))) none).run Tryz.prog W = .ok (.slice a (kept data.length sure n) c) W := by
    intro W
    obtain ⟨i0, hi, hz0, hz1, hz2⟩ := info_parts Tryz.info5
    rw [run_slice_h (P := Tryz.prog) W 110 a data.length c (by kernel_rfl) .i64 _ (by omega) hcI]
    rw [show Tryz.prog.elem 110 = 5 from by kernel_rfl]
    simp [sizeOf, typeInfo, hi, hz1, Result.andThen, sliced]
    intro h0
    cases a with
    | none => rfl
    | some x => rw [Option.map_some, Addr.add_zero']
  generalize hK : kept data.length sure n = K at *
  have c0' : (w.setCell ⟨blk, 1, none⟩ (.int .i64 (K : Int))).cell? ⟨blk, 0, none⟩ = some (.slice a data.length c) := cell_of_row _ _ _ _ _ _ (heap_setCell_same _ blk 1 _ 112 _ hb)
  have c1' : (w.setCell ⟨blk, 1, none⟩ (.int .i64 (K : Int))).cell? ⟨blk, 1, none⟩ = some (.int .i64 (K : Int)) := cell_of_row _ _ _ _ _ _ (heap_setCell_same _ blk 1 _ 112 _ hb)
  have f0' : (w.setCell ⟨blk, 1, none⟩ (.int .i64 (K : Int))).frozen? ⟨blk, 0, none⟩ = false := frozen_of_row _ _ _ _ _ (heap_setCell_same _ blk 1 _ 112 _ hb)
  have c1'' : ((w.setCell ⟨blk, 1, none⟩ (.int .i64 (K : Int))).setCell ⟨blk, 0, none⟩ (.slice a K c)).cell? ⟨blk, 1, none⟩ = some (.int .i64 (K : Int)) := cell_of_row _ _ _ _ _ _ (heap_setCell_same _ blk 0 _ 112 _ (heap_setCell_same _ blk 1 _ 112 _ hb))
  have HC := Lib.hid (Ch.set1 w blk 1 (.int .i64 (K : Int)))
  clear hO hO2 hb hne
  unfold dp
  go_enter Tryz.func41, Tryz.ntmps41
  go_wp2
  clear c0 c1 f0 f1
  generalize w.setCell ⟨blk, 1, none⟩ (.int .i64 (K : Int)) = W at *
  go_region
  all_goals go_wp2
  all_goals go_ret
  exact ⟨_, rfl, HE.out.keep (Ch.drew (fun _ => False) _) id (fun _ _ => id), hown, (HC.out.tr (Ch.set1 _ blk 0 _)).tr (Ch.drew _ _)⟩
end Go.Proofs.YtogihpofkjpokaaGreatDoor.D4
