/- What the listed variable gives a walk: the table of the rounds' numbers; what an argument's reading gives. -/
import Derived.Test.YtogihpofkjpokaaGreatDoorCP
import Derived.Test.YtogihpofkjpokaaGreatDoorCards
import Derived.Test.YtogihpofkjpokaaGreatDoorTie
import Derived.ProofKit
import Derived.LaidMore
import Derived.OpenShut
import Derived.ShutString
import Derived.Stop.Joined
import Derived.Lib.LaidTab
import Derived.SliceStrings
namespace Go.Proofs.YtogihpofkjpokaaGreatDoor
open Go.ChangeShapes Go.WideShapes Go.ChangeAt Go.WideMaps Go.WideElems Go.RowKit Go.Deep
open F5 (txt RdT)

theorem own : ownKnob Tryz.prog.godebug = none := by kernel_rfl
theorem Tryz.laidOut : laidOutB Tryz.prog = true := by kernel_rfl
theorem gK : Tryz.prog.globalNamed "pleach/sums.roundConst" = some 0 := by kernel_rfl
theorem tK : (Tryz.prog.globals[0]?).map (·.type) = some 138 := by kernel_rfl
/-- The door's own heap meets the condition. -/
theorem door_met (os : Os) (args : Array Value) : laidMetH Tryz.prog Rows.chunksFullRow.laid ((World.doorLaid Tryz.prog 400 os).forCall (fun _ _ => 0) ⟨#[], args, []⟩).memory :=
  laidMetH_of_parts3 (fuel := 8) (laidMet_of_run' 8 (by kernel_rfl) (by kernel_rfl)) (by kernel_rfl) (by kernel_rfl)
theorem kl_data {H : Type} : (Rows.laid_pleach_sums_roundConst : DataW H) = Lib.tabData .u32 (S1.kl.map S1.u) := rfl
/-- What the condition gives a walk. -/
theorem of_laid {W : World} (h : laidMetH Tryz.prog Rows.chunksFullRow.laid W) : S1.KR W := by
  rw [MakeChecks.laidMetH_plain _ _ _ (by kernel_rfl)] at h
  obtain ⟨ps, ⟨g0, t0, cs0, f0, p0, q0, hg0, ht0, hv0, hd0, _⟩, _, _⟩ := h
  obtain rfl := Option.some.inj (gK.symm.trans hg0)
  obtain rfl := Option.some.inj (tK.symm.trans ht0)
  have hc := Lib.cells_of_tab (zs := S1.kl.map S1.u) Tryz.underlying138 Tryz.underlying101 (by kernel_rfl) (by kernel_rfl) (by rw [← kl_data]; exact hd0)
  intro j hj
  have hl : S1.kl.length = 64 := rfl
  rw [World.var?_cell hg0 hv0 j, ← Array.getElem?_toList, hc]
  unfold S1.kc
  simp [List.getElem?_eq_getElem (show j < S1.kl.length by omega)]
theorem Tryz.cells9 : Tryz.prog.cellsOf 9 = 1 := by kernel_rfl
/-- A slice of texts that came in. -/
theorem arg_strs {H : Type} {enc : TypeId × Value → H} {W : World} {a0 : Option Addr} {len cap : Nat} {d : DataW H} {ps : List MemPlace}
    (h : DataW.Trod enc Tryz.prog W 0 (fun _ => true) true 25 (.slice a0 len cap) d ps) :
    ∃ xs : List (List UInt8), len = xs.length ∧ RdT W a0 xs ∧ (∀ x ∈ xs, x.length ≤ 9223372036854775807) ∧ len ≤ maxLen ∧ len ≤ cap := by
  obtain ⟨fuel, hf⟩ := h
  rcases open_strings Tryz.underlying25 Tryz.underlying9 Tryz.cells9 hf with ⟨hcs, _⟩ | ⟨a, len', cap', ss, hcs, _, hl, hm, hss, hd, hc, hsm⟩
  · simp [Value.cells] at hcs
    obtain ⟨rfl, rfl, rfl⟩ := hcs
    exact ⟨[], rfl, fun i hi => absurd hi (by simp), fun x hx => by simp at hx, Nat.zero_le _, Nat.le_refl _⟩
  · simp [Value.cells] at hcs
    obtain ⟨rfl, rfl, rfl⟩ := hcs
    simp only [if_true] at hss
    refine ⟨(ss.take len).map (·.data.toList), by rw [List.length_map, List.length_take]; omega, fun i hi => ?_, fun x hx => ?_, by omega, hl⟩
    · have hi' : i < len := by rw [List.length_map, List.length_take] at hi; omega
      have hc' := hc i (by omega)
      obtain ⟨b, off, spot⟩ := a
      have hspot : spot = none := by
        have h0 := World.cell?_spot (hc 0 (by omega))
        simpa [Addr.add] using h0
      subst hspot
      refine ⟨b, off, rfl, ?_⟩
      rw [Addr.add_lit] at hc'
      rw [hc']
      have e : ((ss.take len).map (·.data.toList)).getD i [] = (ss.getD i ByteArray.empty).data.toList := by
        rw [List.getD_eq_getElem?_getD, List.getElem?_map, List.getElem?_take_of_lt hi', List.getElem?_eq_getElem (by omega : i < ss.length), List.getD_eq_getElem?_getD, List.getElem?_eq_getElem (by omega : i < ss.length)]
        rfl
      rw [e, F5.txt_data]
    · obtain ⟨y, hy, rfl⟩ := List.mem_map.1 hx
      have := hsm y (List.mem_of_mem_take hy)
      unfold maxLen at this
      show y.data.toList.length ≤ _
      rw [show y.data.toList.length = y.size by simp]
      omega
end Go.Proofs.YtogihpofkjpokaaGreatDoor
