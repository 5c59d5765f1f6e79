/- What the listed variable gives a walk: the table of the rounds' numbers; what an argument's reading gives. -/
import Derived.Test.YtpmoindojnlhgaaDoorCuts
import Derived.Test.YtpmoindojnlhgaaDoorCards
import Derived.Test.YtpmoindojnlhgaaDoorTie
import Derived.ProofKit
import Derived.LaidMore
import Derived.OpenShut
import Derived.ShutString
import Derived.Stop.Joined
import Derived.Lib.LaidTab
import Derived.SliceStrings
namespace Go.Proofs.YtpmoindojnlhgaaDoor
open Go.ChangeShapes Go.WideShapes Go.ChangeAt Go.RowKit

theorem own : ownKnob Tryd.prog.godebug = none := by kernel_rfl
theorem Tryd.laidOut : laidOutB Tryd.prog = true := by kernel_rfl
theorem gK : Tryd.prog.globalNamed "pleach/sums.roundConst" = some 0 := by kernel_rfl
theorem tK : (Tryd.prog.globals[0]?).map (·.type) = some 48 := by kernel_rfl
/-- The door's own heap meets the condition. -/
theorem door_met (os : Os) (args : Array Value) : laidMetH Tryd.prog Rows.splitCutsRow.laid ((World.doorLaid Tryd.prog 400 os).forCall (fun _ _ => 0) ⟨#[], args, []⟩).memory :=
  laidMetH_of_parts3 (fuel := 8) (laidMet_of_run' 8 (by kernel_rfl) (by kernel_rfl)) (by kernel_rfl) (by kernel_rfl)
theorem kl_data {H : Type} : (Rows.laid_pleach_sums_roundConst : DataW H) = Lib.tabData .u32 (S1.kl.map S1.u) := rfl
/-- What the condition gives a walk. -/
theorem of_laid {W : World} (h : laidMetH Tryd.prog Rows.splitCutsRow.laid W) : S1.KR W := by
  rw [MakeChecks.laidMetH_plain _ _ _ (by kernel_rfl)] at h
  obtain ⟨ps, ⟨g0, t0, cs0, f0, p0, q0, hg0, ht0, hv0, hd0, _⟩, _, _⟩ := h
  obtain rfl := Option.some.inj (gK.symm.trans hg0)
  obtain rfl := Option.some.inj (tK.symm.trans ht0)
  have hc := Lib.cells_of_tab (zs := S1.kl.map S1.u) Tryd.underlying48 Tryd.underlying32 (by kernel_rfl) (by kernel_rfl) (by rw [← kl_data]; exact hd0)
  intro j hj
  have hl : S1.kl.length = 64 := rfl
  rw [World.var?_cell hg0 hv0 j, ← Array.getElem?_toList, hc]
  unfold S1.kc
  simp [List.getElem?_eq_getElem (show j < S1.kl.length by omega)]
theorem Tryd.cells9 : Tryd.prog.cellsOf 9 = 1 := by kernel_rfl
theorem weightsAll_mem {H : Type} {P : Program} {e : TypeId} : ∀ {l : List (DataW H)} {d : DataW H}, d ∈ l → ∀ n ∈ d.weights P e, n ∈ DataW.weightsAll P e l
  | d0 :: l, d, hd, n, hn => by
    simp only [DataW.weightsAll, List.mem_append]
    rcases List.mem_cons.1 hd with rfl | hd
    · exact .inl hn
    · exact .inr (weightsAll_mem hd n hn)
/-- The texts of a slice that came in. -/
theorem arg_strs {H : Type} {enc : TypeId × Value → H} {W : World} {a0 : Option Addr} {len cap : Nat} {d : DataW H} {ps : List MemPlace}
    (h : DataW.Trod enc Tryd.prog W 0 (fun _ => true) true 22 (.slice a0 len cap) d ps) (hw : ∀ n ∈ d.weights Tryd.prog 22, n ≤ reachBytes) :
    ∃ xs : List (List UInt8), len = xs.length ∧ RdT W a0 xs ∧ (∀ x ∈ xs, x.length ≤ 140737488355328) ∧ len ≤ maxLen ∧ len ≤ cap ∧ (a0 = none → cap = 0) := by
  obtain ⟨fuel, hf⟩ := h
  rcases open_strings Tryd.underlying22 Tryd.underlying9 Tryd.cells9 hf with ⟨hcs, _⟩ | ⟨a, len', cap', ss, hcs, _, hl, hm, hss, hd, hc, _⟩
  · simp [Value.cells] at hcs
    obtain ⟨rfl, rfl, rfl⟩ := hcs
    exact ⟨[], rfl, fun i hi => absurd hi (by simp), fun x hx => by simp at hx, Nat.zero_le _, Nat.le_refl _, fun _ => rfl⟩
  · simp [Value.cells] at hcs
    obtain ⟨rfl, rfl, rfl⟩ := hcs
    simp only [if_true] at hss
    have hd' : d = .slice (strs (ss.take len)) (strs (ss.drop len)) := congrArg Prod.fst hd
    refine ⟨(ss.take len).map (·.data.toList), by rw [List.length_map, List.length_take]; omega, fun i hi => ?_, fun x hx => ?_, by omega, hl, fun h => by cases h⟩
    · have hi' : i < len := by rw [List.length_map, List.length_take] at hi; omega
      have hc' := hc i (by omega)
      obtain ⟨b, off, spot⟩ := a
      have hspot : spot = none := by
        have h0 := World.cell?_spot (hc 0 (by omega))
        simpa [Addr.add] using h0
      subst hspot
      refine ⟨b, off, rfl, ?_⟩
      rw [Addr.add_lit] at hc'
      rw [hc']
      have e : ((ss.take len).map (·.data.toList)).getD i [] = (ss.getD i ByteArray.empty).data.toList := by
        rw [List.getD_eq_getElem?_getD, List.getElem?_map, List.getElem?_take_of_lt hi', List.getElem?_eq_getElem (by omega : i < ss.length), List.getD_eq_getElem?_getD, List.getElem?_eq_getElem (by omega : i < ss.length)]
        rfl
      rw [e, txt_data]
    · obtain ⟨y, hy, rfl⟩ := List.mem_map.1 hx
      have h1 : (DataW.lit (.string y.data.toList) : DataW H) ∈ strs (ss.take len) := List.mem_map.2 ⟨y, hy, rfl⟩
      have h2 := hw y.data.toList.length (by
        rw [hd']
        simp only [DataW.weights, Tryd.underlying22, List.mem_cons, List.mem_append]
        exact .inr (.inl (weightsAll_mem h1 _ (by simp [DataW.weights]))))
      have h3 := reachBytes_lt
      omega

end Go.Proofs.YtpmoindojnlhgaaDoor
