/- What the listed variable gives a walk: the table of the rounds' numbers; what an argument's reading gives. -/
import Derived.Test.YtfjlkphpeneahaaDoorM3
import Derived.Test.YtfjlkphpeneahaaDoorCards
import Derived.Test.YtfjlkphpeneahaaDoorTie
import Derived.ProofKit
import Derived.LaidMore
import Derived.OpenShut
import Derived.ShutString
import Derived.Stop.Joined
import Derived.Lib.LaidTab
import Derived.SliceStrings
import Derived.Deep.SlicePairs
namespace Go.Proofs.YtfjlkphpeneahaaDoor
open Go.ChangeShapes Go.WideShapes Go.ChangeAt Go.RowKit

theorem own : ownKnob Tryd.prog.godebug = none := by kernel_rfl
theorem Tryd.laidOut : laidOutB Tryd.prog = true := by kernel_rfl
theorem gK : Tryd.prog.globalNamed "pleach/sums.roundConst" = some 0 := by kernel_rfl
theorem tK : (Tryd.prog.globals[0]?).map (·.type) = some 162 := by kernel_rfl
/-- The door's own heap meets the condition. -/
theorem door_met (os : Os) (args : Array Value) : laidMetH Tryd.prog Rows.prollyBuildsRow.laid ((World.doorLaid Tryd.prog 400 os).forCall (fun _ _ => 0) ⟨#[], args, []⟩).memory :=
  laidMetH_of_parts3 (fuel := 8) (laidMet_of_run' 8 (by kernel_rfl) (by kernel_rfl)) (by kernel_rfl) (by kernel_rfl)
theorem kl_data {H : Type} : (Rows.laid_pleach_sums_roundConst : DataW H) = Lib.tabData .u32 (S1.kl.map S1.u) := rfl
/-- What the condition gives a walk. -/
theorem of_laid {W : World} (h : laidMetH Tryd.prog Rows.prollyBuildsRow.laid W) : S1.KR W := by
  rw [MakeChecks.laidMetH_plain _ _ _ (by kernel_rfl)] at h
  obtain ⟨ps, ⟨g0, t0, cs0, f0, p0, q0, hg0, ht0, hv0, hd0, _⟩, _, _⟩ := h
  obtain rfl := Option.some.inj (gK.symm.trans hg0)
  obtain rfl := Option.some.inj (tK.symm.trans ht0)
  have hc := Lib.cells_of_tab (zs := S1.kl.map S1.u) Tryd.underlying162 Tryd.underlying110 (by kernel_rfl) (by kernel_rfl) (by rw [← kl_data]; exact hd0)
  intro j hj
  have hl : S1.kl.length = 64 := rfl
  rw [World.var?_cell hg0 hv0 j, ← Array.getElem?_toList, hc]
  unfold S1.kc
  simp [List.getElem?_eq_getElem (show j < S1.kl.length by omega)]
theorem Tryd.cells9 : Tryd.prog.cellsOf 9 = 1 := by kernel_rfl
theorem weightsAll_mem {H : Type} {P : Program} {e : TypeId} : ∀ {l : List (DataW H)} {d : DataW H}, d ∈ l → ∀ n ∈ d.weights P e, n ∈ DataW.weightsAll P e l
  | d0 :: l, d, hd, n, hn => by
    simp only [DataW.weightsAll, List.mem_append]
    rcases List.mem_cons.1 hd with rfl | hd
    · exact .inl hn
    · exact .inr (weightsAll_mem hd n hn)
theorem Tryd.cells43 : Tryd.prog.cellsOf 43 = 2 := by kernel_rfl
/-- The pairs of a slice that came in. -/
theorem arg_items {H : Type} {enc : TypeId × Value → H} {W : World} {a0 : Option Addr} {len cap : Nat} {d : DataW H} {ps : List MemPlace}
    (h : DataW.Trod enc Tryd.prog W 0 (fun _ => true) true 22 (.slice a0 len cap) d ps) (hw : ∀ n ∈ d.weights Tryd.prog 22, n ≤ reachBytes) :
    ∃ xs : List It, len = xs.length ∧ RdP W a0 xs ∧ (∀ x ∈ xs, x.1.length ≤ 140737488355328 ∧ x.2.length ≤ 140737488355328) ∧ len ≤ maxLen ∧ len ≤ cap := by
  obtain ⟨fuel, hf⟩ := h
  rcases Go.Deep.open_slice_pairs Tryd.underlying22 Tryd.underlying43 Tryd.cells43 rfl rfl Tryd.cells9 Tryd.cells9 hf with ⟨hcs, _⟩ | ⟨a, len', cap', m, n, V0, V1, D0, D1, P0, P1, hcs, _, hl, hm, hmm, hd, hc⟩
  · simp [Value.cells] at hcs
    obtain ⟨rfl, rfl, rfl⟩ := hcs
    exact ⟨[], rfl, RdP.nil _ _, fun x hx => by simp at hx, Nat.zero_le _, Nat.le_refl _⟩
  · simp [Value.cells] at hcs
    obtain ⟨rfl, rfl, rfl⟩ := hcs
    simp only [if_true] at hmm
    subst hmm
    have hd' : d = .slice ((List.range len).map fun i => .agg [D0 i, D1 i]) ((List.range (m - len)).map fun j => .agg [D0 (len + j), D1 (len + j)]) := congrArg Prod.fst hd
    have each : ∀ i, i < len → ∃ x : ByteArray × ByteArray, (W.cell? (a.add (i * 2)) = some (.string x.1) ∧ W.cell? (a.add (i * 2 + 1)) = some (.string x.2)) ∧ x.1.size ≤ 140737488355328 ∧ x.2.size ≤ 140737488355328 := fun i hi => by
      obtain ⟨c0, c1, t0, t1⟩ := hc i (by omega)
      obtain ⟨s, hs, h0, _⟩ := DataW.trod_string Tryd.underlying9 t0
      obtain ⟨u, hu, h1, _⟩ := DataW.trod_string Tryd.underlying9 t1
      simp only [List.cons.injEq, and_true] at hs hu
      have hmem : (DataW.agg [D0 i, D1 i] : DataW H) ∈ (List.range len).map fun i => DataW.agg [D0 i, D1 i] := List.mem_map.2 ⟨i, List.mem_range.2 hi, rfl⟩
      have hD0 : D0 i = .lit (.string s.data.toList) := congrArg Prod.fst h0
      have hD1 : D1 i = .lit (.string u.data.toList) := congrArg Prod.fst h1
      have hwt : ∀ n, n ∈ (DataW.agg [D0 i, D1 i] : DataW H).weights Tryd.prog 43 → n ≤ reachBytes := fun n hn => hw n (by
        rw [hd']
        simp only [DataW.weights, Tryd.underlying22, List.mem_cons, List.mem_append]
        exact .inr (.inl (weightsAll_mem hmem n hn)))
      have w0 := hwt s.data.toList.length (by simp [DataW.weights, Tryd.underlying43, DataW.weightsEach, hD0])
      have w1 := hwt u.data.toList.length (by simp [DataW.weights, Tryd.underlying43, DataW.weightsEach, hD1])
      have h3 := reachBytes_lt
      have z0 : s.size = s.data.toList.length := rfl
      have z1 : u.size = u.data.toList.length := rfl
      exact ⟨(s, u), ⟨by rw [c0, hs], by rw [c1, hu]⟩, by dsimp only; omega, by dsimp only; omega⟩
    haveI : Inhabited (ByteArray × ByteArray) := ⟨(ByteArray.empty, ByteArray.empty)⟩
    obtain ⟨q, hq⟩ := Go.Deep.choose_lt each
    have hget : ∀ i, i < len → itD ((List.range len).map fun i => ((q i).1.data.toList, (q i).2.data.toList)) i = ((q i).1.data.toList, (q i).2.data.toList) := fun i hi => by
      unfold itD
      rw [List.getD_eq_getElem?_getD, List.getElem?_map, List.getElem?_range hi]; rfl
    refine ⟨(List.range len).map fun i => ((q i).1.data.toList, (q i).2.data.toList), by simp, fun i hi => ?_, fun x hx => ?_, by omega, hl⟩
    · have hi' : i < len := by simpa using hi
      obtain ⟨b, off, spot⟩ := a
      have hspot : spot = none := by
        have h0 := World.cell?_spot (hq 0 (by omega)).1.1
        simpa [Addr.add] using h0
      subst hspot
      refine ⟨b, off, rfl, ?_, ?_⟩
      · rw [hget i hi', txt_data, ← Addr.add_lit]
        exact (hq i hi').1.1
      · rw [hget i hi', txt_data, Nat.add_assoc, ← Addr.add_lit]
        exact (hq i hi').1.2
    · obtain ⟨i, hi, rfl⟩ := List.mem_map.1 hx
      exact (hq i (List.mem_range.1 hi)).2
end Go.Proofs.YtfjlkphpeneahaaDoor
