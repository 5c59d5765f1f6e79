/- What the reading of an argument gives a walk. -/
import Derived.Test.YtlgamaldngkdnaaPairs
import Derived.ProofKit
import Derived.Deep.SlicePairs
namespace Go.Proofs.Ytlgamaldngkdnaa
open Go.ChangeShapes Go.WideShapes Go.ChangeAt Go.RowKit Go.Deep

theorem Try.own : ownKnob Try.prog.godebug = none := by kernel_rfl
theorem Try.laidOut : laidOutB Try.prog = true := by kernel_rfl
theorem Try.cells30 : Try.prog.cellsOf 30 = 2 := by kernel_rfl
theorem Try.cells9 : Try.prog.cellsOf 9 = 1 := by kernel_rfl
theorem Try.cells3 : Try.prog.cellsOf 3 = 1 := by kernel_rfl

/-- The pairs of a slice that came in. -/
theorem arg_rd {H : Type} {enc : TypeId × Value → H} {W : World} {a0 : Option Addr} {len cap : Nat} {d : DataW H} {ps : List MemPlace}
    (h : DataW.Trod enc Try.prog W 0 (fun _ => true) true 22 (.slice a0 len cap) d ps) : ∃ xs : List Pr, len = xs.length ∧ Rd W a0 xs ∧ (∀ x ∈ xs, (Lit.int .i64 x.2).wf = true ∧ x.1.size ≤ maxLen) ∧ len ≤ maxLen := by
  obtain ⟨fuel, hf⟩ := h
  rcases open_slice_pairs Try.underlying22 Try.underlying30 Try.cells30 rfl rfl Try.cells9 Try.cells3 hf with ⟨hcs, _⟩ | ⟨a, len', cap', m, n, V0, V1, D0, D1, P0, P1, hcs, _, hl, hm, hmm, _, hc⟩
  · simp [Value.cells] at hcs
    obtain ⟨_, rfl, _⟩ := hcs
    exact ⟨[], rfl, fun i hi => absurd hi (by simp), fun x hx => by simp at hx, Nat.zero_le _⟩
  · simp [Value.cells] at hcs
    obtain ⟨rfl, rfl, rfl⟩ := hcs
    simp only [if_true] at hmm
    subst hmm
    have each : ∀ i, i < len → ∃ x : Pr, (W.cell? (a.add (i * 2)) = some (.string x.1) ∧ W.cell? (a.add (i * 2 + 1)) = some (.int .i64 x.2)) ∧ (Lit.int .i64 x.2).wf = true ∧ x.1.size ≤ maxLen := fun i hi => by
      obtain ⟨c0, c1, t0, t1⟩ := hc i (by omega)
      obtain ⟨s, hs, _, hsz⟩ := DataW.trod_string Try.underlying9 t0
      obtain ⟨z, hz, _, hwf⟩ := DataW.trod_int Try.underlying3 t1
      simp only [List.cons.injEq, and_true] at hs hz
      exact ⟨(s, z), ⟨by rw [c0, hs], by rw [c1, hz]⟩, hwf, hsz⟩
    haveI : Inhabited Pr := ⟨(ByteArray.empty, 0)⟩
    obtain ⟨q, hq⟩ := choose_lt each
    have hget : ∀ i, i < len → ((List.range len).map q).getD i (ByteArray.empty, 0) = q i := fun i hi => by
      rw [List.getD_eq_getElem?_getD, List.getElem?_map, List.getElem?_range hi]; rfl
    refine ⟨(List.range len).map q, by simp, fun i hi => ?_, fun x hx => ?_, by omega⟩
    · have hi' : i < len := by simpa using hi
      obtain ⟨b, off, spot⟩ := a
      have hspot : spot = none := by
        have h0 := World.cell?_spot (hq 0 (by omega)).1.1
        simpa [Addr.add] using h0
      subst hspot
      refine ⟨b, off, rfl, ?_, ?_⟩
      · unfold ky
        rw [hget i hi', ← add_plain]
        exact (hq i hi').1.1
      · unfold vl
        rw [hget i hi', Nat.add_assoc, ← add_plain]
        exact (hq i hi').1.2
    · obtain ⟨i, hi, rfl⟩ := List.mem_map.1 hx
      exact (hq i (List.mem_range.1 hi)).2
end Go.Proofs.Ytlgamaldngkdnaa
