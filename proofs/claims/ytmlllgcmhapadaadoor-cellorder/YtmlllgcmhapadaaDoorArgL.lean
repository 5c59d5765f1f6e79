/- A list of values that came in. -/
import Derived.Test.YtmlllgcmhapadaaDoorArgs
namespace Go.Proofs.YtmlllgcmhapadaaDoor
open Go.ChangeShapes Go.WideShapes Go.ChangeAt Go.RowKit Go.Deep Go.Joins

section
variable {H : Type} {enc : TypeId × Value → H}
theorem arg_one {W : World} {a : Addr} {i fuel : Nat} {cs : List Value} {x : DataW H × List MemPlace} (hc : W.cells? 0 (a.add (i * 3)) 3 = some cs) (h : DataW.trod enc Tryd.prog W 0 (fun _ => true) true fuel 23 cs = some x) :
    ∃ v : V, (W.cell? (a.add (i * 3)) = some (.int .i64 v.k) ∧ W.cell? (a.add (i * 3 + 1)) = some (.int .i64 v.n) ∧ W.cell? (a.add (i * 3 + 2)) = some (.string v.s)) ∧ v.ok := by
  obtain ⟨_, hl, hat⟩ := World.cells?_some hc
  match cs, hl with
  | [c0, c1, c2], _ =>
    obtain ⟨ys, n, _, _, _, hyl, hf⟩ := DataW.trod_struct Tryd.underlying23 h
    match ys, hyl with
    | [y0, y1, y2], _ =>
      have t0 : DataW.trod enc Tryd.prog W 0 (fun _ => true) true n 3 (([c0, c1, c2].drop 0).take (Tryd.prog.cellsOf 3)) = some y0 := hf 0 _ rfl
      have t1 : DataW.trod enc Tryd.prog W 0 (fun _ => true) true n 2 (([c0, c1, c2].drop 1).take (Tryd.prog.cellsOf 2)) = some y1 := hf 1 _ rfl
      have t2 : DataW.trod enc Tryd.prog W 0 (fun _ => true) true n 9 (([c0, c1, c2].drop 2).take (Tryd.prog.cellsOf 9)) = some y2 := hf 2 _ rfl
      rw [show Tryd.prog.cellsOf 3 = 1 by kernel_rfl] at t0
      rw [show Tryd.prog.cellsOf 2 = 1 by kernel_rfl] at t1
      rw [show Tryd.prog.cellsOf 9 = 1 by kernel_rfl] at t2
      obtain ⟨p, e0, _, w0⟩ := DataW.trod_int Tryd.underlying3 t0
      obtain ⟨q, e1, _, w1⟩ := DataW.trod_int Tryd.underlying2 t1
      obtain ⟨s, e2, _, _⟩ := DataW.trod_string Tryd.underlying9 t2
      have g0 : c0 = .int .i64 p := (List.cons.inj (show [c0] = [Value.int .i64 p] from e0)).1
      have g1 : c1 = .int .i64 q := (List.cons.inj (show [c1] = [Value.int .i64 q] from e1)).1
      have g2 : c2 = .string s := (List.cons.inj (show [c2] = [Value.string s] from e2)).1
      subst g0 g1 g2
      refine ⟨⟨p, q, s⟩, ⟨?_, ?_, ?_⟩, (bounds_i64 w0).1, (bounds_i64 w0).2, (bounds_i64 w1).1, (bounds_i64 w1).2⟩
      · have := hat 0 (by decide); rwa [Go.Deep.add_add] at this
      · have := hat 1 (by decide); rwa [Go.Deep.add_add] at this
      · have := hat 2 (by decide); rwa [Go.Deep.add_add] at this
/-- The values of a list that came in. -/
theorem arg_rd {W : World} {a0 : Option Addr} {len cap : Nat} {d : DataW H} {ps : List MemPlace}
    (h : DataW.Trod enc Tryd.prog W 0 (fun _ => true) true 27 (.slice a0 len cap) d ps) : ∃ xs : List V, len = xs.length ∧ Rd W a0 xs ∧ (∀ x ∈ xs, x.ok) ∧ len ≤ maxLen ∧ (a0 = none → cap = 0) := by
  obtain ⟨fuel, hf⟩ := h
  rcases open_slice Tryd.underlying27 hf with ⟨hcs, _⟩ | ⟨a, len', cap', m, n, D, Pl, hcs, _, hl, hm, hmm, _, hi⟩
  · simp [Value.cells] at hcs
    obtain ⟨_, rfl, rfl⟩ := hcs
    exact ⟨[], rfl, fun i hi => absurd hi (by simp), fun x hx => by simp at hx, Nat.zero_le _, fun _ => rfl⟩
  · simp [Value.cells] at hcs
    obtain ⟨rfl, rfl, rfl⟩ := hcs
    simp only [if_true] at hmm
    subst hmm
    have each : ∀ i, i < len → ∃ v : V, (W.cell? (a.add (i * 3)) = some (.int .i64 v.k) ∧ W.cell? (a.add (i * 3 + 1)) = some (.int .i64 v.n) ∧ W.cell? (a.add (i * 3 + 2)) = some (.string v.s)) ∧ v.ok := fun i h => by
      obtain ⟨cs', hc, ht⟩ := hi i (by omega)
      rw [Tryd.cells23] at hc
      exact arg_one hc ht
    haveI : Inhabited V := ⟨V.zero⟩
    obtain ⟨q, hq⟩ := choose_lt each
    have hget : ∀ i, i < len → at_ ((List.range len).map q) i = q i := fun i hi => by
      unfold at_
      rw [List.getD_eq_getElem?_getD, List.getElem?_map, List.getElem?_range hi]; rfl
    refine ⟨(List.range len).map q, by simp, fun i hi => ?_, fun x hx => ?_, by omega, fun h => by cases h⟩
    · have hi' : i < len := by simpa using hi
      obtain ⟨b, off, spot⟩ := a
      have hspot : spot = none := by
        have h0 := World.cell?_spot (hq 0 (by omega)).1.1
        simpa [Addr.add] using h0
      subst hspot
      refine ⟨b, off, rfl, ?_⟩
      rw [hget i hi']
      have h3 := hq i hi'
      rw [add_plain, add_plain, add_plain] at h3
      exact ⟨h3.1.1, by rw [Nat.add_assoc]; exact h3.1.2.1, by rw [Nat.add_assoc]; exact h3.1.2.2⟩
    · obtain ⟨i, hi, rfl⟩ := List.mem_map.1 hx
      exact (hq i (List.mem_range.1 hi)).2
end
end Go.Proofs.YtmlllgcmhapadaaDoor
