/- A list of acts that came in. -/
import Derived.Test.YtceejjocimgbmaaRuns
import Derived.ProofKit
import Derived.SliceStrings
import Derived.Lib.SmallJoins
import Derived.Deep.Slices
import Derived.Deep.Fields
import Derived.ChangeSame
import Derived.ChangeSlices
namespace Go.Proofs.Ytceejjocimgbmaa
open Go.ChangeShapes Go.WideShapes Go.ChangeAt Go.RowKit Go.Deep Go.Joins

theorem Try.ownR : ownKnob Try.prog.godebug = none := by kernel_rfl
theorem Try.laidOutR : laidOutB Try.prog = true := by kernel_rfl
theorem Try.cells37 : Try.prog.cellsOf 37 = 5 := by kernel_rfl
theorem Try.cells3 : Try.prog.cellsOf 3 = 1 := by kernel_rfl
section
variable {H : Type} {enc : TypeId × Value → H}
/-- The numbers of a slice within an act. -/
theorem arg_keep {W : World} {fuel : Nat} {c : Value} {x : DataW H × List MemPlace} (h : DataW.trod enc Try.prog W 0 (fun _ => true) true fuel 35 [c] = some x) :
    ∃ (ka : Option Addr) (kc : Nat) (keep : List Int), c = .slice ka keep.length kc ∧ RdI W ka keep ∧ (∀ ad, ka = some ad → keep ≠ [] → ad.block < W.heap.size) := by
  rcases open_ints Try.underlying35 Try.underlying3 Try.cells3 h with ⟨hcs, _⟩ | ⟨a, len, cap, zs, hcs, _, hl, _, hz, _, hc, _⟩
  · injection hcs with hcs
    exact ⟨none, 0, [], hcs, fun i hi => absurd hi (by simp), fun ad e => by cases e⟩
  · injection hcs with hcs
    simp only [if_true] at hz
    have hlen : (zs.take len).length = len := by rw [List.length_take]; omega
    refine ⟨some a, cap, zs.take len, by rw [hlen]; exact hcs, fun i hi => ?_, fun ad e hne => ?_⟩
    · rw [hlen] at hi
      have h1 := hc i (by omega)
      obtain ⟨b, off, spot⟩ := a
      have hspot : spot = none := by
        have h0 := World.cell?_spot (hc 0 (by omega))
        simpa [Addr.add] using h0
      subst hspot
      refine ⟨b, off, rfl, ?_⟩
      rw [Addr.add_lit] at h1
      rw [h1, List.getD_eq_getElem?_getD, List.getD_eq_getElem?_getD, List.getElem?_take_of_lt hi]
    · have e : a = ad := Option.some.inj e
      subst e
      have h0 : 0 < len := by
        rcases Nat.eq_zero_or_pos len with h | h
        · subst h; simp at hne
        · exact h
      have h1 := World.block_lt_of_cell? _ _ (hc 0 (by omega))
      obtain ⟨b, off, spot⟩ := a
      simpa [Addr.add] using h1
theorem arg_act {W : World} {a : Addr} {i fuel : Nat} {cs : List Value} {x : DataW H × List MemPlace} (hc : W.cells? 0 (a.add (i * 5)) 5 = some cs) (h : DataW.trod enc Try.prog W 0 (fun _ => true) true fuel 37 cs = some x) :
    ∃ v : Xa, (W.cell? (a.add (i * 5)) = some (.int .i64 v.ac.what) ∧ W.cell? (a.add (i * 5 + 1)) = some (.int .i64 v.ac.n) ∧ W.cell? (a.add (i * 5 + 2)) = some (.string v.ac.name) ∧ W.cell? (a.add (i * 5 + 3)) = some (.string v.ac.to) ∧ W.cell? (a.add (i * 5 + 4)) = some (.slice v.ka v.ac.keep.length v.kc)) ∧
      RdI W v.ka v.ac.keep ∧ (∀ ad, v.ka = some ad → v.ac.keep ≠ [] → ad.block < W.heap.size) ∧ v.ok := by
  obtain ⟨_, hl, hat⟩ := World.cells?_some hc
  match cs, hl with
  | [c0, c1, c2, c3, c4], _ =>
    obtain ⟨ys, n, _, _, _, hyl, hf⟩ := DataW.trod_struct Try.underlying37 h
    match ys, hyl with
    | [y0, y1, y2, y3, y4], _ =>
      have t0 : DataW.trod enc Try.prog W 0 (fun _ => true) true n 3 (([c0, c1, c2, c3, c4].drop 0).take (Try.prog.cellsOf 3)) = some y0 := hf 0 _ rfl
      have t1 : DataW.trod enc Try.prog W 0 (fun _ => true) true n 3 (([c0, c1, c2, c3, c4].drop 1).take (Try.prog.cellsOf 3)) = some y1 := hf 1 _ rfl
      have t2 : DataW.trod enc Try.prog W 0 (fun _ => true) true n 9 (([c0, c1, c2, c3, c4].drop 2).take (Try.prog.cellsOf 9)) = some y2 := hf 2 _ rfl
      have t3 : DataW.trod enc Try.prog W 0 (fun _ => true) true n 9 (([c0, c1, c2, c3, c4].drop 3).take (Try.prog.cellsOf 9)) = some y3 := hf 3 _ rfl
      have t4 : DataW.trod enc Try.prog W 0 (fun _ => true) true n 35 (([c0, c1, c2, c3, c4].drop 4).take (Try.prog.cellsOf 35)) = some y4 := hf 4 _ rfl
      rw [Try.cells3] at t0 t1
      rw [show Try.prog.cellsOf 9 = 1 by kernel_rfl] at t2 t3
      rw [show Try.prog.cellsOf 35 = 1 by kernel_rfl] at t4
      obtain ⟨p, e0, _, w0⟩ := DataW.trod_int Try.underlying3 t0
      obtain ⟨q, e1, _, w1⟩ := DataW.trod_int Try.underlying3 t1
      obtain ⟨s, e2, _, z2⟩ := DataW.trod_string Try.underlying9 t2
      obtain ⟨u, e3, _, z3⟩ := DataW.trod_string Try.underlying9 t3
      obtain ⟨ka, kc, keep, g4, hI, hb⟩ := arg_keep (show DataW.trod enc Try.prog W 0 (fun _ => true) true n 35 [c4] = some y4 from t4)
      have g0 : c0 = .int .i64 p := (List.cons.inj (show [c0] = [Value.int .i64 p] from e0)).1
      have g1 : c1 = .int .i64 q := (List.cons.inj (show [c1] = [Value.int .i64 q] from e1)).1
      have g2 : c2 = .string s := (List.cons.inj (show [c2] = [Value.string s] from e2)).1
      have g3 : c3 = .string u := (List.cons.inj (show [c3] = [Value.string u] from e3)).1
      subst g0 g1 g2 g3 g4
      refine ⟨⟨⟨p, q, s, u, keep⟩, ka, kc⟩, ⟨?_, ?_, ?_, ?_, ?_⟩, hI, hb, bounds_i64 w1, bounds_i64 w0, z2, z3⟩
      · have := hat 0 (by decide); rwa [Go.Deep.add_add] at this
      · have := hat 1 (by decide); rwa [Go.Deep.add_add] at this
      · have := hat 2 (by decide); rwa [Go.Deep.add_add] at this
      · have := hat 3 (by decide); rwa [Go.Deep.add_add] at this
      · have := hat 4 (by decide); rwa [Go.Deep.add_add] at this
/-- The acts of a list that came in. -/
theorem arg_acts {W : World} {a0 : Option Addr} {len cap : Nat} {d : DataW H} {ps : List MemPlace}
    (h : DataW.Trod enc Try.prog W 0 (fun _ => true) true 22 (.slice a0 len cap) d ps) : ∃ xs : List Xa, len = xs.length ∧ RdA W a0 xs ∧ len ≤ maxLen := by
  obtain ⟨fuel, hf⟩ := h
  rcases open_slice Try.underlying22 hf with ⟨hcs, _⟩ | ⟨a, len', cap', m, n, D, Pl, hcs, _, hl, hm, hmm, _, hi⟩
  · simp [Value.cells] at hcs
    obtain ⟨_, rfl, rfl⟩ := hcs
    exact ⟨[], rfl, fun i hi => absurd hi (by simp), Nat.zero_le _⟩
  · simp [Value.cells] at hcs
    obtain ⟨rfl, rfl, rfl⟩ := hcs
    simp only [if_true] at hmm
    subst hmm
    have each := fun i (h : i < len) => (show ∃ v : Xa, _ from by
      obtain ⟨cs', hc, ht⟩ := hi i (by omega)
      rw [Try.cells37] at hc
      exact arg_act hc ht)
    haveI : Inhabited Xa := ⟨Xa.zero⟩
    obtain ⟨q, hq⟩ := choose_lt each
    have hget : ∀ i, i < len → xat ((List.range len).map q) i = q i := fun i hi => by
      unfold xat
      rw [List.getD_eq_getElem?_getD, List.getElem?_map, List.getElem?_range hi]; rfl
    refine ⟨(List.range len).map q, by simp, fun i hi => ?_, by omega⟩
    have hi' : i < len := by simpa using hi
    obtain ⟨b, off, spot⟩ := a
    have hspot : spot = none := by
      have h0 := World.cell?_spot (hq 0 (by omega)).1.1
      simpa [Addr.add] using h0
    subst hspot
    rw [hget i hi']
    have h3 := hq i hi'
    rw [add_plain, add_plain, add_plain, add_plain, add_plain] at h3
    exact ⟨⟨b, off, rfl, h3.1.1, by rw [Nat.add_assoc]; exact h3.1.2.1, by rw [Nat.add_assoc]; exact h3.1.2.2.1, by rw [Nat.add_assoc]; exact h3.1.2.2.2.1, by rw [Nat.add_assoc]; exact h3.1.2.2.2.2⟩, h3.2⟩
end
end Go.Proofs.Ytceejjocimgbmaa
