/- A list of acts that came in; the law's outer function. -/
import Derived.Test.YtogihpofkjpokaaGreatDoorRAll
import Derived.Test.YtogihpofkjpokaaGreatDoorCLaid
import Derived.Lib.SmallJoins
import Derived.Deep.Slices
import Derived.Deep.Fields
import Derived.ChangeSame
import Derived.ChangeSlices
namespace Go.Proofs.YtogihpofkjpokaaGreatDoor
open Go.ChangeShapes Go.WideShapes Go.ChangeAt Go.RowKit Go.Deep Go.Joins
open D4 (RdI)
open F5 (txt RdT)

theorem Tryz.cells3 : Tryz.prog.cellsOf 3 = 1 := by kernel_rfl
theorem Tryz.cells51 : Tryz.prog.cellsOf 51 = 5 := by kernel_rfl
def xat (xs : List Xa) (i : Nat) : Xa := xs.getD i Xa.zero
section
variable {H : Type} {enc : TypeId × Value → H}
/-- The numbers of a slice within an act. -/
theorem arg_keep {W : World} {fuel : Nat} {c : Value} {x : DataW H × List MemPlace} (h : DataW.trod enc Tryz.prog W 0 (fun _ => true) true fuel 26 [c] = some x) :
    ∃ (ka : Option Addr) (kc : Nat) (keep : List Int), c = .slice ka keep.length kc ∧ RdI W ka keep ∧ (∀ ad, ka = some ad → keep ≠ [] → ad.block < W.heap.size) ∧ keep.length ≤ 9223372036854775807 := by
  rcases open_ints Tryz.underlying26 Tryz.underlying3 Tryz.cells3 h with ⟨hcs, _⟩ | ⟨a, len, cap, zs, hcs, _, hl, hmx, hz, _, hc, _⟩
  · injection hcs with hcs
    exact ⟨none, 0, [], hcs, fun i hi => absurd hi (by simp), fun ad e => (by cases e), by simp⟩
  · injection hcs with hcs
    simp only [if_true] at hz
    have hlen : (zs.take len).length = len := by rw [List.length_take]; omega
    refine ⟨some a, cap, zs.take len, by rw [hlen]; exact hcs, fun i hi => ?_, fun ad e hne => ?_, by rw [hlen]; unfold maxLen at hmx; omega⟩
    · rw [hlen] at hi
      have h1 := hc i (by omega)
      obtain ⟨b, off, spot⟩ := a
      have hspot : spot = none := by
        have h0 := World.cell?_spot (hc 0 (by omega))
        simpa [Addr.add] using h0
      subst hspot
      refine ⟨b, off, rfl, ?_⟩
      rw [Addr.add_lit] at h1
      rw [h1, List.getD_eq_getElem?_getD, List.getD_eq_getElem?_getD, List.getElem?_take_of_lt hi]
    · have e : a = ad := Option.some.inj e
      subst e
      have h0 : 0 < len := by
        rcases Nat.eq_zero_or_pos len with h | h
        · subst h; simp at hne
        · exact h
      have h1 := World.block_lt_of_cell? _ _ (hc 0 (by omega))
      obtain ⟨b, off, spot⟩ := a
      simpa [Addr.add] using h1
theorem arg_act {W : World} {a : Addr} {i fuel : Nat} {cs : List Value} {x : DataW H × List MemPlace} (hc : W.cells? 0 (a.add (i * 5)) 5 = some cs) (h : DataW.trod enc Tryz.prog W 0 (fun _ => true) true fuel 51 cs = some x) :
    ∃ v : Xa, (W.cell? (a.add (i * 5)) = some (.int .i64 v.ac.what) ∧ W.cell? (a.add (i * 5 + 1)) = some (.int .i64 v.ac.n) ∧ W.cell? (a.add (i * 5 + 2)) = some (.string (txt v.ac.text)) ∧ W.cell? (a.add (i * 5 + 3)) = some (.slice v.ka v.ac.picks.length v.kc) ∧ W.cell? (a.add (i * 5 + 4)) = some (.bool v.ac.raw)) ∧
      RdI W v.ka v.ac.picks ∧ (∀ ad, v.ka = some ad → v.ac.picks ≠ [] → ad.block < W.heap.size) ∧ v.ok := by
  obtain ⟨_, hl, hat⟩ := World.cells?_some hc
  match cs, hl with
  | [c0, c1, c2, c3, c4], _ =>
    obtain ⟨ys, n, _, _, _, hyl, hf⟩ := DataW.trod_struct Tryz.underlying51 h
    match ys, hyl with
    | [y0, y1, y2, y3, y4], _ =>
      have t0 : DataW.trod enc Tryz.prog W 0 (fun _ => true) true n 3 (([c0, c1, c2, c3, c4].drop 0).take (Tryz.prog.cellsOf 3)) = some y0 := hf 0 _ rfl
      have t1 : DataW.trod enc Tryz.prog W 0 (fun _ => true) true n 3 (([c0, c1, c2, c3, c4].drop 1).take (Tryz.prog.cellsOf 3)) = some y1 := hf 1 _ rfl
      have t2 : DataW.trod enc Tryz.prog W 0 (fun _ => true) true n 9 (([c0, c1, c2, c3, c4].drop 2).take (Tryz.prog.cellsOf 9)) = some y2 := hf 2 _ rfl
      have t3 : DataW.trod enc Tryz.prog W 0 (fun _ => true) true n 26 (([c0, c1, c2, c3, c4].drop 3).take (Tryz.prog.cellsOf 26)) = some y3 := hf 3 _ rfl
      have t4 : DataW.trod enc Tryz.prog W 0 (fun _ => true) true n 4 (([c0, c1, c2, c3, c4].drop 4).take (Tryz.prog.cellsOf 4)) = some y4 := hf 4 _ rfl
      rw [Tryz.cells3] at t0 t1
      rw [show Tryz.prog.cellsOf 9 = 1 by kernel_rfl] at t2
      rw [show Tryz.prog.cellsOf 26 = 1 by kernel_rfl] at t3
      rw [show Tryz.prog.cellsOf 4 = 1 by kernel_rfl] at t4
      obtain ⟨p, e0, _, w0⟩ := DataW.trod_int Tryz.underlying3 t0
      obtain ⟨q, e1, _, w1⟩ := DataW.trod_int Tryz.underlying3 t1
      obtain ⟨s, e2, _, z2⟩ := DataW.trod_string Tryz.underlying9 t2
      obtain ⟨ka, kc, keep, g3, hI, hb, hkl⟩ := arg_keep (show DataW.trod enc Tryz.prog W 0 (fun _ => true) true n 26 [c3] = some y3 from t3)
      obtain ⟨raw, e4, _⟩ := DataW.trod_bool Tryz.underlying4 t4
      have g0 : c0 = .int .i64 p := (List.cons.inj (show [c0] = [Value.int .i64 p] from e0)).1
      have g1 : c1 = .int .i64 q := (List.cons.inj (show [c1] = [Value.int .i64 q] from e1)).1
      have g2 : c2 = .string s := (List.cons.inj (show [c2] = [Value.string s] from e2)).1
      have g4 : c4 = .bool raw := (List.cons.inj (show [c4] = [Value.bool raw] from e4)).1
      subst g0 g1 g2 g3 g4
      have hz : s.data.toList.length ≤ 9223372036854775807 := by
        unfold maxLen at z2
        rw [show s.data.toList.length = s.size by simp]
        omega
      refine ⟨⟨⟨p, q, s.data.toList, keep, raw⟩, ka, kc⟩, ⟨?_, ?_, ?_, ?_, ?_⟩, hI, hb, bounds_i64 w1, bounds_i64 w0, hz, hkl⟩
      · have := hat 0 (by decide); rwa [Go.Deep.add_add] at this
      · have := hat 1 (by decide); rwa [Go.Deep.add_add] at this
      · have := hat 2 (by decide); rw [Go.Deep.add_add] at this; rw [this]; show some (Value.string s) = _; rw [F5.txt_data]
      · have := hat 3 (by decide); rwa [Go.Deep.add_add] at this
      · have := hat 4 (by decide); rwa [Go.Deep.add_add] at this
/-- The acts of a list that came in. -/
theorem arg_acts {W : World} {a0 : Option Addr} {len cap : Nat} {d : DataW H} {ps : List MemPlace}
    (h : DataW.Trod enc Tryz.prog W 0 (fun _ => true) true 22 (.slice a0 len cap) d ps) : ∃ xs : List Xa, len = xs.length ∧ RdA W a0 xs ∧ len ≤ maxLen := by
  obtain ⟨fuel, hf⟩ := h
  rcases open_slice Tryz.underlying22 hf with ⟨hcs, _⟩ | ⟨a, len', cap', m, n, D, Pl, hcs, _, hl, hm, hmm, _, hi⟩
  · simp [Value.cells] at hcs
    obtain ⟨_, rfl, rfl⟩ := hcs
    exact ⟨[], rfl, fun i hi => absurd hi (by simp), Nat.zero_le _⟩
  · simp [Value.cells] at hcs
    obtain ⟨rfl, rfl, rfl⟩ := hcs
    simp only [if_true] at hmm
    subst hmm
    have each := fun i (h : i < len) => (show ∃ v : Xa, _ from by
      obtain ⟨cs', hc, ht⟩ := hi i (by omega)
      rw [Tryz.cells51] at hc
      exact arg_act hc ht)
    haveI : Inhabited Xa := ⟨Xa.zero⟩
    obtain ⟨q, hq⟩ := choose_lt each
    have hget : ∀ i, i < len → xat ((List.range len).map q) i = q i := fun i hi => by
      unfold xat
      rw [List.getD_eq_getElem?_getD, List.getElem?_map, List.getElem?_range hi]; rfl
    refine ⟨(List.range len).map q, by simp, fun i hi => ?_, by omega⟩
    have hi' : i < len := by simpa using hi
    obtain ⟨b, off, spot⟩ := a
    have hspot : spot = none := by
      have h0 := World.cell?_spot (hq 0 (by omega)).1.1
      simpa [Addr.add] using h0
    subst hspot
    simp only [List.getElem_map, List.getElem_range]
    have h3 := hq i hi'
    rw [add_plain, add_plain, add_plain, add_plain, add_plain] at h3
    exact ⟨⟨b, off, rfl, h3.1.1, by rw [Nat.add_assoc]; exact h3.1.2.1, by rw [Nat.add_assoc]; exact h3.1.2.2.1, by rw [Nat.add_assoc]; exact h3.1.2.2.2.1, by rw [Nat.add_assoc]; exact h3.1.2.2.2.2⟩, h3.2⟩
end
/-- The law's outer function, of what 'runs' answers. -/
theorem chunksRuns_of {w : World} (hK : S1.KR w) (a0 : Option Addr) (c : Nat) (xs : List Xa) (hR : RdA w a0 xs) (h7 : ∀ W, S1.KR W → RdA W a0 xs → Calls Tryz.prog 7 #[.slice a0 xs.length c] W fun e w' => ∃ b, e = .returned (.bool b) ∧ (b = false → Fine xs ∧ ¬ NoClash (texts xs)) ∧ Below W.heap.size W w') :
    Calls Tryz.prog 3 #[.slice a0 xs.length c] w fun e w' => e = .returned (.bool true) ∧ Below w.heap.size w w' := by
  have P6 := Lib.hid (awake_any hK)
  have P7 : Hid (∀ W, Below w.heap.size w W → Calls Tryz.prog 7 #[.slice a0 xs.length c] W fun e w' => ∃ b, e = .returned (.bool b) ∧ (b = false → Fine xs ∧ ¬ NoClash (texts xs)) ∧ Below w.heap.size w w') := Lib.hid fun W hW => (h7 W (hK.step hW) (hR.keep hW)).mono (by rintro e w' ⟨b, h1, h2, h3⟩; exact ⟨b, h1, h2, hW.trans (h3.mono hW.size)⟩)
  have P8 : Hid (∀ W, Below w.heap.size w W → Fine xs → ¬ NoClash (texts xs) → Calls Tryz.prog 8 #[.slice a0 xs.length c] W fun e w' => e = .returned (.bool true) ∧ Below w.heap.size w w') := Lib.hid fun W hW h1 h2 => (clash_any (hR.keep hW) h1 h2).mono (by rintro e w' ⟨h3, h4⟩; exact ⟨h3, hW.trans (h4.mono hW.size)⟩)
  clear h7 hR hK
  go_enter Tryz.func3, Tryz.ntmps3
  go_wp2_with (go_at_call 6; (with_reducible refine P6.out.mono ?_); rintro e w1 ⟨rfl, hb1⟩)
  refine (P7.out _ hb1).mono ?_
  rintro e w2 ⟨b, rfl, hf, hb2⟩
  cases b with
  | false =>
    have P8a := Lib.hid (P8.out _ hb2 (hf rfl).1 (hf rfl).2)
    clear hf P8
    go_wp2_with (go_at_call 8; (with_reducible refine P8a.out.mono ?_); rintro e w3 ⟨rfl, hb3⟩)
    go_ret
    exact ⟨rfl, hb3⟩
  | true =>
    clear hf P8
    go_wp2
    go_ret
    exact ⟨rfl, hb2⟩
end Go.Proofs.YtogihpofkjpokaaGreatDoor
