/- The walk of FrameTurned. -/
import Derived.Test.YtmjlijhikmjmlaaTurn
import Derived.Test.YtmjlijhikmjmlaaJoins
import Derived.Laws.IdiomStrings
import Derived.BigRegion
namespace Go.Proofs.Ytmjlijhikmjmlaa
open Go Go.RowKit

/-- Bytes lie in block g, and may be written. -/
def BC (w : World) (g : Nat) (l : List UInt8) : Prop := ∀ j, j < l.length → w.cell? ⟨g, j, none⟩ = some (.int .u8 ((l.getD j 0).toNat : Int)) ∧ w.frozen? ⟨g, j, none⟩ = false
theorem bgetD_set_same (l : List UInt8) (k : Nat) (x : UInt8) (h : k < l.length) : (l.set k x).getD k 0 = x := by
  simp [List.getD_eq_getElem?_getD, h]
theorem bgetD_set_other (l : List UInt8) (k j : Nat) (x : UInt8) (h : j ≠ k) : (l.set k x).getD j 0 = l.getD j 0 := by
  simp [List.getD_eq_getElem?_getD, List.getElem?_set_ne (Ne.symm h)]
theorem BC.set {w : World} {g : Nat} {l : List UInt8} (h : BC w g l) (k : Nat) (x : UInt8) : BC (w.setCell ⟨g, k, none⟩ (.int .u8 (x.toNat : Int))) g (l.set k x) := by
  intro j hj
  rw [List.length_set] at hj
  have h1 := h j hj
  refine ⟨?_, by rw [World.frozen?_setCell]; exact h1.2⟩
  by_cases e : j = k
  · subst e
    rw [World.cell?_setCell_same _ _ _ h1.1, bgetD_set_same _ _ _ hj]
  · rw [World.cell?_setCell_other _ _ _ _ (by intro he; injection he; omega), bgetD_set_other _ _ _ _ e]
    exact h1.1
theorem BC.text {w : World} {g : Nat} {l : List UInt8} (h : BC w g l) (j : Nat) (hj : j < l.length) :
    w.cell? ((⟨g, 0, none⟩ : Addr).add j) = some (.int .u8 (l[j].toNat : Int)) := by
  rw [add0, (h j hj).1]
  simp [List.getD_eq_getElem?_getD, hj]
theorem BC.drewN {w : World} {g : Nat} {l : List UInt8} (h : BC w g l) (n : Nat) : BC (w.drewN n) g l := h
theorem bytes_of (w : World) (l : List UInt8) : ∃ cap w', (convert 9 34 (.string (txt l))).run Try.prog w = .ok (.slice (some ⟨w.heap.size, 0, none⟩) l.length cap) w' ∧ BC w' w.heap.size l ∧ Below w.heap.size w w' ∧ w.heap.size < w'.heap.size := by
  refine ⟨_, _, run_bytes_of_string w 9 34 5 (txt l) Try.underlying9 Try.underlying34 Try.underlying5, ?_, (Below.refl _ _).drew.alloc (Nat.le_refl _) _, by simp⟩
  generalize hs : txt l = s
  have hl : l = s.data.toList := by rw [← hs, data_txt]
  subst hl
  intro j hj
  have hj' : j < s.size := hj
  have hh : (w.drew.alloc (.cells (bytesRow s (grownCap w s.size 0 5)) 5 ((bytesRow s (grownCap w s.size 0 5)).size, (bytesRow s (grownCap w s.size 0 5)).size + 1))).heap[w.heap.size]? = some (.cells (bytesRow s (grownCap w s.size 0 5)) 5 ((bytesRow s (grownCap w s.size 0 5)).size, (bytesRow s (grownCap w s.size 0 5)).size + 1)) := heap_alloc_new _ _
  have hz : s.size ≤ (bytesRow s (grownCap w s.size 0 5)).size := by
    unfold bytesRow; rw [Array.size_append, Array.size_map]; show s.size ≤ s.size + _; omega
  constructor
  · rw [cell_of_row _ _ _ _ _ _ hh]
    unfold bytesRow
    rw [Array.getElem?_append_left (by rw [Array.size_map]; exact hj')]
    rw [Array.getElem?_map]
    have : s.data[j]? = some (s.data.toList.getD j 0) := by
      rw [← Array.getElem?_toList, List.getD_eq_getElem?_getD, List.getElem?_eq_getElem hj]; rfl
    rw [this]; rfl
  · unfold World.frozen?
    rw [hh]
    simp
    omega
theorem u8_xor_b (a b : UInt8) : bits .xor .u8 (a.toNat : Int) (b.toNat : Int) = ((a ^^^ b).toNat : Int) := by
  rw [u8_xor_nat _ _ a.toNat_lt b.toNat_lt, UInt8.toNat_xor]
theorem xor_ne (a b : UInt8) (h : b ≠ 0) : a ≠ a ^^^ b := fun e => h (by
  have := congrArg (fun v => a ^^^ v) e
  simpa [← UInt8.xor_assoc] using this.symm)

set_option maxRecDepth 100000 in
set_option maxHeartbeats 4000000 in
theorem frameTurned_any (p b : List UInt8) (hp : p.length ≤ 3000) (hb : b.length ≤ 3000) (k : Nat) (hk : k < 12 + p.length) (c : UInt8) (hc : c ≠ 0) (w : World) :
    Calls Try.prog 6 #[.string (txt p), .agg #[.int .i64 (k : Int), .int .u8 (c.toNat : Int)], .string (txt b)] w fun e w' => e = .returned (.bool true) ∧ Below w.heap.size w w' := by
  have hzp := txt_size p
  have hzb := txt_size b
  have hp' : (p.length : Int) ≤ 3000 := by omega
  have hb' : (b.length : Int) ≤ 3000 := by omega
  have hdp : decide ((3000 : Int) < (p.length : Int)) = false := decide_eq_false (by omega)
  have hdb : decide ((3000 : Int) < (b.length : Int)) = false := decide_eq_false (by omega)
  have A := Lib.hid awake_any
  have P := Lib.hid (wrap_any p (by omega))
  obtain ⟨l, hl⟩ : ∃ l, l = frameL p := ⟨_, rfl⟩
  have hll : l.length = 12 + p.length := by rw [hl, frameL_length]
  have hkl : k < l.length := by omega
  obtain ⟨x, hx⟩ : ∃ x, x = l.getD k 0 ^^^ c := ⟨_, rfl⟩
  have hF : firstL (l.set k x ++ b) = none := by
    subst hl
    refine first_turned p (by omega) k x (by omega) ?_ b
    rw [hx, List.getD_eq_getElem?_getD, List.getElem?_eq_getElem hkl]
    exact xor_ne _ c hc
  have S : Hid (∀ w, Calls Try.prog 11 #[.string (txt (l.set k x ++ b))] w fun e w' => ∃ a q, e = .returned (.tuple #[.slice a 0 q, .int .i64 0]) ∧ Below w.heap.size w w') := Lib.hid fun w => by
    refine (scan_any _ (by rw [List.length_append, List.length_set]; omega) w).mono ?_
    rintro e w' ⟨v, xs, rfl, ho, hs, hbe⟩
    have h1 : Scanned (l.set k x ++ b) [] := ⟨_, rfl, hF, fun y hy => by simp at hy⟩
    have := hs.unique h1
    subst this
    obtain ⟨a, q, rfl, _⟩ := ho.rd
    exact ⟨a, q, rfl, hbe⟩
  rw [← hl] at P
  have hcat := cat (l.set k x) b (by rw [List.length_set]; omega)
  have hlz := txt_size l
  have hk' : (k : Int) < (l.length : Int) := by omega
  have hk0 : (0 : Int) ≤ (k : Int) := by omega
  have hdk : decide ((k : Int) < 0) = false := decide_eq_false (by omega)
  have hdk2 : decide ((l.length : Int) ≤ (k : Int)) = false := decide_eq_false (by omega)
  have hc0 : ((c.toNat : Int) == 0) = false := by
    rw [beq_eq_false_iff_ne]
    intro h
    exact hc (UInt8.toNat_inj.1 (by simpa using h))
  have HX := Lib.hid (And.intro hx (And.intro hll hkl))
  clear hx hF hc hk hll hkl hl hp hb
  generalize hG : txt (l.set k x ++ b) = G at S hcat
  have HG := Lib.hid hG
  clear hG
  go_enter Try.func6, Try.ntmps6
  go_wp2_with fail
  refine (A.out _).mono ?_
  rintro e w1 ⟨rfl, hb1⟩
  have k0 : w1.heap[w.heap.size]? = some (.cells #[.int .i64 (k : Int), .int .u8 (c.toNat : Int)] 33 (0, 0)) := (hb1.block _ (by simp)).trans (heap_alloc_new _ _)
  have hz1 : w.heap.size + 1 ≤ w1.heap.size := by have := hb1.size; simpa using this
  have hB1 : Below w.heap.size w w1 := ((Below.refl _ _).alloc (Nat.le_refl _) _).trans (hb1.mono (by simp))
  clear hb1
  go_wp2_with fail
  refine (P.out _).mono ?_
  rintro e w2 ⟨rfl, hb2⟩
  have k2 : w2.heap[w.heap.size]? = some (.cells #[.int .i64 (k : Int), .int .u8 (c.toNat : Int)] 33 (0, 0)) := (hb2.block _ (by omega)).trans k0
  have hz2 : w.heap.size + 1 ≤ w2.heap.size := Nat.le_trans hz1 hb2.size
  have hB2 : Below w.heap.size w w2 := hB1.trans (hb2.mono (by omega))
  have d0 : w2.cell? ⟨w.heap.size, 0, none⟩ = some (.int .i64 (k : Int)) := by rw [cell_of_row _ _ _ _ _ _ k2]; rfl
  have d1 : w2.cell? ⟨w.heap.size, 1, none⟩ = some (.int .u8 (c.toNat : Int)) := by rw [cell_of_row _ _ _ _ _ _ k2]; rfl
  obtain ⟨cap, w3, hrun, hbc, hb3, hz3⟩ := bytes_of w2 l
  have k3 : w3.heap[w.heap.size]? = some (.cells #[.int .i64 (k : Int), .int .u8 (c.toNat : Int)] 33 (0, 0)) := (hb3.block _ (by omega)).trans k2
  have q0 : w3.cell? ⟨w.heap.size, 0, none⟩ = some (.int .i64 (k : Int)) := by rw [cell_of_row _ _ _ _ _ _ k3]; rfl
  have q1 : w3.cell? ⟨w.heap.size, 1, none⟩ = some (.int .u8 (c.toNat : Int)) := by rw [cell_of_row _ _ _ _ _ _ k3]; rfl
  have qc := (hbc k HX.out.2.2).1
  have qf := (hbc k HX.out.2.2).2
  have hB3 : Below w.heap.size w w3 := hB2.trans (hb3.mono (by omega))
  have HB := Lib.hid (And.intro hB3 (And.intro hz2 hz3))
  have HC := Lib.hid hbc
  clear k0 k2 k3 hb2 hb3 hB1 hB2 hB3 hbc hz1
  have hxor := u8_xor_b (l.getD k 0) c
  rw [← HX.out.1] at hxor
  generalize l.getD k 0 = y at qc hxor HX
  have hne : w2.heap.size ≠ w.heap.size := by omega
  clear hz2 hz3
  go_wp2
  go_region
  obtain ⟨w4, hw4⟩ : ∃ y, y = (w3.setCell ⟨w2.heap.size, k, none⟩ (.int .u8 (x.toNat : Int))).drew := ⟨_, rfl⟩
  rw [← hw4]
  have hbc4 : BC w4 w2.heap.size (l.set k x) := by rw [hw4]; exact HC.out.set k x
  have hB4 : Below w.heap.size w w4 := by
    rw [hw4]
    exact (HB.out.1.setCell (by have := HB.out.2.1; simp only; omega) _).drew
  have hcv := run_convert_bytes_back (P := Try.prog) w4 34 9 5 ⟨w2.heap.size, 0, none⟩ cap (l.set k x) Try.underlying34 Try.underlying5 Try.underlying9 hbc4.text
  rw [List.length_set] at hcv
  have hcv' : (convert 34 9 (.slice (some ⟨w2.heap.size, 0, none⟩) l.length cap)).run Try.prog w4 = .ok (.string (txt (l.set k x))) w4 := hcv
  clear hcv hbc4 hw4 q0 q1 qc qf hrun d0 d1 HC HB HX hxor
  generalize txt (l.set k x) = t5 at hcv' hcat
  go_wp2_with (go_at_call 11; (with_reducible refine (S.out _).mono ?_); rintro e w5 ⟨a5, q5, rfl, hb5⟩)
  go_ret
  exact ⟨rfl, hB4.trans (hb5.mono hB4.size)⟩
set_option maxRecDepth 100000 in
set_option maxHeartbeats 4000000 in
/-- Where nothing is turned. -/
theorem frameTurned_none (p b : List UInt8) (hp : p.length ≤ 3000) (hb : b.length ≤ 3000) (k : Int) (c : UInt8) (h : k < 0 ∨ (12 + p.length : Int) ≤ k ∨ c = 0) (w : World) :
    Calls Try.prog 6 #[.string (txt p), .agg #[.int .i64 k, .int .u8 (c.toNat : Int)], .string (txt b)] w fun e w' => e = .returned (.bool true) ∧ Below w.heap.size w w' := by
  have hzp := txt_size p
  have hzb := txt_size b
  have hp' : (p.length : Int) ≤ 3000 := by omega
  have hb' : (b.length : Int) ≤ 3000 := by omega
  have hdp : decide ((3000 : Int) < (p.length : Int)) = false := decide_eq_false (by omega)
  have hdb : decide ((3000 : Int) < (b.length : Int)) = false := decide_eq_false (by omega)
  have A := Lib.hid awake_any
  have P := Lib.hid (wrap_any p (by omega))
  obtain ⟨l, hl⟩ : ∃ l, l = frameL p := ⟨_, rfl⟩
  have hll : l.length = 12 + p.length := by rw [hl, frameL_length]
  rw [← hl] at P
  have hlz := txt_size l
  clear hl hp hb
  have fin : Hid (∀ w1 w2, Below (w.alloc (.cells #[.int .i64 k, .int .u8 (c.toNat : Int)] 33)).heap.size (w.alloc (.cells #[.int .i64 k, .int .u8 (c.toNat : Int)] 33)) w1 → Below w1.heap.size w1 w2 →
      w2.cell? ⟨w.heap.size, 0, none⟩ = some (.int .i64 k) ∧ w2.cell? ⟨w.heap.size, 1, none⟩ = some (.int .u8 (c.toNat : Int)) ∧ Below w.heap.size w w2) := Lib.hid fun w1 w2 h1 h2 => by
    have k0 : w1.heap[w.heap.size]? = some (.cells #[.int .i64 k, .int .u8 (c.toNat : Int)] 33 (0, 0)) := (h1.block _ (by simp)).trans (heap_alloc_new _ _)
    have hz1 : w.heap.size + 1 ≤ w1.heap.size := by have := h1.size; simpa using this
    have k2 : w2.heap[w.heap.size]? = some (.cells #[.int .i64 k, .int .u8 (c.toNat : Int)] 33 (0, 0)) := (h2.block _ (by omega)).trans k0
    exact ⟨by rw [cell_of_row _ _ _ _ _ _ k2]; rfl, by rw [cell_of_row _ _ _ _ _ _ k2]; rfl, (((Below.refl _ _).alloc (Nat.le_refl _) _).trans (h1.mono (by simp))).trans (h2.mono (by omega))⟩
  by_cases h1 : k < 0
  · have hd1 : decide (k < 0) = true := decide_eq_true h1
    clear h h1 hll
    go_enter Try.func6, Try.ntmps6
    go_wp2_with fail
    refine (A.out _).mono ?_
    rintro e w1 ⟨rfl, hb1⟩
    go_wp2_with fail
    refine (P.out _).mono ?_
    rintro e w2 ⟨rfl, hb2⟩
    obtain ⟨d0, d1, hB⟩ := fin.out w1 w2 hb1 hb2
    go_wp2
    go_ret
    exact ⟨rfl, hB⟩
  have hd1 : decide (k < 0) = false := decide_eq_false h1
  by_cases h2 : (l.length : Int) ≤ k
  · have hd2 : decide ((l.length : Int) ≤ k) = true := decide_eq_true h2
    clear h h1 hll
    go_enter Try.func6, Try.ntmps6
    go_wp2_with fail
    refine (A.out _).mono ?_
    rintro e w1 ⟨rfl, hb1⟩
    go_wp2_with fail
    refine (P.out _).mono ?_
    rintro e w2 ⟨rfl, hb2⟩
    obtain ⟨d0, d1, hB⟩ := fin.out w1 w2 hb1 hb2
    go_wp2
    go_ret
    exact ⟨rfl, hB⟩
  have hd2 : decide ((l.length : Int) ≤ k) = false := decide_eq_false h2
  have hc : c = 0 := by
    rcases h with h | h | h
    · exact absurd h h1
    · omega
    · exact h
  have hc0 : ((c.toNat : Int) == 0) = true := by rw [hc]; rfl
  clear h h1 h2 hll hc
  go_enter Try.func6, Try.ntmps6
  go_wp2_with fail
  refine (A.out _).mono ?_
  rintro e w1 ⟨rfl, hb1⟩
  go_wp2_with fail
  refine (P.out _).mono ?_
  rintro e w2 ⟨rfl, hb2⟩
  obtain ⟨d0, d1, hB⟩ := fin.out w1 w2 hb1 hb2
  go_wp2
  go_ret
  exact ⟨rfl, hB⟩
set_option maxRecDepth 100000 in
set_option maxHeartbeats 1000000 in
theorem frameTurned_long (p b : ByteArray) (h : 3000 < p.size ∨ 3000 < b.size) (k : Int) (c : UInt8) (w : World) :
    Calls Try.prog 6 #[.string p, .agg #[.int .i64 k, .int .u8 (c.toNat : Int)], .string b] w fun e w' => e = .returned (.bool true) ∧ Below w.heap.size w w' := by
  have A := Lib.hid awake_any
  have fin : Hid (∀ w1, Below (w.alloc (.cells #[.int .i64 k, .int .u8 (c.toNat : Int)] 33)).heap.size (w.alloc (.cells #[.int .i64 k, .int .u8 (c.toNat : Int)] 33)) w1 → Below w.heap.size w w1) := Lib.hid fun w1 h1 =>
    ((Below.refl _ _).alloc (Nat.le_refl _) _).trans (h1.mono (by simp))
  by_cases h1 : 3000 < p.size
  · have h1' : decide ((3000 : Int) < (p.size : Int)) = true := decide_eq_true (by omega)
    clear h h1
    go_enter Try.func6, Try.ntmps6
    go_wp2_with (go_at_call 8; (with_reducible refine (A.out _).mono ?_); rintro e w1 ⟨rfl, hb1⟩)
    go_ret
    exact ⟨rfl, fin.out _ hb1⟩
  · have h2 : decide ((3000 : Int) < (b.size : Int)) = true := decide_eq_true (by omega)
    have h1' : decide ((3000 : Int) < (p.size : Int)) = false := decide_eq_false (by omega)
    clear h h1
    go_enter Try.func6, Try.ntmps6
    go_wp2_with (go_at_call 8; (with_reducible refine (A.out _).mono ?_); rintro e w1 ⟨rfl, hb1⟩)
    go_ret
    exact ⟨rfl, fin.out _ hb1⟩
end Go.Proofs.Ytmjlijhikmjmlaa
