/- Walk of SumsUnlike. -/
import Derived.Test.YtbbdlggbddaahaaDoorCrcmath
import Derived.Test.YtbbdlggbddaahaaDoorAlive
import Derived.Laws.IdiomStrings
namespace Go.Proofs.YtbbdlggbddaahaaDoor
open Go.RowKit

/-- Bytes lie in block g, and may be written. -/
def BC (w : World) (g : Nat) (l : List UInt8) : Prop := ∀ j, j < l.length → w.cell? ⟨g, j, none⟩ = some (.int .u8 ((l.getD j 0).toNat : Int)) ∧ w.frozen? ⟨g, j, none⟩ = false
theorem BC.set {w : World} {g : Nat} {l : List UInt8} (h : BC w g l) (k : Nat) (x : UInt8) : BC (w.setCell ⟨g, k, none⟩ (.int .u8 (x.toNat : Int))) g (l.set k x) := by
  intro j hj
  rw [List.length_set] at hj
  have h1 := h j hj
  refine ⟨?_, by rw [World.frozen?_setCell]; exact h1.2⟩
  by_cases e : j = k
  · subst e
    rw [World.cell?_setCell_same _ _ _ h1.1, bgetD_set_same _ _ _ hj]
  · rw [World.cell?_setCell_other _ _ _ _ (by intro he; injection he; omega), bgetD_set_other _ _ _ _ e]
    exact h1.1
theorem BC.text {w : World} {g : Nat} {l : List UInt8} (h : BC w g l) (j : Nat) (hj : j < l.length) :
    w.cell? ((⟨g, 0, none⟩ : Addr).add j) = some (.int .u8 (l[j].toNat : Int)) := by
  have e : (⟨g, 0, none⟩ : Addr).add j = ⟨g, j, none⟩ := by unfold Addr.add; split <;> simp_all
  rw [e, (h j hj).1]
  simp [List.getD_eq_getElem?_getD, hj]
theorem bytes_of (w : World) (s : ByteArray) : ∃ cap w', (convert 9 31 (.string s)).run Tryd.prog w = .ok (.slice (some ⟨w.heap.size, 0, none⟩) s.size cap) w' ∧ BC w' w.heap.size s.data.toList ∧ Below w.heap.size w w' ∧ w.heap.size < w'.heap.size := by
  refine ⟨_, _, run_bytes_of_string w 9 31 5 s Tryd.underlying9 Tryd.underlying31 Tryd.underlying5, ?_, (Below.refl _ _).drew.alloc (Nat.le_refl _) _, by simp⟩
  intro j hj
  have hj' : j < s.size := hj
  have hh : (w.drew.alloc (.cells (bytesRow s (grownCap w s.size 0 5)) 5 ((bytesRow s (grownCap w s.size 0 5)).size, (bytesRow s (grownCap w s.size 0 5)).size + 1))).heap[w.heap.size]? = some (.cells (bytesRow s (grownCap w s.size 0 5)) 5 ((bytesRow s (grownCap w s.size 0 5)).size, (bytesRow s (grownCap w s.size 0 5)).size + 1)) := heap_alloc_new _ _
  have hz : s.size ≤ (bytesRow s (grownCap w s.size 0 5)).size := by
    unfold bytesRow; rw [Array.size_append, Array.size_map]; show s.size ≤ s.size + _; omega
  constructor
  · rw [cell_of_row _ _ _ _ _ _ hh]
    unfold bytesRow
    rw [Array.getElem?_append_left (by rw [Array.size_map]; exact hj')]
    rw [Array.getElem?_map]
    have : s.data[j]? = some (s.data.toList.getD j 0) := by
      rw [← Array.getElem?_toList, List.getD_eq_getElem?_getD, List.getElem?_eq_getElem hj]; rfl
    rw [this]; rfl
  · unfold World.frozen?
    rw [hh]
    simp
    omega
theorem idx30 (c0 c1 c2 c3 : UInt8) (k : Nat) (hk : k < 4) (w : World) :
    (Instr.index 30 (.agg #[.int .u8 c0.toNat, .int .u8 c1.toNat, .int .u8 c2.toNat, .int .u8 c3.toNat]) (.int .i64 k)).run Tryd.prog w = .ok (.int .u8 (([c0, c1, c2, c3].getD k 0).toNat : Int)) w := by
  have h := bvs_get [c0, c1, c2, c3] k (by simpa using hk)
  have e : #[.int .u8 c0.toNat, .int .u8 c1.toNat, .int .u8 c2.toNat, .int .u8 c3.toNat] = bvs [c0, c1, c2, c3] := rfl
  rw [e]
  generalize [c0, c1, c2, c3] = l at h
  simp [Instr.index, run_underlying Tryd.underlying30, asIntOf, go_sem, hk, h]
theorem u8_xor_b (a b : UInt8) : bits .xor .u8 (a.toNat : Int) (b.toNat : Int) = ((a ^^^ b).toNat : Int) := by
  rw [u8_xor_nat _ _ a.toNat_lt b.toNat_lt, UInt8.toNat_xor]

theorem unlike_of (s : ByteArray) (l : List UInt8) (a : Nat) (hl : l.length = s.size) (h : ∀ j, (j < a ∨ a + 4 ≤ j) → l.getD j 0 = s.data.toList.getD j 0) (hc : crcL l = crcL s.data.toList) : l = s.data.toList := by
  generalize hd : s.data.toList = d at h hc
  have hdl : d.length = l.length := by rw [hl, ← hd]; rfl
  have hg : ∀ j, (j < a ∨ a + 4 ≤ j) → l[j]? = d[j]? := fun j hj => by
    by_cases hjl : j < l.length
    · have := h j hj
      rw [List.getD_eq_getElem?_getD, List.getD_eq_getElem?_getD, List.getElem?_eq_getElem hjl, List.getElem?_eq_getElem (show j < d.length by omega)] at this
      rw [List.getElem?_eq_getElem hjl, List.getElem?_eq_getElem (show j < d.length by omega)]
      simpa using this
    · rw [List.getElem?_eq_none (by omega), List.getElem?_eq_none (by omega)]
  have hp : l.take a = d.take a := by
    apply List.ext_getElem?
    intro j
    by_cases hj : j < a
    · rw [List.getElem?_take_of_lt hj, List.getElem?_take_of_lt hj]; exact hg j (.inl hj)
    · rw [List.getElem?_take_eq_none (by omega), List.getElem?_take_eq_none (by omega)]
  have hq : l.drop (a + 4) = d.drop (a + 4) := by
    apply List.ext_getElem?
    intro j
    rw [List.getElem?_drop, List.getElem?_drop]
    exact hg _ (.inr (by omega))
  have e : ∀ x : List UInt8, x = x.take a ++ (x.drop a).take 4 ++ x.drop (a + 4) := fun x => by
    rw [List.append_assoc, ← List.drop_drop, List.take_append_drop, List.take_append_drop]
  have hm := crcL_unlike (l.take a) ((l.drop a).take 4) ((d.drop a).take 4) (l.drop (a + 4)) (by simp; omega) (by simp; omega) (by
    rw [← e l]
    rw [hp, hq, ← e d]
    exact hc)
  rw [e l, e d, hm, hp, hq]

set_option maxRecDepth 100000 in
set_option maxHeartbeats 400000 in
theorem unlike_in (s : ByteArray) (hs : s.size ≤ 5000) (a : Nat) (ha : a < s.size) (c0 c1 c2 c3 : UInt8) (w : World) (hK : KR w) :
    Calls Tryd.prog 6 #[.string s, .int .i64 a, .agg #[.int .u8 c0.toNat, .int .u8 c1.toNat, .int .u8 c2.toNat, .int .u8 c3.toNat]] w fun e w' => e = .returned (.bool true) ∧ Below w.heap.size w w' := by
  have hi1 : (s.size : Int) ≤ 5000 := by omega
  have hi2 : (a : Int) < (s.size : Int) := by omega
  have hi3 : (0 : Int) ≤ (a : Int) := by omega
  have hd1 : decide ((5000 : Int) < (s.size : Int)) = false := decide_eq_false (by omega)
  have hd2 : decide ((a : Int) < 0) = false := decide_eq_false (by omega)
  have hd3 : decide (s.size ≤ a) = false := decide_eq_false (by omega)
  go_enter Tryd.func6, Tryd.ntmps6
  go_wp2_with fail
  refine (alive_any _ (hK.alloc _)).mono ?_
  rintro e w1 ⟨rfl, hb1⟩
  have k0 : w1.heap[w.heap.size]? = some (.cells (bvs [c0, c1, c2, c3]) 30 (0, 0)) := (hb1.block _ (by simp)).trans (heap_alloc_new _ _)
  have hz1 : w.heap.size + 1 ≤ w1.heap.size := by have := hb1.size; simpa using this
  have hB1 : Below w.heap.size w w1 := ((Below.refl _ _).alloc (Nat.le_refl _) _).trans (hb1.mono (by simp))
  obtain ⟨cap, w2, hrun, hbc, hb2, hz2⟩ := bytes_of w1 s
  have hB2 : Below w.heap.size w w2 := hB1.trans (hb2.mono (by omega))
  have k2 : w2.heap[w.heap.size]? = some (.cells (bvs [c0, c1, c2, c3]) 30 (0, 0)) := (hb2.block _ (by omega)).trans k0
  have d0 : w2.cell? ⟨w.heap.size, 0, none⟩ = some (.int .u8 c0.toNat) := by rw [cell_of_row _ _ _ _ _ _ k2]; rfl
  have d1 : w2.cell? ⟨w.heap.size, 1, none⟩ = some (.int .u8 c1.toNat) := by rw [cell_of_row _ _ _ _ _ _ k2]; rfl
  have d2 : w2.cell? ⟨w.heap.size, 2, none⟩ = some (.int .u8 c2.toNat) := by rw [cell_of_row _ _ _ _ _ _ k2]; rfl
  have d3 : w2.cell? ⟨w.heap.size, 3, none⟩ = some (.int .u8 c3.toNat) := by rw [cell_of_row _ _ _ _ _ _ k2]; rfl
  clear k0 k2 hb1 hB1 hb2
  go_wp2
  go_loopw [28] (fun i wr => ∃ k : Nat, ∃ l : List UInt8, k ≤ 4 ∧ i = .int .i64 k ∧ Hid (l.length = s.size ∧ ∀ j, (j < a ∨ a + 4 ≤ j) → l.getD j 0 = s.data.toList.getD j 0) ∧ BC wr w1.heap.size l ∧ Below w.heap.size w wr ∧ w1.heap.size < wr.heap.size) (fun i _ => 4 - (intOf i).toNat)
  case atStart => exact ⟨0, s.data.toList, by omega, rfl, Lib.hid ⟨rfl, fun _ _ => rfl⟩, hbc, hB2, hz2⟩
  case round =>
    clear hrun hbc hB2 hz2 d0 d1 d2 d3
    obtain ⟨k, l, hk, rfl, hl, hbc, hB, hz⟩ := hrel
    by_cases hlt : k < 4
    · have hix := idx30 c0 c1 c2 c3 k hlt
      generalize [c0, c1, c2, c3].getD k 0 = x at hix
      by_cases hin : a + k < s.size
      · have hin' : (a : Int) + (k : Int) < (s.size : Int) := by omega
        have ht : ((a : Int) + (k : Int)).toNat = a + k := by omega
        have hge : (0 : Int) ≤ (a : Int) + (k : Int) := by omega
        have hc := hbc (a + k) (by rw [hl.out.1]; exact hin)
        have hc1 := hc.1
        have hc2 := hc.2
        have hx := u8_xor_b
        clear hc
        go_wp2
        go_roundw
        case rel =>
          rw [← UInt8.toNat_xor]
          exact ⟨k + 1, l.set (a + k) _, by omega, by go_num, Lib.hid ⟨by rw [List.length_set]; exact hl.out.1, fun j hj => by rw [bgetD_set_other _ _ _ _ (by omega)]; exact hl.out.2 j hj⟩, hbc.set _ _, hB.setCell (by simp; omega) _, by simpa [World.setCell] using hz⟩
        case measure => simp [intOf]; omega
      · have hin' : ¬ ((a : Int) + (k : Int) < (s.size : Int)) := by omega
        go_wp2
        go_roundw
        case rel => exact ⟨k + 1, l, by omega, by go_num, hl, hbc, hB, hz⟩
        case measure => simp [intOf]; omega
    · obtain ⟨tx, htx⟩ : ∃ x : ByteArray, x = ⟨l.toArray⟩ := ⟨_, rfl⟩
      have HT := Lib.hid htx
      have hcv := run_convert_bytes_back (P := Tryd.prog) wr 31 9 5 ⟨w1.heap.size, 0, none⟩ cap l Tryd.underlying31 Tryd.underlying5 Tryd.underlying9 hbc.text
      rw [hl.out.1, ← htx] at hcv
      have hts : tx.size = s.size := by rw [htx]; show l.toArray.size = _; rw [List.size_toArray]; exact hl.out.1
      have p1 := fun w => check_any tx w (by unfold maxLen; omega)
      have p2 := fun w => check_any s w (by unfold maxLen; omega)
      clear htx hts
      by_cases heq : tx = s
      · have hq : (tx.toList == s.toList) = true := by rw [heq]; exact beq_self_eq_true _
        have HE := Lib.hid heq
        clear heq p1 p2
        go_wp2
        go_ret
        exact ⟨rfl, hB⟩
      · have hq : (tx.toList == s.toList) = false := by
          rw [beq_eq_false_iff_ne]
          intro he
          rw [ByteArray.toList_eq, ByteArray.toList_eq] at he
          exact heq (ByteArray.ext (Array.toList_inj.1 he))
        have hne : u (crcL tx.data.toList) ≠ u (crcL s.data.toList) := fun he => heq (by
          have h1 := u_inj he
          have ht : tx.data.toList = l := by rw [HT.out]
          rw [ht] at h1
          have h2 := unlike_of s l a hl.out.1 hl.out.2 h1
          rw [HT.out, h2])
        have hn : (u (crcL tx.data.toList) != u (crcL s.data.toList)) = true := by simpa using hne
        generalize u (crcL tx.data.toList) = y1 at p1 hn
        generalize u (crcL s.data.toList) = y2 at p2 hn
        have P := Lib.hid (And.intro p1 p2)
        clear heq hne p1 p2
        go_wp2_with (go_at_call 13; (first | (with_reducible refine (P.out.1 _).mono ?_) | (with_reducible refine (P.out.2 _).mono ?_)); rintro e w' ⟨rfl, rfl⟩)
        go_ret
        exact ⟨by simp, hB⟩
end Go.Proofs.YtbbdlggbddaahaaDoor
