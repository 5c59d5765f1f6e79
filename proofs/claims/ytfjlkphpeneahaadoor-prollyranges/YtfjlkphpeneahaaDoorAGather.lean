/- Bytes gathered behind a text's own bytes. -/
import Derived.Test.YtfjlkphpeneahaaDoorAWalkR
import Derived.Test.YtfjlkphpeneahaaDoorATape
import Derived.Test.YtfjlkphpeneahaaDoorAOwn
import Derived.Deep.Upon
namespace Go.Proofs.YtfjlkphpeneahaaDoor.S1
open Go Go.RowKit

/-- Below block B the world is as it was (the tape is not spoken of). -/
structure Kp (B : Nat) (w w' : World) : Prop where
  os : w'.os = w.os
  tape : w'.tape = w.tape
  output : w'.output = w.output
  size : w.heap.size ≤ w'.heap.size
  block : ∀ k, k < B → w'.heap[k]? = w.heap[k]?
theorem Below.kp {B : Nat} {w w' : World} (h : Below B w w') : Kp B w w' := ⟨h.os, h.tape, h.output, h.size, h.block⟩
theorem Kp.refl (B : Nat) (w : World) : Kp B w w := ⟨rfl, rfl, rfl, Nat.le_refl _, fun _ _ => rfl⟩
theorem Kp.trans {B : Nat} {a b c : World} (h : Kp B a b) (k : Kp B b c) : Kp B a c :=
  ⟨k.os.trans h.os, k.tape.trans h.tape, k.output.trans h.output, Nat.le_trans h.size k.size, fun i hi => (k.block i hi).trans (h.block i hi)⟩
theorem Kp.mono {B B' : Nat} {w w' : World} (h : Kp B w w') (hB : B' ≤ B) : Kp B' w w' := ⟨h.os, h.tape, h.output, h.size, fun k hk => h.block k (by omega)⟩
theorem Kp.drew {B : Nat} {a w : World} (h : Kp B a w) : Kp B a w.drew := ⟨h.os, h.tape, h.output, h.size, h.block⟩
theorem Kp.drewN {B : Nat} {a w : World} (h : Kp B a w) (n : Nat) : Kp B a (w.drewN n) := ⟨h.os, h.tape, h.output, h.size, h.block⟩
theorem Kp.alloc {B : Nat} {a w : World} (h : Kp B a w) (hB : B ≤ w.heap.size) (o : Obj) : Kp B a (w.alloc o) :=
  h.trans ⟨rfl, rfl, rfl, by simp, fun k hk => Below.heap_alloc _ _ _ (by omega)⟩
theorem Kp.setCell {B : Nat} {a w : World} (h : Kp B a w) {p : Addr} (hp : B ≤ p.block) (x : Value) : Kp B a (w.setCell p x) :=
  h.trans ⟨rfl, rfl, rfl, by simp [World.setCell], fun k hk => Below.heap_setCell _ _ _ _ (by omega)⟩
theorem Kp.cell {B : Nat} {w w' : World} (h : Kp B w w') {p : Addr} (hp : p.block < B) : w'.cell? p = w.cell? p := World.cell?_of_block (w := w) (h.block p.block hp)
theorem Kp.frozen {B : Nat} {w w' : World} (h : Kp B w w') {p : Addr} (hp : p.block < B) : w'.frozen? p = w.frozen? p := World.frozen?_of_block (w := w) (h.block p.block hp)
theorem Kp.frame {W w' : World} (h : Kp W.heap.size W w') (may : MemPlace → Prop) : W.keptBut w' may := by
  refine ⟨h.os, h.output, fun i hi => ?_⟩
  rw [h.block i hi]
  split <;> simp_all

/-- The slice v has just these cells, in a block from base on, and its spare may be written. -/
def SB (w : World) (base : Nat) (v : Value) (l : List Value) : Prop :=
  ∃ g cap, v = .slice (some ⟨g, 0, none⟩) l.length cap ∧ base ≤ g ∧ g < w.heap.size ∧ Came w 1 (some ⟨g, 0, none⟩) g 0 l.length cap l

theorem SB.keep {w w' : World} {base : Nat} {v : Value} {l : List Value} (h : SB w base v l) (hk : ∀ k, k < w.heap.size → w'.heap[k]? = w.heap[k]?) (hz : w.heap.size ≤ w'.heap.size) : SB w' base v l := by
  obtain ⟨g, cap, hv, hb, hg, hc⟩ := h
  refine ⟨g, cap, hv, hb, by omega, hc.le, hc.addr, fun h0 => by omega, hc.oldsLen, fun j x hj => ?_, fun j hj => ?_⟩
  · exact (World.cell?_of_block (a := ⟨g, 0 + j, none⟩) (hk g hg)).trans (hc.olds j x hj)
  · have h1 := hc.spare j hj
    exact ⟨by rw [World.cell?_of_block (a := ⟨g, 0 + l.length * 1 + j, none⟩) (hk g hg)]; exact h1.1, by rw [World.frozen?_of_block (a := ⟨g, 0 + l.length * 1 + j, none⟩) (hk g hg)]; exact h1.2⟩
theorem SB.alloc {w : World} {base : Nat} {v : Value} {l : List Value} (h : SB w base v l) (o : Obj) : SB (w.alloc o) base v l :=
  h.keep (fun k hk => Below.heap_alloc _ _ _ hk) (by simp)
theorem SB.drew {w : World} {base : Nat} {v : Value} {l : List Value} (h : SB w base v l) : SB w.drew base v l := h.keep (fun _ _ => rfl) (Nat.le_refl _)
/-- One append. -/
theorem sb_append {w : World} {base : Nat} {v : Value} {l : List Value} (h : SB w base v l) (_hbw : base ≤ w.heap.size) (ty : TypeId) (x : Value) (n : Nat) (news : List Value) (hs : Src Tryd.prog 1 108 x n news w) (hn : 0 < n) (hlen : l.length + n ≤ 100000000) :
    ∃ v' w', (Builtin.append_ #[108, 108] ty #[v, x]).run Tryd.prog w = .ok v' w' ∧ SB w' base v' (l ++ news) ∧ Kp base w w' := by
  obtain ⟨g, cap, rfl, hb, hg, hc⟩ := h
  obtain ⟨i0, hi, hz0, hz1, hz2⟩ := info_parts Tryd.info5
  obtain ⟨v', w', hr, hu⟩ := run_append_upon (P := Tryd.prog) (e := 5) hc 108 108 ty i0 (.int .u8 0) 1 Tryd.underlying108 hi hz0 hz1 hz2 rfl (Upon.start hc) x n news hs (by unfold maxLen; omega) (by omega)
  refine ⟨v', w', hr, ?_, ?_⟩
  · have hnl : news.length = n := by have := hs.newsLen; omega
    have hsz : w.heap.size ≤ w'.heap.size := hu.kept.size
    have hu' := hu
    rw [Nat.zero_add, List.nil_append] at hu'
    rcases hu'.val with ⟨hle, rfl, hr'⟩ | ⟨hgt, g', c', rfl, ho⟩
    · refine ⟨g, cap, by rw [List.length_append, hnl], hb, by omega, by rw [List.length_append, hnl]; exact hle, fun _ => rfl, fun _ => by omega, by simp, fun j y hj => ?_, fun j hj => ?_⟩
      · have hj' : j < (l.length + n) * 1 := by
          have := (List.getElem?_eq_some_iff.1 hj).1
          rw [List.length_append, hnl] at this; omega
        rw [hu'.inArray hc (by omega) hr' j hj']; exact hj
      · rw [List.length_append, hnl] at hj ⊢
        have hs' := hc.spare (n + j) (by omega)
        have e : 0 + (l.length + n) * 1 + j = 0 + l.length * 1 + (n + j) := by omega
        rw [e]
        exact ⟨by rw [hu'.old hg (fun j' hj' he => by omega)]; exact hs'.1, by rw [hu'.frozen _ hg]; exact hs'.2⟩
    · have hc0 : 0 < c' * 1 := by have := ho.le; omega
      have hg' : g' < w'.heap.size := World.block_lt_of_cell? _ _ (Option.isSome_iff_exists.1 (ho.there 0 hc0).1).choose_spec
      refine ⟨g', c', by rw [List.length_append, hnl], by have := ho.new; omega, hg', by rw [List.length_append, hnl]; exact ho.le, fun _ => rfl, fun _ => hg', by simp, fun j y hj => ?_, fun j hj => ?_⟩
      · have hj' : j < (l.length + n) * 1 := by
          have := (List.getElem?_eq_some_iff.1 hj).1
          rw [List.length_append, hnl] at this; omega
        rw [Nat.zero_add, ho.holds j hj']; exact hj
      · rw [List.length_append, hnl] at hj ⊢
        exact ho.there _ (by omega)
  · exact ⟨hu.kept.1, run_tape hr, hu.kept.2.1, hu.kept.size, fun k hk => hu.kept.block (by omega) (fun _ ⟨j, _, he⟩ e => by rw [he] at e; have e' : g = k := e; omega)⟩
theorem wpList_gather {w : World} {o : Oper} {a : Act} {Q : Exit → Act → World → Prop} {ops : Array Oper} {rest : List Oper} (hgd : o.guard = none) (s x : Operand) (ho : o.op = .call { callee := .builtin .append, args := #[s, x], argTypes := #[108, 108] })
    (base : Nat) (v : Value) (l : List Value) (hs : a.eval s = v) (hown : SB w base v l) (hbw : base ≤ w.heap.size) (xv : Value) (n : Nat) (news : List Value) (hx : a.eval x = xv) (hsrc : Src Tryd.prog 1 108 xv n news w) (hn : 0 < n) (hlen : l.length + n ≤ 100000000)
    (h : ∀ v' w', SB w' base v' (l ++ news) → Kp base w w' → wpList Tryd.prog ops Q rest (a.put o.dst v') w') : wpList Tryd.prog ops Q (o :: rest) a w := by
  refine wpList_plain hgd fun K hK' => ?_
  obtain ⟨v', w', hrun, h1, h2⟩ := sb_append hown hbw o.type xv n news hsrc hn hlen
  unfold Oper.wp
  simp [execOp, ho, resolve, invoke, builtin, hs, hx, hrun, Result.andThen]
  exact hK' _ _ (h v' w' h1 h2)
/-- A text's bytes, as a slice. -/
theorem sb_of (w : World) (s : ByteArray) : ∃ v w', (convert 9 108 (.string s)).run Tryd.prog w = .ok v w' ∧ SB w' w.heap.size v (s.data.toList.map bv) ∧ Kp w.heap.size w w' := by
  refine ⟨_, _, run_bytes_of_string w 9 108 5 s Tryd.underlying9 Tryd.underlying108 Tryd.underlying5, ?_, ((Kp.refl _ _).drew.alloc (Nat.le_refl _) _)⟩
  have hcap : s.size ≤ grownCap w s.size 0 5 := grownCap_ge _ _ _ _
  generalize grownCap w s.size 0 5 = cap at hcap
  have hh : (w.drew.alloc (.cells (bytesRow s cap) 5 ((bytesRow s cap).size, (bytesRow s cap).size + 1))).heap[w.heap.size]? = some (.cells (bytesRow s cap) 5 ((bytesRow s cap).size, (bytesRow s cap).size + 1)) := heap_alloc_new _ _
  have hz : (bytesRow s cap).size = cap := by
    unfold bytesRow; rw [Array.size_append, Array.size_map, Array.size_replicate]; show s.size + (cap - s.size) = cap; omega
  have hl : (s.data.toList.map bv).length = s.size := by rw [List.length_map]; rfl
  refine ⟨w.heap.size, cap, by rw [hl], Nat.le_refl _, by simp, by rw [hl]; exact hcap, fun _ => rfl, fun _ => by simp, by simp, fun j x hj => ?_, fun j hj => ?_⟩
  · have hj' : j < s.size := by have := (List.getElem?_eq_some_iff.1 hj).1; omega
    rw [Nat.zero_add, cell_of_row _ _ _ _ _ _ hh]
    unfold bytesRow
    rw [Array.getElem?_append_left (by rw [Array.size_map]; exact hj'), Array.getElem?_map]
    rw [← hj, List.getElem?_map, Array.getElem?_toList]
    rfl
  · rw [hl] at hj ⊢
    constructor
    · rw [cell_of_row _ _ _ _ _ _ hh, Array.getElem?_eq_getElem (by rw [hz]; omega)]; rfl
    · unfold World.frozen?
      rw [hh]
      simp
      omega

end Go.Proofs.YtfjlkphpeneahaaDoor.S1
