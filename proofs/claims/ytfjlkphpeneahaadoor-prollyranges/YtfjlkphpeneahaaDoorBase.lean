/- Words for memory: what has turned, bytes that a call gathers. -/
import Derived.Test.YtfjlkphpeneahaaDoorRows
import Derived.WalkKit
import Derived.WalkSpells
import Derived.WalkLawsBesides
import Derived.Laws.BitsAllLaws
import Derived.Lib.Hide
import Derived.Lib.AppendStr
namespace Go.Proofs.YtfjlkphpeneahaaDoor
open Go Go.RowKit

/-- Beside new blocks only those of S have turned. -/
structure Ch (S : Nat → Prop) (A B : World) : Prop where
  os : B.os = A.os
  tape : B.tape = A.tape
  output : B.output = A.output
  size : A.heap.size ≤ B.heap.size
  block : ∀ k, k < A.heap.size → ¬ S k → B.heap[k]? = A.heap[k]?

section
variable {S S' : Nat → Prop} {A B C : World}
theorem Ch.refl (S : Nat → Prop) (A : World) : Ch S A A := ⟨rfl, rfl, rfl, Nat.le_refl _, fun _ _ _ => rfl⟩
theorem Ch.trans (h : Ch S A B) (k : Ch S' B C) (hs : ∀ j, j < A.heap.size → S' j → S j) : Ch S A C :=
  ⟨k.os.trans h.os, k.tape.trans h.tape, k.output.trans h.output, Nat.le_trans h.size k.size,
    fun i hi hn => (k.block i (Nat.lt_of_lt_of_le hi h.size) (fun h' => hn (hs i hi h'))).trans (h.block i hi hn)⟩
theorem Ch.tr (h : Ch S A B) (k : Ch S B C) : Ch S A C := h.trans k (fun _ _ h => h)
theorem Ch.mono (h : Ch S A B) (hs : ∀ j, j < A.heap.size → S j → S' j) : Ch S' A B :=
  ⟨h.os, h.tape, h.output, h.size, fun k hk hn => h.block k hk (fun h' => hn (hs k hk h'))⟩
theorem Ch.alloc (S : Nat → Prop) (A : World) (o : Obj) : Ch S A (A.alloc o) := ⟨rfl, rfl, rfl, by simp, fun _ hk _ => Below.heap_alloc _ _ _ hk⟩
theorem Ch.setCell (A : World) (p : Addr) (x : Value) (hp : p.block < A.heap.size → S p.block) : Ch S A (A.setCell p x) :=
  ⟨rfl, rfl, rfl, by simp [World.setCell], fun k hk hn => Below.heap_setCell _ _ _ _ (fun e => hn (e ▸ hp (e ▸ hk)))⟩
theorem Ch.drew (S : Nat → Prop) (A : World) : Ch S A A.drew := ⟨rfl, rfl, rfl, Nat.le_refl _, fun _ _ _ => rfl⟩
theorem Ch.drewN (S : Nat → Prop) (A : World) (n : Nat) : Ch S A (A.drewN n) := ⟨rfl, rfl, rfl, Nat.le_refl _, fun _ _ _ => rfl⟩
theorem Ch.of_below {n : Nat} (h : Below n A B) : Ch (fun k => n ≤ k) A B := ⟨h.os, h.tape, h.output, h.size, fun k _ hn => h.block k (by omega)⟩
theorem Ch.of_new (h : Below A.heap.size A B) : Ch S A B := ⟨h.os, h.tape, h.output, h.size, fun k hk _ => h.block k hk⟩
theorem Ch.below {n : Nat} (h : Ch S A B) (hn : n ≤ A.heap.size) (hs : ∀ k, k < n → ¬ S k) : Below n A B :=
  ⟨h.os, h.tape, h.output, h.size, fun k hk => h.block k (by omega) (hs k hk)⟩
theorem Ch.of_grown {row : Option Nat} (h : A.grownBy B row) (hr : ∀ k, row = some k → S k) : Ch S A B :=
  ⟨h.os, h.tape, h.output, h.size, fun k hk hn => h.block k hk (fun e => hn (hr k e.symm))⟩
theorem Ch.cell (h : Ch S A B) {p : Addr} {v : Value} (hc : A.cell? p = some v) (hn : ¬ S p.block) : B.cell? p = some v :=
  (World.cell?_of_block (w := A) (h.block p.block (World.block_lt_of_cell? _ _ hc) hn)).trans hc
theorem Ch.new (h : Ch (fun _ => False) A B) : Below A.heap.size A B := h.below (Nat.le_refl _) (fun _ _ => id)
end

/-- Bytes in cells. -/
def bv (b : UInt8) : Value := .int .u8 (b.toNat : Int)
def bvs (l : List UInt8) : Array Value := (l.map bv).toArray
theorem Tryd.info5 : (Tryd.prog.info? 5).map (fun i => (i.zero, i.size, i.bytes)) = some (some (.int .u8 0), 1, 1) := by kernel_rfl
/-- A slice of bytes that a call made itself. -/
def OwB (w : World) (base : Nat) (v : Value) (l : List UInt8) : Prop := w.ownsRow base 5 1 v l.length (l.map bv)
theorem OwB.nil (w : World) (base : Nat) : OwB w base (.slice none 0 0) [] := World.ownsRow_nil _ _ _ _
theorem OwB.keep {S : Nat → Prop} {w w' : World} {base : Nat} {v : Value} {xs : List UInt8} (h : OwB w base v xs) (hc : Ch S w w') (hs : ∀ k, v.ownBlock = some k → ¬ S k) : OwB w' base v xs := by
  refine ⟨h.1, ?_⟩
  rcases h.2 with h2 | ⟨g, cap, cur, hv, hb, hg, r⟩
  · exact .inl h2
  · have hlt := (Array.getElem?_eq_some_iff.1 hg).1
    exact .inr ⟨g, cap, cur, hv, hb, (hc.block g hlt (hs g (by rw [hv]; rfl))).trans hg, r⟩
theorem OwB.own {w : World} {base : Nat} {v : Value} {xs : List UInt8} (h : OwB w base v xs) (k : Nat) (hk : v.ownBlock = some k) : base ≤ k ∧ k < w.heap.size := by
  rcases h.2 with ⟨hv, _⟩ | ⟨g, cap, cur, hv, hb, hg, _⟩
  · rw [hv] at hk; cases hk
  · rw [hv] at hk; cases hk; exact ⟨hb, (Array.getElem?_eq_some_iff.1 hg).1⟩
theorem add0 (g j : Nat) : (⟨g, 0, none⟩ : Addr).add j = ⟨g, j, none⟩ := by unfold Addr.add; split <;> simp_all
/-- What is owned as bytes is a text. -/
theorem conv_own {w : World} {base : Nat} {v : Value} {l : List UInt8} (h : OwB w base v l) :
    (convert 108 9 v).run Tryd.prog w = .ok (.string ⟨l.toArray⟩) w := by
  obtain ⟨_, h2⟩ := h
  rcases h2 with ⟨rfl, hn⟩ | ⟨g, cap, cur, rfl, hg, hh, hnc, hcm, hcs, ht⟩
  · have : l = [] := List.length_eq_zero_iff.1 hn
    subst this
    rw [run_convert_bytes_nil w 108 5 Tryd.underlying108 Tryd.underlying5 0 0 9 Tryd.underlying9]
    rfl
  · refine run_convert_bytes_back w 108 9 5 ⟨g, 0, none⟩ cap l Tryd.underlying108 Tryd.underlying5 Tryd.underlying9 ?_
    intro j hj
    rw [add0, cell_of_row _ _ _ _ _ _ hh]
    have h3 : (cur.toList.take (l.length * 1))[j]? = (l.map bv)[j]? := by rw [ht]
    rw [List.getElem?_take_of_lt (by omega)] at h3
    rw [← Array.getElem?_toList, h3]
    simp [bv, hj]

section
variable {w : World} {o : Oper} {a : Act} {Q : Exit → Act → World → Prop}
/-- append of bytes that lie in a new block. -/
theorem wp_bytes {K : Act → World → Prop} (s x : Operand) (ho : o.op = .call { callee := .builtin .append, args := #[s, x], argTypes := #[108, 108] })
    (base : Nat) (v : Value) (l : List UInt8) (hs : a.eval s = v) (hown : OwB w base v l) (g : Nat) (new : List UInt8) (n : Nat) (hn : n = new.length)
    (hx : a.eval x = .slice (some ⟨g, 0, none⟩) n n) (hrow : w.heap[g]? = some (.cells (bvs new) 5 (0, 0))) (hlen : l.length + n ≤ 100000000) (hbase : base ≤ w.heap.size)
    (h : ∀ v' w', OwB w' base v' (l ++ new) → Ch (fun j => v.ownBlock = some j) w w' → K (a.put o.dst v') w') : o.wp Tryd.prog a w K Q := by
  obtain ⟨i0, hi, hz0, hz1, hz2⟩ := info_parts Tryd.info5
  subst hn
  refine wp_append_own w s x 108 ho base 5 i0 (.int .u8 0) 1 1 Tryd.underlying108 hi hz0 hz1 hz2 rfl (by decide) v l.length (l.map bv) hs hown ⟨g, 0, none⟩ new.length new.length (new.map bv) hx (by simp) ?_ ?_ (by unfold maxLen; omega) (by omega) hbase ?_
  · intro j y hj
    rw [add0, cell_of_row _ _ _ _ _ _ hrow]
    simpa [bvs] using hj
  · intro y hy
    obtain ⟨b, _, rfl⟩ := List.mem_map.1 hy
    rfl
  · intro v' w' h1 h2 _
    refine h v' w' ?_ (Ch.of_grown h2 fun k hk => hk)
    unfold OwB
    simpa using h1
theorem wpList_bytes {ops : Array Oper} {rest : List Oper} (hgd : o.guard = none) (s x : Operand) (ho : o.op = .call { callee := .builtin .append, args := #[s, x], argTypes := #[108, 108] })
    (base : Nat) (v : Value) (l : List UInt8) (hs : a.eval s = v) (hown : OwB w base v l) (g : Nat) (new : List UInt8) (n : Nat) (hn : n = new.length)
    (hx : a.eval x = .slice (some ⟨g, 0, none⟩) n n) (hrow : w.heap[g]? = some (.cells (bvs new) 5 (0, 0))) (hlen : l.length + n ≤ 100000000) (hbase : base ≤ w.heap.size)
    (h : ∀ v' w', OwB w' base v' (l ++ new) → Ch (fun j => v.ownBlock = some j) w w' → wpList Tryd.prog ops Q rest (a.put o.dst v') w') : wpList Tryd.prog ops Q (o :: rest) a w :=
  wpList_plain hgd fun _ hK => wp_bytes s x ho base v l hs hown g new n hn hx hrow hlen hbase fun v' w' h2 h3 => hK _ _ (h v' w' h2 h3)
theorem step_bytes {ops : Array Oper} {K : Act → World → Prop} {E : Prop} (hgd : o.guard = none) (s x : Operand) (ho : o.op = .call { callee := .builtin .append, args := #[s, x], argTypes := #[108, 108] })
    (base : Nat) (v : Value) (l : List UInt8) (hs : a.eval s = v) (hown : OwB w base v l) (g : Nat) (new : List UInt8) (n : Nat) (hn : n = new.length)
    (hx : a.eval x = .slice (some ⟨g, 0, none⟩) n n) (hrow : w.heap[g]? = some (.cells (bvs new) 5 (0, 0))) (hlen : l.length + n ≤ 100000000) (hbase : base ≤ w.heap.size)
    (h : ∀ v' w', OwB w' base v' (l ++ new) → Ch (fun j => v.ownBlock = some j) w w' → K (a.put o.dst v') w') :
    if Region.wanted o (yielded ops a.tmps) = true then Oper.wp Tryd.prog o a w K Q else E := by
  have hw : Region.wanted o (yielded ops a.tmps) = true := by simp [Region.wanted, hgd]
  rw [if_pos hw]
  exact wp_bytes s x ho base v l hs hown g new n hn hx hrow hlen hbase h
end

theorem take_snoc' (s : ByteArray) (k : Nat) (h : k < s.size) : s.data.toList.take (k + 1) = s.data.toList.take k ++ [s[k]] := by
  rw [List.take_succ_eq_append_getElem (by simpa using h)]; rfl
theorem size_data (t : ByteArray) : t.data.toList.length = t.size := by simp
section
variable {w : World} {o : Oper} {a : Act} {Q : Exit → Act → World → Prop}
/-- append of a text. -/
theorem wpList_text {ops : Array Oper} {rest : List Oper} (hgd : o.guard = none) (s x : Operand) (ho : o.op = .call { callee := .builtin .append, args := #[s, x], argTypes := #[108, 9] })
    (base : Nat) (v : Value) (l : List UInt8) (hs : a.eval s = v) (hown : OwB w base v l) (t : ByteArray) (hx : a.eval x = .string t) (hlen : l.length + t.size ≤ 100000000) (hbase : base ≤ w.heap.size)
    (h : ∀ v' w', OwB w' base v' (l ++ t.data.toList) → Ch (fun j => v.ownBlock = some j) w w' → wpList Tryd.prog ops Q rest (a.put o.dst v') w') : wpList Tryd.prog ops Q (o :: rest) a w := by
  obtain ⟨i0, hi, hz0, hz1, hz2⟩ := info_parts Tryd.info5
  refine Lib.wpList_append_own_string w hgd s x 108 9 ho base 5 i0 Tryd.underlying108 Tryd.underlying9 hi hz0 hz1 hz2 v l.length (l.map bv) hs hown t hx (by unfold maxLen; omega) (by omega) hbase ?_
  intro v' w' h1 h2 _
  refine h v' w' ?_ (Ch.of_grown h2 fun k hk => hk)
  unfold OwB
  rw [List.length_append, List.map_append, size_data]
  exact h1
end
end Go.Proofs.YtfjlkphpeneahaaDoor
