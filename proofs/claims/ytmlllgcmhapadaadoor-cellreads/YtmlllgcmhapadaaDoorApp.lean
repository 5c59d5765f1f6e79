/- append of texts and of bytes of other slices; the library's ReplaceAll at one byte. -/
import Derived.Test.YtmlllgcmhapadaaDoorEnc
import Derived.Test.YtmlllgcmhapadaaDoorShelf
import Derived.Lib.AppendStr
namespace Go.Proofs.YtmlllgcmhapadaaDoor
open Go Go.RowKit

section
variable {w : World} {o : Oper} {a : Act} {Q : Exit → Act → World → Prop}
/-- append of a text. -/
theorem wpList_text {ops : Array Oper} {rest : List Oper} (hgd : o.guard = none) (s x : Operand) (ho : o.op = .call { callee := .builtin .append, args := #[s, x], argTypes := #[43, 9] })
    (base : Nat) (v : Value) (l : List UInt8) (hs : a.eval s = v) (hown : OwB w base v l) (t : ByteArray) (hx : a.eval x = .string t) (hlen : l.length + t.size ≤ 100000000) (hbase : base ≤ w.heap.size)
    (h : ∀ v' w', OwB w' base v' (l ++ t.data.toList) → Ch (fun j => v.ownBlock = some j) w w' → wpList Tryd.prog ops Q rest (a.put o.dst v') w') : wpList Tryd.prog ops Q (o :: rest) a w := by
  obtain ⟨i0, hi, hz0, hz1, hz2⟩ := info_parts Tryd.info5
  refine Lib.wpList_append_own_string w hgd s x 43 9 ho base 5 i0 Tryd.underlying43 Tryd.underlying9 hi hz0 hz1 hz2 v l.length (l.map bv) hs hown t hx (by unfold maxLen; omega) (by omega) hbase ?_
  intro v' w' h1 h2 _
  refine h v' w' ?_ (Ch.of_grown h2 fun k hk => hk)
  unfold OwB
  rw [List.length_append, List.map_append, size_data]
  exact h1
/-- append of bytes of another slice that the call made itself. -/
theorem wpList_src {ops : Array Oper} {rest : List Oper} (hgd : o.guard = none) (s x : Operand) (ho : o.op = .call { callee := .builtin .append, args := #[s, x], argTypes := #[43, 43] })
    (base : Nat) (v : Value) (l : List UInt8) (hs : a.eval s = v) (hown : OwB w base v l) (base' : Nat) (vx : Value) (new : List UInt8) (hx : a.eval x = vx) (hsrc : OwB w base' vx new) (hne : 0 < new.length) (hlen : l.length + new.length ≤ 100000000) (hbase : base ≤ w.heap.size)
    (h : ∀ v' w', OwB w' base v' (l ++ new) → Ch (fun j => v.ownBlock = some j) w w' → wpList Tryd.prog ops Q rest (a.put o.dst v') w') : wpList Tryd.prog ops Q (o :: rest) a w := by
  obtain ⟨i0, hi, hz0, hz1, hz2⟩ := info_parts Tryd.info5
  rcases hsrc.2 with ⟨_, h0⟩ | ⟨g, cap, cur, hv, hb, hg, hnc, hcm, hcs, ht⟩
  · omega
  · refine wpList_append_own _ hgd s x 43 ho base 5 i0 _ 1 1 Tryd.underlying43 hi hz0 hz1 hz2 rfl (by decide) v l.length (l.map bv) hs hown ⟨g, 0, none⟩ new.length cap (new.map bv) (by rw [hx, hv]) (by simp) ?_ ?_ (by unfold maxLen; omega) (by omega) hbase ?_
    · intro j y hj
      rw [add0, cell_of_row _ _ _ _ _ _ hg]
      have hjl : j < new.length := by
        have := (List.getElem?_eq_some_iff.1 hj).1
        simpa using this
      have h3 : (cur.toList.take (new.length * 1))[j]? = (new.map bv)[j]? := by rw [ht]
      rw [List.getElem?_take_of_lt (by omega)] at h3
      rw [← Array.getElem?_toList, h3]
      exact hj
    · intro y hy
      obtain ⟨b, _, rfl⟩ := List.mem_map.1 hy
      rfl
    · intro v' w' h1 h2 _
      refine h v' w' ?_ (Ch.of_grown h2 fun k hk => hk)
      unfold OwB
      simpa using h1
end

/-- A value's box, and one block more. -/
theorem box_cells (w : World) (x y z : Value) (o : Obj) : ((w.alloc (.cells #[x, y, z] 23)).alloc o).cell? ⟨w.heap.size, 0, none⟩ = some x ∧ ((w.alloc (.cells #[x, y, z] 23)).alloc o).cell? ⟨w.heap.size, 1, none⟩ = some y ∧ ((w.alloc (.cells #[x, y, z] 23)).alloc o).cell? ⟨w.heap.size, 2, none⟩ = some z := by
  have h : ((w.alloc (.cells #[x, y, z] 23)).alloc o).heap[w.heap.size]? = some (.cells #[x, y, z] 23 (0, 0)) := (Below.heap_alloc _ _ _ (by simp)).trans (heap_alloc_new w _)
  exact ⟨cell_of_row _ _ _ _ _ _ h, cell_of_row _ _ _ _ _ _ h, cell_of_row _ _ _ _ _ _ h⟩

theorem after_box {w wr w1 : World} {v : Value} {l : List UInt8} {x y z : Value} {o : Obj} (hch : Ch (fun _ => False) w wr) (ho : OwB wr w.heap.size v l) (hg : Ch (fun j => v.ownBlock = some j) ((wr.alloc (.cells #[x, y, z] 23)).alloc o) w1) :
    (w1.cell? ⟨wr.heap.size, 0, none⟩ = some x ∧ w1.cell? ⟨wr.heap.size, 1, none⟩ = some y ∧ w1.cell? ⟨wr.heap.size, 2, none⟩ = some z) ∧ Ch (fun _ => False) w w1 := by
  obtain ⟨e0, e1, e2⟩ := box_cells wr x y z o
  have hno : ¬ v.ownBlock = some wr.heap.size := fun h => Nat.lt_irrefl _ (ho.own _ h).2
  exact ⟨⟨hg.cell e0 hno, hg.cell e1 hno, hg.cell e2 hno⟩, ((hch.tr (Ch.alloc _ _ _)).tr (Ch.alloc _ _ _)).trans hg (fun j hj h => by have := (ho.own j h).1; omega)⟩
/-- A box of values is no row of bytes. -/
def Bx (w : World) (g : Nat) (x y z : Value) : Prop := w.heap[g]? = some (.cells #[x, y, z] 23 (0, 0))
theorem Bx.cells {w : World} {g : Nat} {x y z : Value} (h : Bx w g x y z) : w.cell? ⟨g, 0, none⟩ = some x ∧ w.cell? ⟨g, 1, none⟩ = some y ∧ w.cell? ⟨g, 2, none⟩ = some z :=
  ⟨cell_of_row _ _ _ _ _ _ h, cell_of_row _ _ _ _ _ _ h, cell_of_row _ _ _ _ _ _ h⟩
theorem Bx.lt {w : World} {g : Nat} {x y z : Value} (h : Bx w g x y z) : g < w.heap.size := (Array.getElem?_eq_some_iff.1 h).1
theorem Bx.keep {S : Nat → Prop} {w w' : World} {g : Nat} {x y z : Value} (h : Bx w g x y z) (hc : Ch S w w') (hs : ¬ S g) : Bx w' g x y z := (hc.block g h.lt hs).trans h
theorem Bx.ne {w : World} {g : Nat} {x y z : Value} (h : Bx w g x y z) {base : Nat} {v : Value} {l : List UInt8} (ho : OwB w base v l) : ¬ v.ownBlock = some g := fun e => by
  rcases ho.2 with ⟨hv, _⟩ | ⟨g', cap, cur, hv, hb, hg, _⟩
  · rw [hv] at e; cases e
  · rw [hv] at e
    cases e
    unfold Bx at h
    rw [h] at hg
    injection hg with hg
    injection hg with _ h2
    cases h2
theorem own_ne {w w1 : World} {v : Value} {l : List UInt8} {base g : Nat} {x y z : Value} {o : Obj} (h : Bx w g x y z) (ho : OwB w base v l) (hg : Ch (fun j => v.ownBlock = some j) (w.alloc o) w1) : Bx w1 g x y z :=
  (h.keep (Ch.alloc (fun _ => False) w o) id).keep hg (h.ne ho)
theorem after_bx {wr w1 : World} {v : Value} {base : Nat} {l : List UInt8} {x y z : Value} {o : Obj} (ho : OwB wr base v l) (hg : Ch (fun j => v.ownBlock = some j) ((wr.alloc (.cells #[x, y, z] 23)).alloc o) w1) : Bx w1 wr.heap.size x y z := by
  have h : Bx ((wr.alloc (.cells #[x, y, z] 23)).alloc o) wr.heap.size x y z := (Below.heap_alloc _ _ _ (by simp)).trans (heap_alloc_new wr _)
  exact h.keep hg (fun h => Nat.lt_irrefl _ (ho.own _ h).2)
theorem row2 (w : World) (o : Obj) (new : List UInt8) : ((w.alloc o).alloc (.cells (bvs new) 5)).heap[w.heap.size + 1]? = some (.cells (bvs new) 5 (0, 0)) := by
  have := heap_alloc_new (w.alloc o) (.cells (bvs new) 5)
  rwa [World.size_alloc] at this

theorem replace_zero (s : ByteArray) (hs : s.size ≤ 1000) (m : Int) (w : World) (hm : w.cell? ⟨1, 0, none⟩ = some (.int .i64 m)) :
    Calls Tryd.prog 27 #[.string s, .string ⟨#[0]⟩, .string ⟨#[0, 255]⟩] w fun e w' => e = .returned (.string (txt (subst1 0 [0, 255] s.data.toList))) ∧ Below w.heap.size w w' := by
  have hc := Lib.countB_le ⟨#[0]⟩ (by decide) s.size s (Nat.le_refl _)
  have hz : (⟨#[0, 255]⟩ : ByteArray).size = 2 := rfl
  refine (Tryd.strings_ReplaceAll s ⟨#[0]⟩ ⟨#[0, 255]⟩ m w (by omega) hm (by decide) (by rw [hz]; omega)).mono ?_
  rintro e w' ⟨rfl, hb⟩
  refine ⟨?_, hb⟩
  show Ending.returned (.string ⟨(Lib.replaceAll s.data.toList [0] [0, 255]).toArray⟩) = _
  rw [replaceAll_one 0 [0, 255] _ (by decide)]
  rfl
theorem replace_quote (s : ByteArray) (hs : s.size ≤ 1000) (m : Int) (w : World) (hm : w.cell? ⟨1, 0, none⟩ = some (.int .i64 m)) :
    Calls Tryd.prog 27 #[.string s, .string ⟨#[39]⟩, .string ⟨#[39, 39]⟩] w fun e w' => e = .returned (.string (txt (subst1 39 [39, 39] s.data.toList))) ∧ Below w.heap.size w w' := by
  have hc := Lib.countB_le ⟨#[39]⟩ (by decide) s.size s (Nat.le_refl _)
  have hz : (⟨#[39, 39]⟩ : ByteArray).size = 2 := rfl
  refine (Tryd.strings_ReplaceAll s ⟨#[39]⟩ ⟨#[39, 39]⟩ m w (by omega) hm (by decide) (by rw [hz]; omega)).mono ?_
  rintro e w' ⟨rfl, hb⟩
  refine ⟨?_, hb⟩
  show Ending.returned (.string ⟨(Lib.replaceAll s.data.toList [39] [39, 39]).toArray⟩) = _
  rw [replaceAll_one 39 [39, 39] _ (by decide)]
  rfl
end Go.Proofs.YtmlllgcmhapadaaDoor
