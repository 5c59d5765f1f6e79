/- The document's disk as it lies in memory. -/
import Derived.Test.YtceejjocimgbmaaAwake
namespace Go.Proofs.Ytceejjocimgbmaa
open Go Go.RowKit Go.Maps

/-- A file as it is told: its name, its bytes, how many are sure. -/
abbrev Fl := List UInt8 × (List UInt8 × Nat)
def txt (l : List UInt8) : ByteArray := ⟨l.toArray⟩
theorem txt_data (s : ByteArray) : txt s.data.toList = s := rfl
theorem data_txt (l : List UInt8) : (txt l).data.toList = l := rfl
theorem txt_size (l : List UInt8) : (txt l).size = l.length := rfl
theorem txt_ne {a b : ByteArray} (h : a.data.toList ≠ b.data.toList) : ¬ a = b := fun e => h (by rw [e])
def fc (p : Fl) : List Value := [.string (txt p.1), .string (txt p.2.1), .int .i64 (p.2.2 : Int)]
def at_ (xs : List Fl) (i : Nat) : Fl := xs.getD i ([], ([], 0))
theorem at_get {xs : List Fl} {i : Nat} (h : i < xs.length) : at_ xs i = xs[i] := by
  unfold at_; rw [List.getD_eq_getElem?_getD, List.getElem?_eq_getElem h]; rfl
theorem take_at {xs : List Fl} {i : Nat} (h : i < xs.length) : xs.take (i + 1) = xs.take i ++ [at_ xs i] := by
  rw [List.take_succ_eq_append_getElem h, at_get h]
def cellsF (xs : List Fl) : List Value := xs.flatMap fc
theorem cellsF_length (xs : List Fl) : (cellsF xs).length = xs.length * 3 := by
  induction xs with
  | nil => rfl
  | cons p xs ih => simp [cellsF, fc, List.flatMap_cons] at ih ⊢; omega
theorem cellsF_append (xs ys : List Fl) : cellsF (xs ++ ys) = cellsF xs ++ cellsF ys := by simp [cellsF]
theorem cellsF_at (xs : List Fl) (i : Nat) (h : i < xs.length) : (cellsF xs)[i * 3]? = some (.string (txt (at_ xs i).1)) ∧ (cellsF xs)[i * 3 + 1]? = some (.string (txt (at_ xs i).2.1)) ∧ (cellsF xs)[i * 3 + 2]? = some (.int .i64 ((at_ xs i).2.2 : Int)) := by
  induction xs generalizing i with
  | nil => simp at h
  | cons p xs ih =>
    have e : cellsF (p :: xs) = .string (txt p.1) :: .string (txt p.2.1) :: .int .i64 (p.2.2 : Int) :: cellsF xs := rfl
    cases i with
    | zero => exact ⟨rfl, rfl, rfl⟩
    | succ i =>
      have := ih i (by simpa using h)
      rw [e, show (i + 1) * 3 = i * 3 + 1 + 1 + 1 by omega]
      exact this
/-- The slice of the address has these files. -/
def RdF (w : World) (a : Option Addr) (xs : List Fl) : Prop :=
  ∀ i, i < xs.length → ∃ b off, a = some ⟨b, off, none⟩ ∧ w.cell? ⟨b, off + i * 3, none⟩ = some (.string (txt (at_ xs i).1)) ∧ w.cell? ⟨b, off + i * 3 + 1, none⟩ = some (.string (txt (at_ xs i).2.1)) ∧ w.cell? ⟨b, off + i * 3 + 2, none⟩ = some (.int .i64 ((at_ xs i).2.2 : Int))
theorem RdF.keep {P : Nat → Prop} {w w' : World} {a : Option Addr} {xs : List Fl} (h : RdF w a xs) (hc : Ch P w w') (hs : ∀ ad, a = some ad → ¬ P ad.block) : RdF w' a xs := fun i hi => by
  obtain ⟨b, off, ha, h1, h2, h3⟩ := h i hi
  exact ⟨b, off, ha, hc.cell (p := ⟨b, off + i * 3, none⟩) h1 (hs ⟨b, off, none⟩ ha), hc.cell (p := ⟨b, off + i * 3 + 1, none⟩) h2 (hs ⟨b, off, none⟩ ha), hc.cell (p := ⟨b, off + i * 3 + 2, none⟩) h3 (hs ⟨b, off, none⟩ ha)⟩
theorem Try.info74 : (Try.prog.info? 74).map (fun i => (i.zero, i.size, i.bytes)) = some (some (.agg #[.string ByteArray.empty, .string ByteArray.empty, .int .i64 0]), 3, 40) := by kernel_rfl
/-- A slice of files that a call made itself. -/
def OwF (w : World) (base : Nat) (v : Value) (xs : List Fl) : Prop := w.ownsRow base 74 3 v xs.length (cellsF xs)
theorem OwF.rd {w : World} {base : Nat} {v : Value} {xs : List Fl} (h : OwF w base v xs) : ∃ a cap, v = .slice a xs.length cap ∧ RdF w a xs ∧ (∀ ad, a = some ad → v.ownBlock = some ad.block) := by
  rcases h.2 with ⟨hv, h0⟩ | ⟨g, cap, cur, hv, hb, hg, hnc, hcm, hcs, ht⟩
  · exact ⟨none, 0, by rw [hv, h0], fun i hi => absurd hi (by omega), (fun ad h => by cases h)⟩
  · refine ⟨some ⟨g, 0, none⟩, cap, hv, fun i hi => ⟨g, 0, rfl, ?_, ?_, ?_⟩, (fun ad h => by cases h; rw [hv]; rfl)⟩
    · rw [cell_of_row _ _ _ _ _ _ hg, Nat.zero_add]
      have h3 : (cur.toList.take (xs.length * 3))[i * 3]? = (cellsF xs)[i * 3]? := by rw [ht]
      rw [List.getElem?_take_of_lt (by omega)] at h3
      rw [← Array.getElem?_toList, h3, (cellsF_at xs i hi).1]
    · rw [cell_of_row _ _ _ _ _ _ hg, Nat.zero_add]
      have h3 : (cur.toList.take (xs.length * 3))[i * 3 + 1]? = (cellsF xs)[i * 3 + 1]? := by rw [ht]
      rw [List.getElem?_take_of_lt (by omega)] at h3
      rw [← Array.getElem?_toList, h3, (cellsF_at xs i hi).2.1]
    · rw [cell_of_row _ _ _ _ _ _ hg, Nat.zero_add]
      have h3 : (cur.toList.take (xs.length * 3))[i * 3 + 2]? = (cellsF xs)[i * 3 + 2]? := by rw [ht]
      rw [List.getElem?_take_of_lt (by omega)] at h3
      rw [← Array.getElem?_toList, h3, (cellsF_at xs i hi).2.2]
theorem OwF.own {w : World} {base : Nat} {v : Value} {xs : List Fl} (h : OwF w base v xs) (k : Nat) (hk : v.ownBlock = some k) : base ≤ k ∧ k < w.heap.size := by
  rcases h.2 with ⟨hv, _⟩ | ⟨g, cap, cur, hv, hb, hg, _⟩
  · rw [hv] at hk; cases hk
  · rw [hv] at hk; cases hk; exact ⟨hb, (Array.getElem?_eq_some_iff.1 hg).1⟩
theorem OwF.obj {w : World} {base : Nat} {v : Value} {l : List Fl} (h : OwF w base v l) {k : Nat} (hk : v.ownBlock = some k) : ∃ cur, w.heap[k]? = some (.cells cur 74 (0, 0)) := by
  rcases h.2 with ⟨hv, _⟩ | ⟨g, cap, cur, hv, hb, hg, _⟩
  · rw [hv] at hk; cases hk
  · rw [hv] at hk; cases hk; exact ⟨cur, hg⟩
theorem OwF.keep {P : Nat → Prop} {w w' : World} {base : Nat} {v : Value} {xs : List Fl} (h : OwF w base v xs) (hc : Ch P w w') (hs : ∀ k, v.ownBlock = some k → ¬ P k) : OwF w' base v xs := by
  refine ⟨h.1, ?_⟩
  rcases h.2 with h2 | ⟨g, cap, cur, hv, hb, hg, r⟩
  · exact .inl h2
  · have hlt := (Array.getElem?_eq_some_iff.1 hg).1
    exact .inr ⟨g, cap, cur, hv, hb, (hc.block g hlt (hs g (by rw [hv]; rfl))).trans hg, r⟩
theorem OwF.new {w w' : World} {base : Nat} {v : Value} {xs : List Fl} (h : OwF w base v xs) (hb : Below w.heap.size w w') : OwF w' base v xs := h.keep (Ch.of_new (S := fun _ => False) hb) (fun _ _ => id)
theorem OwF.base {w : World} {base base' : Nat} {v : Value} {xs : List Fl} (h : OwF w base v xs) (hb : base' ≤ base) : OwF w base' v xs := by
  refine ⟨h.1, ?_⟩
  rcases h.2 with h2 | ⟨g, cap, cur, hv, hb', hg, r⟩
  · exact .inl h2
  · exact .inr ⟨g, cap, cur, hv, by omega, hg, r⟩
theorem OwF.nil (w : World) (base : Nat) : OwF w base (.slice none 0 0) [] := World.ownsRow_nil _ _ _ _
section
variable {w : World} {o : Oper} {a : Act} {Q : Exit → Act → World → Prop}
/-- append of one file to a slice that the call made itself. -/
theorem wpList_file {ops : Array Oper} {rest : List Oper} (hgd : o.guard = none) (s x : Operand) (ho : o.op = .call { callee := .builtin .append, args := #[s, x], argTypes := #[65, 65] })
    (base : Nat) (v : Value) (xs : List Fl) (hs : a.eval s = v) (hown : OwF w base v xs) (g : Nat) (n t : ByteArray) (k : Nat)
    (hx : a.eval x = .slice (some ⟨g, 0, none⟩) 1 1) (hrow : w.heap[g]? = some (.cells #[.string n, .string t, .int .i64 (k : Int)] 74 (0, 0))) (hlen : xs.length + 1 ≤ 100000000) (hbase : base ≤ w.heap.size)
    (h : ∀ v' w', OwF w' base v' (xs ++ [(n.data.toList, (t.data.toList, k))]) → Ch (fun j => v.ownBlock = some j) w w' → wpList Try.prog ops Q rest (a.put o.dst v') w') : wpList Try.prog ops Q (o :: rest) a w := by
  obtain ⟨i0, hi, hz0, hz1, hz2⟩ := info_parts Try.info74
  refine wpList_append_own _ hgd s x 65 ho base 74 i0 _ 3 40 Try.underlying65 hi hz0 hz1 hz2 rfl (by decide) v xs.length (cellsF xs) hs hown ⟨g, 0, none⟩ 1 1 (fc (n.data.toList, (t.data.toList, k))) hx (by simp [fc]) ?_ ?_ (by unfold maxLen; omega) (by omega) hbase ?_
  · intro j z hj
    rw [add0, cell_of_row _ _ _ _ _ _ hrow]
    simpa [fc, txt] using hj
  · intro z hz
    simp only [fc, List.mem_cons, List.not_mem_nil, or_false] at hz
    rcases hz with rfl | rfl | rfl <;> rfl
  · intro v' w' h1 h2 _
    refine h v' w' ?_ (Ch.of_grown h2 fun k hk => hk)
    unfold OwF
    rw [cellsF_append, List.length_append, show cellsF [(n.data.toList, (t.data.toList, k))] = fc (n.data.toList, (t.data.toList, k)) by simp [cellsF]]
    exact h1
end

/-! the document's disk -/
/-- Its fuel; below 0: no limit. -/
def Lg.rfuel (l : Lg) : Int := if l.lim then l.fuel else -1
def Lg.rcells (l : Lg) (v : Value) : Array Value := #[v, .int .i64 l.room, .int .i64 l.rfuel, .bool l.down]
structure RAt (w : World) (d : Nat) (l : Lg) (v : Value) : Prop where
  blk : w.heap[d]? = some (.cells (l.rcells v) 67 (0, 0))
  own : OwF w 0 v l.fs
/-- What is so of what is told. -/
structure Lg.Ok (l : Lg) : Prop where
  asc : Asc l.fs
  names : ∀ p ∈ l.fs, nameB p.1 = true
  sure : ∀ p ∈ l.fs, p.2.2 ≤ p.2.1.length
  most : l.used ≤ 1073741824
  room : 0 ≤ l.room ∧ l.room ≤ 1073741824
  fuel : -9223372036854775808 ≤ l.fuel ∧ l.fuel ≤ 9223372036854775807
  lim : l.lim = true → 0 ≤ l.fuel
/-- A disk of the document's that says this, within these blocks. -/
def RDk (w : World) (d : Nat) (l : Lg) (G : Nat → Prop) : Prop := ∃ v, RAt w d l v ∧ G d ∧ ∀ k, v.ownBlock = some k → G k

section
variable {w w' : World} {d : Nat} {l : Lg} {v : Value}
theorem RAt.ne (h : RAt w d l v) : v.ownBlock ≠ some d := fun e => by
  obtain ⟨cur, hc⟩ := h.own.obj e
  rw [h.blk] at hc
  injection hc with hc
  injection hc with _ h2
  cases h2
theorem RAt.keep {P : Nat → Prop} (h : RAt w d l v) (hc : Ch P w w') (hd : ¬ P d) (hs : ∀ k, v.ownBlock = some k → ¬ P k) : RAt w' d l v :=
  ⟨(hc.block d (lt_of_heap h.blk) hd).trans h.blk, h.own.keep hc hs⟩
theorem RAt.new (h : RAt w d l v) (hb : Below w.heap.size w w') : RAt w' d l v := h.keep (Ch.of_new (S := fun _ => False) hb) id fun _ _ => id
theorem RAt.c0 (h : RAt w d l v) : w.cell? ⟨d, 0, none⟩ = some v := cell_of_row _ _ _ _ _ _ h.blk
theorem RAt.c1 (h : RAt w d l v) : w.cell? ⟨d, 1, none⟩ = some (.int .i64 l.room) := cell_of_row _ _ _ _ _ _ h.blk
theorem RAt.c2 (h : RAt w d l v) : w.cell? ⟨d, 2, none⟩ = some (.int .i64 l.rfuel) := cell_of_row _ _ _ _ _ _ h.blk
theorem RAt.c3 (h : RAt w d l v) : w.cell? ⟨d, 3, none⟩ = some (.bool l.down) := cell_of_row _ _ _ _ _ _ h.blk
theorem RAt.fr (h : RAt w d l v) (i : Nat) : w.frozen? ⟨d, i, none⟩ = false := frozen_of_row _ _ _ _ _ h.blk
theorem RAt.set (h : RAt w d l v) (i : Nat) (x : Value) : (w.setCell ⟨d, i, none⟩ x).heap[d]? = some (.cells ((l.rcells v).setIfInBounds i x) 67 (0, 0)) := heap_setCell_same w d i _ 67 x h.blk
/-- Its files. -/
theorem RAt.rd (h : RAt w d l v) : ∃ a cap, v = .slice a l.fs.length cap ∧ RdF w a l.fs ∧ (∀ ad, a = some ad → v.ownBlock = some ad.block) := h.own.rd
/-- Other files in the place of its own. -/
theorem RAt.files (h : RAt w d l v) {v' : Value} {fs : List Fl} (ho : OwF w 0 v' fs) (hn : v'.ownBlock ≠ some d) : RAt (w.setCell ⟨d, 0, none⟩ v') d { l with fs := fs } v' :=
  ⟨h.set 0 _, ho.keep (Ch.set1 w d 0 v') fun _ hk e => hn (e ▸ hk)⟩
end
theorem RDk.keep {P G : Nat → Prop} {w w' : World} {d : Nat} {l : Lg} (h : RDk w d l G) (hc : Ch P w w') (hs : ∀ k, G k → ¬ P k) : RDk w' d l G := by
  obtain ⟨v, hA, hd, hG⟩ := h
  exact ⟨v, hA.keep hc (hs d hd) fun k hk => hs k (hG k hk), hd, hG⟩
theorem RDk.mono {G G' : Nat → Prop} {w : World} {d : Nat} {l : Lg} (h : RDk w d l G) (hG : ∀ k, k < w.heap.size → G k → G' k) : RDk w d l G' := by
  obtain ⟨v, hA, hd, hF⟩ := h
  exact ⟨v, hA, hG d (lt_of_heap hA.blk) hd, fun k hk => hG k (hA.own.own k hk).2 (hF k hk)⟩
end Go.Proofs.Ytceejjocimgbmaa
