/- Pairs in cells. -/
import Derived.Test.YtlgamaldngkdnaaRuns
import Derived.Test.YtlgamaldngkdnaaRows
import Derived.WalkSpells
import Derived.WalkLawsBesides
import Derived.Lib.Hide
namespace Go.Proofs.Ytlgamaldngkdnaa
open Go Go.RowKit

abbrev Pr := ByteArray × Int
/-- The i-th key, and value. -/
def ky (xs : List Pr) (i : Nat) : ByteArray := (xs.getD i (ByteArray.empty, 0)).1
def vl (xs : List Pr) (i : Nat) : Int := (xs.getD i (ByteArray.empty, 0)).2
def cellsP (xs : List Pr) : List Value := xs.flatMap fun p => [.string p.1, .int .i64 p.2]
theorem cellsP_length (xs : List Pr) : (cellsP xs).length = xs.length * 2 := by
  induction xs with
  | nil => rfl
  | cons p xs ih => simp [cellsP, List.flatMap_cons] at ih ⊢; omega
theorem cellsP_append (xs ys : List Pr) : cellsP (xs ++ ys) = cellsP xs ++ cellsP ys := by simp [cellsP]
theorem cellsP_even (xs : List Pr) (i : Nat) (h : i < xs.length) : (cellsP xs)[i * 2]? = some (.string (ky xs i)) ∧ (cellsP xs)[i * 2 + 1]? = some (.int .i64 (vl xs i)) := by
  induction xs generalizing i with
  | nil => simp at h
  | cons p xs ih =>
    have e : cellsP (p :: xs) = .string p.1 :: .int .i64 p.2 :: cellsP xs := rfl
    cases i with
    | zero => exact ⟨rfl, rfl⟩
    | succ i =>
      have := ih i (by simpa using h)
      rw [e, show (i + 1) * 2 = i * 2 + 1 + 1 by omega]
      exact this

/-- The slice of the address has these pairs. -/
def Rd (w : World) (a : Option Addr) (xs : List Pr) : Prop :=
  ∀ i, i < xs.length → ∃ b off, a = some ⟨b, off, none⟩ ∧ w.cell? ⟨b, off + i * 2, none⟩ = some (.string (ky xs i)) ∧ w.cell? ⟨b, off + i * 2 + 1, none⟩ = some (.int .i64 (vl xs i))
theorem Rd.keep {S : Nat → Prop} {w w' : World} {a : Option Addr} {xs : List Pr} (h : Rd w a xs) (hc : Ch S w w') (hs : ∀ ad, a = some ad → ¬ S ad.block) : Rd w' a xs := fun i hi => by
  obtain ⟨b, off, ha, h1, h2⟩ := h i hi
  exact ⟨b, off, ha, hc.cell (p := ⟨b, off + i * 2, none⟩) h1 (hs ⟨b, off, none⟩ ha), hc.cell (p := ⟨b, off + i * 2 + 1, none⟩) h2 (hs ⟨b, off, none⟩ ha)⟩
theorem Try.info55 : (Try.prog.info? 55).map (fun i => (i.zero, i.size, i.bytes)) = some (some (.agg #[.string ByteArray.empty, .int .i64 0]), 2, 24) := by kernel_rfl
/-- A slice that a call made itself, of pairs of cells of type e. -/
def Ow (w : World) (base : Nat) (e : TypeId) (v : Value) (xs : List Pr) : Prop := w.ownsRow base e 2 v xs.length (cellsP xs)
theorem Ow.rd {w : World} {base : Nat} {e : TypeId} {v : Value} {xs : List Pr} (h : Ow w base e v xs) : ∃ a cap, v = .slice a xs.length cap ∧ Rd w a xs ∧ (∀ ad, a = some ad → base ≤ ad.block ∧ ad.block < w.heap.size) ∧ xs.length ≤ maxLen := by
  rcases h.2 with ⟨hv, h0⟩ | ⟨g, cap, cur, hv, hb, hg, hnc, hcm, hcs, ht⟩
  · exact ⟨none, 0, by rw [hv, h0], fun i hi => absurd hi (by omega), (fun ad h => by cases h), by unfold maxLen; omega⟩
  · refine ⟨some ⟨g, 0, none⟩, cap, hv, fun i hi => ⟨g, 0, rfl, ?_, ?_⟩, (fun ad h => by cases h; exact ⟨hb, (Array.getElem?_eq_some_iff.1 hg).1⟩), by omega⟩
    · rw [cell_of_row _ _ _ _ _ _ hg, Nat.zero_add]
      have h3 : (cur.toList.take (xs.length * 2))[i * 2]? = (cellsP xs)[i * 2]? := by rw [ht]
      rw [List.getElem?_take_of_lt (by omega)] at h3
      rw [← Array.getElem?_toList, h3, (cellsP_even xs i hi).1]
    · rw [cell_of_row _ _ _ _ _ _ hg, Nat.zero_add]
      have h3 : (cur.toList.take (xs.length * 2))[i * 2 + 1]? = (cellsP xs)[i * 2 + 1]? := by rw [ht]
      rw [List.getElem?_take_of_lt (by omega)] at h3
      rw [← Array.getElem?_toList, h3, (cellsP_even xs i hi).2]
theorem Ow.keep {S : Nat → Prop} {w w' : World} {base : Nat} {e : TypeId} {v : Value} {xs : List Pr} (h : Ow w base e v xs) (hc : Ch S w w') (hs : ∀ k, base ≤ k → k < w.heap.size → ¬ S k) : Ow w' base e v xs := by
  refine ⟨h.1, ?_⟩
  rcases h.2 with h2 | ⟨g, cap, cur, hv, hb, hg, r⟩
  · exact .inl h2
  · have hlt := (Array.getElem?_eq_some_iff.1 hg).1
    exact .inr ⟨g, cap, cur, hv, hb, (hc.block g hlt (hs g hb hlt)).trans hg, r⟩
theorem Ow.nil (w : World) (base : Nat) (e : TypeId) : Ow w base e (.slice none 0 0) [] := World.ownsRow_nil _ _ _ _
theorem Ow.own {w : World} {base : Nat} {e : TypeId} {v : Value} {xs : List Pr} (h : Ow w base e v xs) (k : Nat) (hk : v.ownBlock = some k) : base ≤ k ∧ k < w.heap.size := by
  rcases h.2 with ⟨hv, _⟩ | ⟨g, cap, cur, hv, hb, hg, _⟩
  · rw [hv] at hk; cases hk
  · rw [hv] at hk; cases hk; exact ⟨hb, (Array.getElem?_eq_some_iff.1 hg).1⟩

theorem Try.info30 : (Try.prog.info? 30).map (fun i => (i.zero, i.size, i.bytes)) = some (some (.agg #[.string ByteArray.empty, .int .i64 0]), 2, 24) := by kernel_rfl
section
variable {w : World} {o : Oper} {a : Act} {Q : Exit → Act → World → Prop}
/-- append of one pair to a slice that the call made itself. -/
theorem wpList_pair {ops : Array Oper} {rest : List Oper} (hgd : o.guard = none) (s x : Operand) (t e : TypeId) (ho : o.op = .call { callee := .builtin .append, args := #[s, x], argTypes := #[t, t] })
    (ht : Try.prog.underlying t = some (.slice e)) (he : (Try.prog.info? e).map (fun i => (i.zero, i.size, i.bytes)) = some (some (.agg #[.string ByteArray.empty, .int .i64 0]), 2, 24))
    (base : Nat) (v : Value) (xs : List Pr) (hs : a.eval s = v) (hown : Ow w base e v xs) (g : Nat) (k : ByteArray) (z : Int)
    (hx : a.eval x = .slice (some ⟨g, 0, none⟩) 1 1) (hrow : w.heap[g]? = some (.cells #[.string k, .int .i64 z] e (0, 0))) (hlen : xs.length + 1 ≤ 100000000) (hbase : base ≤ w.heap.size)
    (h : ∀ v' w', Ow w' base e v' (xs ++ [(k, z)]) → Ch (fun j => base ≤ j) w w' → wpList Try.prog ops Q rest (a.put o.dst v') w') : wpList Try.prog ops Q (o :: rest) a w := by
  obtain ⟨i0, hi, hz0, hz1, hz2⟩ := info_parts he
  refine wpList_append_own _ hgd s x t ho base e i0 _ 2 24 ht hi hz0 hz1 hz2 rfl (by decide) v xs.length (cellsP xs) hs hown ⟨g, 0, none⟩ 1 1 [.string k, .int .i64 z] hx (by simp) ?_ ?_ (by unfold maxLen; omega) (by omega) hbase ?_
  · intro j y hj
    have e : (⟨g, 0, none⟩ : Addr).add j = ⟨g, j, none⟩ := by unfold Addr.add; split <;> simp_all
    rw [e, cell_of_row _ _ _ _ _ _ hrow]
    simpa using hj
  · intro y hy
    simp only [List.mem_cons, List.not_mem_nil, or_false] at hy
    rcases hy with rfl | rfl <;> rfl
  · intro v' w' h1 h2 _
    refine h v' w' ?_ (Ch.of_grown h2 fun k hk => (hown.own k hk).1)
    unfold Ow
    rw [cellsP_append, List.length_append]
    exact h1
/-- The same, in a round. -/
theorem wpListIn_pair {F : Fence} {n : Nat} {ops : Array Oper} {rest : List Oper} (hgd : o.guard = none) (s x : Operand) (t e : TypeId) (ho : o.op = .call { callee := .builtin .append, args := #[s, x], argTypes := #[t, t] })
    (ht : Try.prog.underlying t = some (.slice e)) (he : (Try.prog.info? e).map (fun i => (i.zero, i.size, i.bytes)) = some (some (.agg #[.string ByteArray.empty, .int .i64 0]), 2, 24))
    (base : Nat) (v : Value) (xs : List Pr) (hs : a.eval s = v) (hown : Ow w base e v xs) (g : Nat) (k : ByteArray) (z : Int)
    (hx : a.eval x = .slice (some ⟨g, 0, none⟩) 1 1) (hrow : w.heap[g]? = some (.cells #[.string k, .int .i64 z] e (0, 0))) (hlen : xs.length + 1 ≤ 100000000) (hbase : base ≤ w.heap.size)
    (h : ∀ v' w', Ow w' base e v' (xs ++ [(k, z)]) → Ch (fun j => v.ownBlock = some j) w w' → wpListIn F n Try.prog ops Q rest (a.put o.dst v') w') : wpListIn F n Try.prog ops Q (o :: rest) a w := by
  obtain ⟨i0, hi, hz0, hz1, hz2⟩ := info_parts he
  refine wpListIn_append_own _ hgd s x t ho base e i0 _ 2 24 ht hi hz0 hz1 hz2 rfl (by decide) v xs.length (cellsP xs) hs hown ⟨g, 0, none⟩ 1 1 [.string k, .int .i64 z] hx (by simp) ?_ ?_ (by unfold maxLen; omega) (by omega) hbase ?_
  · intro j y hj
    have e : (⟨g, 0, none⟩ : Addr).add j = ⟨g, j, none⟩ := by unfold Addr.add; split <;> simp_all
    rw [e, cell_of_row _ _ _ _ _ _ hrow]
    simpa using hj
  · intro y hy
    simp only [List.mem_cons, List.not_mem_nil, or_false] at hy
    rcases hy with rfl | rfl <;> rfl
  · intro v' w' h1 h2 _
    refine h v' w' ?_ (Ch.of_grown h2 fun k hk => hk)
    unfold Ow
    rw [cellsP_append, List.length_append]
    exact h1
end
theorem take_succ_pr (xs : List Pr) (i : Nat) (h : i < xs.length) : xs.take (i + 1) = xs.take i ++ [(ky xs i, vl xs i)] := by
  rw [List.take_succ_eq_append_getElem h]
  unfold ky vl
  rw [List.getD_eq_getElem?_getD, List.getElem?_eq_getElem h]
  rfl

set_option maxRecDepth 100000 in
set_option maxHeartbeats 400000 in
theorem pairs_any (a : Option Addr) (cap : Nat) (xs : List Pr) (hn : xs.length ≤ 1000) (w : World) (hr : Rd w a xs) :
    Calls Try.prog 11 #[.slice a xs.length cap] w fun e w' => ∃ v, e = .returned v ∧ Ow w' w.heap.size 55 v xs ∧ Ch (fun _ => False) w w' := by
  go_enter Try.func11, Try.ntmps11
  go_wp2
  go_loopw [3, 8] (fun v i wr => ∃ (ii : Nat), i = .int .i64 (ii : Int) ∧ ii ≤ xs.length ∧ Ow wr w.heap.size 55 v (xs.take ii) ∧ Ch (fun _ => False) w wr) (fun _ i _ => xs.length - (intOf i).toNat)
  case atStart => exact ⟨0, rfl, Nat.zero_le _, Ow.nil _ _ _, Ch.refl _ _⟩
  case round =>
    obtain ⟨ii, rfl, hi, hown, hch⟩ := hrel
    by_cases hlt : ii < xs.length
    · have hlt' : (ii : Int) < (xs.length : Int) := by omega
      have hi0 : (0 : Int) ≤ (ii : Int) := by omega
      obtain ⟨b, off, rfl, hc1, hc2⟩ := (hr.keep hch (fun _ _ => id)) ii hlt
      have HT := Lib.hid (take_succ_pr xs ii hlt)
      have hz := hch.size
      generalize ky xs ii = kk at hc1 HT
      generalize vl xs ii = vv at hc2 HT
      have h2 : Ow ((wr.alloc (.cells #[.string kk, .int .i64 vv] 30)).alloc (.cells #[.string kk, .int .i64 vv] 55)) w.heap.size 55 u3 (xs.take ii) := hown.keep ((Ch.alloc (fun _ => False) _ _).tr (Ch.alloc _ _ _)) (fun _ _ _ => id)
      go_wp2_with (at_builtin; refine wpList_pair rfl (.tmp 12) (.tmp 18) 27 55 rfl Try.underlying27 Try.info55 w.heap.size u3 (xs.take ii) rfl h2 _ kk vv rfl ?_ (by simp; omega) (by simp; omega) ?_; (have := heap_alloc_new (wr.alloc (.cells #[.string kk, .int .i64 vv] 30)) (.cells #[.string kk, .int .i64 vv] 55); simpa using this); intro v' w3 hown3 hc3)
      have hch3 : Ch (fun _ => False) w w3 := ((hch.tr (Ch.alloc _ _ _)).tr (Ch.alloc _ _ _)).trans hc3 (fun j hj h => by omega)
      clear hown h2 hc1 hc2 hc3 hch
      go_wp2
      go_roundw
      case rel => exact ⟨ii + 1, by go_num, by omega, by rw [HT.out]; exact hown3, hch3⟩
      case measure => simp [intOf]; omega
    · have hlt' : (xs.length : Int) ≤ (ii : Int) := by omega
      have hx : xs.take ii = xs := List.take_of_length_le (by omega)
      rw [hx] at hown
      clear hx
      go_wp2
      go_ret
      exact ⟨_, rfl, hown, hch⟩
end Go.Proofs.Ytlgamaldngkdnaa
