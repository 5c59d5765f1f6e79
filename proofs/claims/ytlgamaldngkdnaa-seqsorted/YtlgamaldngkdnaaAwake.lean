/- Walk of awake. -/
import Derived.Test.YtlgamaldngkdnaaSort2
namespace Go.Proofs.Ytlgamaldngkdnaa
open Go Go.RowKit

set_option maxRecDepth 100000 in
set_option maxHeartbeats 400000 in
theorem stable2 (g cap : Nat) (s t : ByteArray) (w : World) (h : D4 w g 2 s 1 t) :
    Calls Try.prog 51 #[.slice (some ⟨g, 0, none⟩) 2 cap, .int .i64 2, .func (.func 45) #[] #[]] w fun e w' => e = .returned (.tuple #[]) ∧ D4 w' g 1 t 2 s ∧ Ch (fun k => k = g) w w' := by
  go_enter Try.func51, Try.ntmps51
  go_wp2
  go_loopw [7, 8] (fun a b wr => a = .int .i64 0 ∧ b = .int .i64 20 ∧ Hid (wr = w)) (fun _ _ _ => 0)
  case atStart => exact ⟨rfl, rfl, Lib.hid rfl⟩
  case round =>
    obtain ⟨rfl, rfl, hw⟩ := hrel
    have hw' := hw.out
    subst hw'
    clear hw
    go_wp2_with fail
    refine (ins2 g cap s t wr h).mono ?_
    rintro e w1 ⟨rfl, h1, hc1⟩
    clear h
    go_wp2_with fail
    go_loopw [6] (fun b w2 => b = .int .i64 20 ∧ D4 w2 g 1 t 2 s ∧ Ch (fun k => k = g) wr w2) (fun _ _ => 0)
    case atStart => exact ⟨rfl, h1, hc1⟩
    case round =>
      clear h1 hc1
      obtain ⟨rfl, h1, hc1⟩ := hrel
      go_wp2
      go_end0
      exact ⟨rfl, h1, hc1⟩
set_option maxHeartbeats 400000 in
theorem sortStable2 (g cap : Nat) (s t : ByteArray) (w : World) (h : D4 w g 2 s 1 t) :
    Calls Try.prog 44 #[.slice (some ⟨g, 0, none⟩) 2 cap, .func (.func 45) #[] #[]] w fun e w' => e = .returned (.tuple #[]) ∧ D4 w' g 1 t 2 s ∧ Ch (fun k => k = g) w w' := by
  go_enter Try.func44, Try.ntmps44
  go_wp2_with fail
  refine (stable2 g cap s t w h).mono ?_
  rintro e w1 ⟨rfl, h1, hc1⟩
  go_wp2
  go_end0
  exact ⟨rfl, h1, hc1⟩
theorem Try.info59 : (Try.prog.info? 59).map (fun i => (i.zero, i.size, i.bytes)) = some (some (.agg #[.int .i64 0, .string ByteArray.empty]), 2, 24) := by kernel_rfl
theorem eql_nil56 (a : Option Addr) (l c : Nat) (w : World) : (binOp .eql 56 (.slice a l c) (.slice none 0 0)).run Try.prog w = .ok (.bool a.isNone) w := by
  simp only [binOp]
  simp [run_equal_slice_nil w 56 59 a l c Try.underlying56]
theorem D4.of_own {w : World} {base : Nat} {v : Value} {a b : Int} {s t : ByteArray} (h : w.ownsRow base 59 2 v 2 [.int .i64 a, .string s, .int .i64 b, .string t]) : ∃ g cap, v = .slice (some ⟨g, 0, none⟩) 2 cap ∧ base ≤ g ∧ D4 w g a s b t := by
  rcases h.2 with ⟨_, h0⟩ | ⟨g, cap, cur, hv, hb, hg, hnc, hcm, hcs, ht⟩
  · cases h0
  · have hc : ∀ j, j < 4 → w.cell? ⟨g, j, none⟩ = [Value.int .i64 a, .string s, .int .i64 b, .string t][j]? := fun j hj => by
      rw [cell_of_row _ _ _ _ _ _ hg, ← Array.getElem?_toList, ← ht, List.getElem?_take_of_lt (by omega)]
    exact ⟨g, cap, hv, hb, ⟨hc 0 (by decide), hc 1 (by decide), hc 2 (by decide), hc 3 (by decide)⟩, frozen_of_row _ _ _ _ _ hg, frozen_of_row _ _ _ _ _ hg, frozen_of_row _ _ _ _ _ hg, frozen_of_row _ _ _ _ _ hg⟩
set_option maxRecDepth 100000 in
set_option maxHeartbeats 400000 in
theorem clone2 (g : Nat) (a b : Int) (s t : ByteArray) (w : World) (h : D4 w g a s b t) :
    Calls Try.prog 43 #[.slice (some ⟨g, 0, none⟩) 2 2] w fun e w' => ∃ g' cap, e = .returned (.slice (some ⟨g', 0, none⟩) 2 cap) ∧ w.heap.size ≤ g' ∧ D4 w' g' a s b t ∧ Ch (fun _ => False) w w' := by
  have hnil := eql_nil56
  obtain ⟨i0, hi, hz0, hz1, hz2⟩ := info_parts Try.info59
  have HI := Lib.hid (And.intro hi (And.intro hz0 (And.intro hz1 hz2)))
  have HD := Lib.hid h
  clear hi hz0 hz1 hz2 h
  go_enter Try.func43, Try.ntmps43
  go_wp2_with (at_builtin; refine wpList_append_own _ rfl (.tmp 5) (.tmp 6) 56 rfl w.heap.size 59 i0 _ 2 24 Try.underlying56 HI.out.1 HI.out.2.1 HI.out.2.2.1 HI.out.2.2.2 rfl (by decide) (.slice (some ⟨w.heap.size, 0, none⟩) 0 0) 0 [] rfl (World.ownsRow_made w #[] 0 (Nat.le_refl _) (by decide) rfl) ⟨g, 0, none⟩ 2 2 [.int .i64 a, .string s, .int .i64 b, .string t] rfl rfl ?c1 ?c2 ?c3 ?c4 ?c5 ?_)
  case c1 =>
    intro j y hj
    have e : (⟨g, 0, none⟩ : Addr).add j = ⟨g, j, none⟩ := by unfold Addr.add; split <;> simp_all
    have hd := HD.out.keep (Ch.alloc (fun _ => False) w (.cells #[] 59)) id
    obtain ⟨⟨c0, c1, c2, c3⟩, _⟩ := hd
    rw [e]
    match j, hj with
    | 0, hj => cases hj; exact c0
    | 1, hj => cases hj; exact c1
    | 2, hj => cases hj; exact c2
    | 3, hj => cases hj; exact c3
    | j + 4, hj => simp at hj
  case c2 =>
    intro y hy
    simp only [List.mem_cons, List.not_mem_nil, or_false] at hy
    rcases hy with rfl | rfl | rfl | rfl <;> rfl
  case c3 => decide
  case c4 => decide
  case c5 => simp
  intro v' w3 hown3 hgr3 _
  have hch3 : Ch (fun _ => False) w w3 := (Ch.alloc _ w _).trans (Ch.of_grown (S := fun k => w.heap.size ≤ k) hgr3 (fun k hk => by simp [Value.ownBlock] at hk; omega)) (fun j hj h => by omega)
  obtain ⟨g', cap, rfl, hg', hd'⟩ := D4.of_own hown3
  clear hown3 hgr3
  go_wp2
  go_ret
  exact ⟨g', cap, rfl, hg', hd', hch3⟩
section
variable {w : World} {o : Oper} {a : Act} {Q : Exit → Act → World → Prop}
/-- append of one pair of a number and a text. -/
theorem wpList_riap {ops : Array Oper} {rest : List Oper} (hgd : o.guard = none) (s x : Operand) (ho : o.op = .call { callee := .builtin .append, args := #[s, x], argTypes := #[56, 56] })
    (base : Nat) (v : Value) (n : Nat) (xs : List Value) (hs : a.eval s = v) (hown : w.ownsRow base 59 2 v n xs) (g : Nat) (z : Int) (k : ByteArray)
    (hx : a.eval x = .slice (some ⟨g, 0, none⟩) 1 1) (hrow : w.heap[g]? = some (.cells #[.int .i64 z, .string k] 59 (0, 0))) (hlen : n + 1 ≤ 100000000) (hbase : base ≤ w.heap.size)
    (h : ∀ v' w', w'.ownsRow base 59 2 v' (n + 1) (xs ++ [.int .i64 z, .string k]) → Ch (fun j => base ≤ j) w w' → wpList Try.prog ops Q rest (a.put o.dst v') w') : wpList Try.prog ops Q (o :: rest) a w := by
  obtain ⟨i0, hi, hz0, hz1, hz2⟩ := info_parts Try.info59
  refine wpList_append_own _ hgd s x 56 ho base 59 i0 _ 2 24 Try.underlying56 hi hz0 hz1 hz2 rfl (by decide) v n xs hs hown ⟨g, 0, none⟩ 1 1 [.int .i64 z, .string k] hx (by simp) ?_ ?_ (by unfold maxLen; omega) (by omega) hbase ?_
  · intro j y hj
    have e : (⟨g, 0, none⟩ : Addr).add j = ⟨g, j, none⟩ := by unfold Addr.add; split <;> simp_all
    rw [e, cell_of_row _ _ _ _ _ _ hrow]
    simpa using hj
  · intro y hy
    simp only [List.mem_cons, List.not_mem_nil, or_false] at hy
    rcases hy with rfl | rfl <;> rfl
  · intro v' w' h1 h2 _
    exact h v' w' h1 (Ch.of_grown h2 fun k hk => (hown.lt k hk).1)
end
set_option maxRecDepth 100000 in
set_option maxHeartbeats 1000000 in
/-- Sorted of (2 s), (1 t). -/
theorem sorted2 (g : Nat) (s t : ByteArray) (w : World) (h : D4 w g 2 s 1 t) :
    Calls Try.prog 30 #[.slice (some ⟨g, 0, none⟩) 2 2] w fun e w' => ∃ g' cap, e = .returned (.slice (some ⟨g', 0, none⟩) 2 cap) ∧ w.heap.size ≤ g' ∧ D4 w' g' 1 t 2 s ∧ Ch (fun _ => False) w w' := by
  go_enter Try.func30, Try.ntmps30
  go_wp2_with fail
  refine (clone2 g 2 1 s t w h).mono ?_
  rintro e w1 ⟨g1, c1, rfl, hg1, h1, hc1⟩
  clear h
  go_wp2_with fail
  refine (sortStable2 g1 c1 s t w1 h1).mono ?_
  rintro e w2 ⟨rfl, h2, hc2⟩
  clear h1
  have hcw : Ch (fun _ => False) w w2 := hc1.trans hc2 (fun j hj h => by omega)
  clear hc1 hc2
  have hgl := World.block_lt_of_cell? _ _ h2.1.1
  have hz := hcw.size
  obtain ⟨B, hB⟩ : ∃ B, B = w2.heap.size := ⟨_, rfl⟩
  rw [← hB] at hgl hz
  have hBz : B ≤ w2.heap.size := by omega
  clear hB
  go_wp2_with fail
  go_loopw [4, 13] (fun v i wr => ((i = .int .i64 0 ∧ wr.ownsRow B 59 2 v 0 []) ∨ (i = .int .i64 1 ∧ wr.ownsRow B 59 2 v 1 [.int .i64 1, .string t]) ∨ (i = .int .i64 2 ∧ wr.ownsRow B 59 2 v 2 [.int .i64 1, .string t, .int .i64 2, .string s])) ∧ D4 wr g1 1 t 2 s ∧ Ch (fun _ => False) w wr ∧ B ≤ wr.heap.size) (fun _ i _ => 2 - (intOf i).toNat)
  case atStart => exact ⟨.inl ⟨rfl, World.ownsRow_nil _ _ _ _⟩, h2, hcw, hBz⟩
  case round =>
    clear h2 hcw hBz
    obtain ⟨hown, h2, hcw, hBz⟩ := hrel
    have h2' := h2
    obtain ⟨⟨c0, c1, c2, c3⟩, _⟩ := h2'
    rcases hown with ⟨rfl, hown⟩ | ⟨rfl, hown⟩ | ⟨rfl, hown⟩
    · have hd1 := h2.keep (Ch.alloc (fun _ => False) wr (.cells #[.int .i64 1, .string t] 59)) id
      have hd1' := hd1
      obtain ⟨⟨d0, d1, d2, d3⟩, _⟩ := hd1'
      have ho2 : ∀ nq, ((wr.alloc (.cells #[.int .i64 1, .string t] 59)).drewN nq).ownsRow B 59 2 u4 0 [] := fun _ => hown.alloc (.cells #[.int .i64 1, .string t] 59)
      have hd2 : ∀ nq, D4 ((wr.alloc (.cells #[.int .i64 1, .string t] 59)).drewN nq) g1 1 t 2 s := fun _ => hd1
      have hc2 : ∀ nq, Ch (fun _ => False) w ((wr.alloc (.cells #[.int .i64 1, .string t] 59)).drewN nq) := fun nq => (hcw.tr (Ch.alloc _ wr _)).tr (Ch.drewN _ _ nq)
      have hh2 : ∀ nq, ((wr.alloc (.cells #[.int .i64 1, .string t] 59)).drewN nq).heap[wr.heap.size]? = some (.cells #[.int .i64 1, .string t] 59) := fun nq => World.alloc_heap_new wr _
      have hs2 : ∀ nq, B ≤ ((wr.alloc (.cells #[.int .i64 1, .string t] 59)).drewN nq).heap.size := fun nq => by show B ≤ (wr.alloc (.cells #[.int .i64 1, .string t] 59)).heap.size; simp; omega
      go_wp2_with fail
      go_quiet ((go_at_call 47; exact Calls.quiet_of_same (less_int _ _ _)))
      have ho3 := ho2 nq
      have hd3 := hd2 nq
      have hc3 := hc2 nq
      have hh3 := hh2 nq
      have hs3 := hs2 nq
      clear ho2 hd2 hc2 hh2 hs2 d0 d1 d2 d3 c0 c1 c2 c3 hown h2 hcw hBz hd1
      generalize (wr.alloc (.cells #[.int .i64 1, .string t] 59)).drewN nq = wy at ho3 hd3 hc3 hh3 hs3 ⊢
      generalize wr.heap.size = gp at hh3 ⊢
      have e0 : wy.cell? ⟨gp, 0, none⟩ = some (.int .i64 1) := by rw [cell_of_row _ _ _ _ _ _ hh3]; rfl
      have e1 : wy.cell? ⟨gp, 1, none⟩ = some (.string t) := by rw [cell_of_row _ _ _ _ _ _ hh3]; rfl
      go_wp2_with (at_builtin; refine wpList_riap rfl (.tmp 34) (.tmp 36) rfl B u4 0 [] rfl (ho3.alloc _) _ 1 t rfl (heap_alloc_new _ _) (by decide) (by simp; omega) ?_; intro v' w5 ho5 hc5)
      have hd5 : D4 w5 g1 1 t 2 s := (hd3.keep (Ch.alloc (fun _ => False) wy _) id).keep hc5 (by omega)
      have hcw5 : Ch (fun _ => False) w w5 := (hc3.tr (Ch.alloc _ wy _)).trans hc5 (fun j hj h => by omega)
      have hs5 : B ≤ w5.heap.size := by have := hc5.size; simp at this; omega
      clear ho3 hd3 hc3 hh3 hs3 e0 e1 hc5
      go_wp2
      go_roundw
      case rel => exact ⟨.inr <| .inl ⟨rfl, ho5⟩, hd5, hcw5, hs5⟩
      case measure => simp [intOf]
    · have hd1 := h2.keep (Ch.alloc (fun _ => False) wr (.cells #[.int .i64 2, .string s] 59)) id
      have hd1' := hd1
      obtain ⟨⟨d0, d1, d2, d3⟩, _⟩ := hd1'
      have ho2 : ∀ nq, ((wr.alloc (.cells #[.int .i64 2, .string s] 59)).drewN nq).ownsRow B 59 2 u4 1 [.int .i64 1, .string t] := fun _ => hown.alloc (.cells #[.int .i64 2, .string s] 59)
      have hd2 : ∀ nq, D4 ((wr.alloc (.cells #[.int .i64 2, .string s] 59)).drewN nq) g1 1 t 2 s := fun _ => hd1
      have hc2 : ∀ nq, Ch (fun _ => False) w ((wr.alloc (.cells #[.int .i64 2, .string s] 59)).drewN nq) := fun nq => (hcw.tr (Ch.alloc _ wr _)).tr (Ch.drewN _ _ nq)
      have hh2 : ∀ nq, ((wr.alloc (.cells #[.int .i64 2, .string s] 59)).drewN nq).heap[wr.heap.size]? = some (.cells #[.int .i64 2, .string s] 59) := fun nq => World.alloc_heap_new wr _
      have hs2 : ∀ nq, B ≤ ((wr.alloc (.cells #[.int .i64 2, .string s] 59)).drewN nq).heap.size := fun nq => by show B ≤ (wr.alloc (.cells #[.int .i64 2, .string s] 59)).heap.size; simp; omega
      go_wp2_with fail
      go_quiet ((go_at_call 47; exact Calls.quiet_of_same (less_int _ _ _)))
      have ho3 := ho2 nq
      have hd3 := hd2 nq
      have hc3 := hc2 nq
      have hh3 := hh2 nq
      have hs3 := hs2 nq
      clear ho2 hd2 hc2 hh2 hs2 d0 d1 d2 d3 c0 c1 c2 c3 hown h2 hcw hBz hd1
      generalize (wr.alloc (.cells #[.int .i64 2, .string s] 59)).drewN nq = wy at ho3 hd3 hc3 hh3 hs3 ⊢
      generalize wr.heap.size = gp at hh3 ⊢
      have e0 : wy.cell? ⟨gp, 0, none⟩ = some (.int .i64 2) := by rw [cell_of_row _ _ _ _ _ _ hh3]; rfl
      have e1 : wy.cell? ⟨gp, 1, none⟩ = some (.string s) := by rw [cell_of_row _ _ _ _ _ _ hh3]; rfl
      go_wp2_with (at_builtin; refine wpList_riap rfl (.tmp 34) (.tmp 36) rfl B u4 1 [.int .i64 1, .string t] rfl (ho3.alloc _) _ 2 s rfl (heap_alloc_new _ _) (by decide) (by simp; omega) ?_; intro v' w5 ho5 hc5)
      have hd5 : D4 w5 g1 1 t 2 s := (hd3.keep (Ch.alloc (fun _ => False) wy _) id).keep hc5 (by omega)
      have hcw5 : Ch (fun _ => False) w w5 := (hc3.tr (Ch.alloc _ wy _)).trans hc5 (fun j hj h => by omega)
      have hs5 : B ≤ w5.heap.size := by have := hc5.size; simp at this; omega
      clear ho3 hd3 hc3 hh3 hs3 e0 e1 hc5
      go_wp2
      go_roundw
      case rel => exact ⟨.inr <| .inr ⟨rfl, ho5⟩, hd5, hcw5, hs5⟩
      case measure => simp [intOf]
    · obtain ⟨g', cap, rfl, hg', hd'⟩ := D4.of_own hown
      go_wp2
      go_ret
      exact ⟨g', cap, rfl, by omega, hd', hcw⟩
end Go.Proofs.Ytlgamaldngkdnaa
