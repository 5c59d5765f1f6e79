/- The walks of both Ends, of ended, few and same. -/
import Derived.Test.YtfjlkphpeneahaaDoorM12
import Derived.Test.YtfjlkphpeneahaaDoorTxt
import Derived.Test.YtfjlkphpeneahaaDoorRPrint
namespace Go.Proofs.YtfjlkphpeneahaaDoor
open Go Go.RowKit

theorem print_txt (s : List UInt8) (hs : s.length ≤ 100000) (w : World) (hK : S1.KR w) : Calls Tryd.prog 28 #[.string (txt s)] w fun e w' => e = .returned (.string (txt (sha s))) ∧ Below w.heap.size w w' := S1.print_any (txt s) (by rw [txt_size]; omega) w hK
theorem rprint_txt (s : List UInt8) (hs : s.length ≤ 100000) (w : World) : Calls Tryd.prog 33 #[.string (txt s)] w fun e w' => e = .returned (.string (txt (sha s))) ∧ Below w.heap.size w w' := S1.rprint_any (txt s) (by rw [txt_size]; omega) w
theorem run_index (s : ByteArray) (k : IntKind) (i : Int) (n : Nat) (hi : i = (n : Int)) (b : UInt8) (h : s[n]? = some b) (w : World) :
    (Instr.index 9 (.string s) (.int k i)).run Tryd.prog w = .ok (.int .u8 (b.toNat : Int)) w := by
  subst hi
  simp only [Instr.index, asIntOf, Sem.run_bind, Sem.run_pure, Result.andThen_ok, run_underlying Tryd.underlying9]
  rw [if_pos (Int.natCast_nonneg n), Int.toNat_natCast, h]
  rfl
theorem sha_at (x : List UInt8) : (txt (sha x))[0]? = some ((sha x).getD 0 0) := by
  have h : 0 < (txt (sha x)).size := by rw [txt_size, sha_len]; decide
  rw [getElem?_pos (txt (sha x)) 0 h, List.getD_eq_getElem?_getD, List.getElem?_eq_getElem (by rw [sha_len]; decide)]
  rfl
set_option maxRecDepth 100000 in
set_option maxHeartbeats 1000000 in
theorem ends_any (x : List UInt8) (hx : x.length ≤ 100000) (w : World) (hK : S1.KR w) : Calls Tryd.prog 101 #[.string (txt x)] w fun e w' => e = .returned (.bool (E x)) ∧ Below w.heap.size w w' := by
  have P := Lib.hid (print_txt x hx w hK)
  have r0 := run_index (txt (sha x)) .i64 0 0 rfl _ (sha_at x)
  unfold E
  generalize (sha x).getD 0 0 = b at *
  generalize txt (sha x) = t at *
  by_cases h : b.toNat < 64
  · have h' : (b.toNat : Int) < 64 := by omega
    rw [decide_eq_true h]
    clear h
    go_enter Tryd.func101, Tryd.ntmps101
    go_wp2_with (go_at_call 28; (with_reducible refine P.out.mono ?_); rintro e w1 ⟨rfl, hb1⟩)
    go_ret
    exact ⟨by simp, hb1⟩
  · have h' : (64 : Int) ≤ (b.toNat : Int) := by omega
    rw [decide_eq_false h]
    clear h
    go_enter Tryd.func101, Tryd.ntmps101
    go_wp2_with (go_at_call 28; (with_reducible refine P.out.mono ?_); rintro e w1 ⟨rfl, hb1⟩)
    go_ret
    exact ⟨by simp [h'], hb1⟩
set_option maxRecDepth 100000 in
set_option maxHeartbeats 1000000 in
theorem rends_any (x : List UInt8) (hx : x.length ≤ 100000) (w : World) : Calls Tryd.prog 66 #[.string (txt x)] w fun e w' => e = .returned (.bool (E x)) ∧ Below w.heap.size w w' := by
  have P := Lib.hid (rprint_txt x hx w)
  have r0 := run_index (txt (sha x)) .i64 0 0 rfl _ (sha_at x)
  unfold E
  generalize (sha x).getD 0 0 = b at *
  generalize txt (sha x) = t at *
  by_cases h : b.toNat < 64
  · have h' : (b.toNat : Int) < 64 := by omega
    rw [decide_eq_true h]
    clear h
    go_enter Tryd.func66, Tryd.ntmps66
    go_wp2_with (go_at_call 33; (with_reducible refine P.out.mono ?_); rintro e w1 ⟨rfl, hb1⟩)
    go_ret
    exact ⟨by simp, hb1⟩
  · have h' : (64 : Int) ≤ (b.toNat : Int) := by omega
    rw [decide_eq_false h]
    clear h
    go_enter Tryd.func66, Tryd.ntmps66
    go_wp2_with (go_at_call 33; (with_reducible refine P.out.mono ?_); rintro e w1 ⟨rfl, hb1⟩)
    go_ret
    exact ⟨by simp [h'], hb1⟩
/-- Does a part of n items end behind this one? -/
def endB (n : Nat) (x : List UInt8) : Bool := decide (16 ≤ n ∨ (2 ≤ n ∧ E x = true))
set_option maxRecDepth 100000 in
set_option maxHeartbeats 1000000 in
theorem ended_any (n : Nat) (hn : n ≤ 1000) (x : List UInt8) (hx : x.length ≤ 100000) (w : World) (hK : S1.KR w) : Calls Tryd.prog 89 #[.int .i64 (n : Int), .string (txt x)] w fun e w' => e = .returned (.bool (endB n x)) ∧ Below w.heap.size w w' := by
  have P := Lib.hid (ends_any x hx w hK)
  unfold endB
  by_cases h1 : 16 ≤ n
  · have h1' : (16 : Int) ≤ (n : Int) := by omega
    rw [decide_eq_true (.inl h1)]
    clear h1 P
    go_enter Tryd.func89, Tryd.ntmps89
    go_wp2
    go_ret
    exact ⟨rfl, Below.refl _ _⟩
  have h1' : (n : Int) < 16 := by omega
  have hd : decide ((16 : Int) ≤ (n : Int)) = false := decide_eq_false (by omega)
  by_cases h2 : 2 ≤ n
  · have h2' : (2 : Int) ≤ (n : Int) := by omega
    have e : decide (16 ≤ n ∨ (2 ≤ n ∧ E x = true)) = E x := by
      cases hE : E x with
      | true => exact decide_eq_true (.inr ⟨h2, rfl⟩)
      | false => exact decide_eq_false (fun h => by rcases h with h | ⟨_, h⟩; exact h1 h; cases h)
    rw [e]
    clear h1 h2 e
    generalize E x = b at *
    go_enter Tryd.func89, Tryd.ntmps89
    go_wp2_with (go_at_call 101; (with_reducible refine P.out.mono ?_); rintro e w1 ⟨rfl, hb1⟩)
    go_ret
    exact ⟨rfl, hb1⟩
  · have h2' : (n : Int) < 2 := by omega
    rw [decide_eq_false (fun h => by rcases h with h | ⟨h, _⟩; exact h1 h; exact h2 h)]
    clear h1 h2 P
    go_enter Tryd.func89, Tryd.ntmps89
    go_wp2
    go_ret
    exact ⟨rfl, Below.refl _ _⟩
/-- All bytes of a list. -/
def tot (xs : List (List UInt8)) : Nat := (xs.map List.length).sum
theorem tot_take {xs : List (List UInt8)} {i : Nat} (h : i < xs.length) : tot (xs.take (i + 1)) = tot (xs.take i) + xs[i].length := by
  unfold tot; rw [List.take_succ_eq_append_getElem h, List.map_append, List.sum_append]; simp
theorem tot_le : ∀ (xs : List (List UInt8)) (i : Nat), tot (xs.take i) ≤ tot xs
  | [], i => by simp [tot]
  | x :: xs, 0 => by simp [tot]
  | x :: xs, i + 1 => by have := tot_le xs i; unfold tot at this ⊢; simp only [List.take_succ_cons, List.map_cons, List.sum_cons]; omega
theorem len_tot {xs : List (List UInt8)} {x : List UInt8} (h : x ∈ xs) : x.length ≤ tot xs := by
  induction xs with
  | nil => cases h
  | cons y ys ih =>
    unfold tot at ih ⊢
    rw [List.map_cons, List.sum_cons]
    rcases List.mem_cons.1 h with rfl | h
    · omega
    · have := ih h; omega
end Go.Proofs.YtfjlkphpeneahaaDoor
