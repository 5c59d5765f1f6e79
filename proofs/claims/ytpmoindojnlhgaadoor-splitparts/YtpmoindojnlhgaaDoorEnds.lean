/- The walks of both Ends, of ended, few and same. -/
import Derived.Test.YtpmoindojnlhgaaDoorTxt
import Derived.Test.YtpmoindojnlhgaaDoorCutL
import Derived.Test.YtpmoindojnlhgaaDoorRPrint
namespace Go.Proofs.YtpmoindojnlhgaaDoor
open Go Go.RowKit

abbrev sha : List UInt8 → List UInt8 := S1.shaL
theorem sha_len (x : List UInt8) : (sha x).length = 32 := rfl
/-- Does an item end a part? -/
def E (x : List UInt8) : Bool := decide (((sha x).getD 0 0).toNat < 64)
theorem print_txt (s : List UInt8) (hs : s.length ≤ 100000) (w : World) (hK : S1.KR w) : Calls Tryd.prog 13 #[.string (txt s)] w fun e w' => e = .returned (.string (txt (sha s))) ∧ Below w.heap.size w w' := S1.print_any (txt s) (by rw [txt_size]; omega) w hK
theorem rprint_txt (s : List UInt8) (hs : s.length ≤ 100000) (w : World) : Calls Tryd.prog 14 #[.string (txt s)] w fun e w' => e = .returned (.string (txt (sha s))) ∧ Below w.heap.size w w' := S1.rprint_any (txt s) (by rw [txt_size]; omega) w
theorem run_index (s : ByteArray) (k : IntKind) (i : Int) (n : Nat) (hi : i = (n : Int)) (b : UInt8) (h : s[n]? = some b) (w : World) :
    (Instr.index 9 (.string s) (.int k i)).run Tryd.prog w = .ok (.int .u8 (b.toNat : Int)) w := by
  subst hi
  simp only [Instr.index, asIntOf, Sem.run_bind, Sem.run_pure, Result.andThen_ok, run_underlying Tryd.underlying9]
  rw [if_pos (Int.natCast_nonneg n), Int.toNat_natCast, h]
  rfl
theorem sha_at (x : List UInt8) : (txt (sha x))[0]? = some ((sha x).getD 0 0) := by
  have h : 0 < (txt (sha x)).size := by rw [txt_size, sha_len]; decide
  rw [getElem?_pos (txt (sha x)) 0 h, List.getD_eq_getElem?_getD, List.getElem?_eq_getElem (by rw [sha_len]; decide)]
  rfl
set_option maxRecDepth 100000 in
set_option maxHeartbeats 1000000 in
theorem ends_any (x : List UInt8) (hx : x.length ≤ 100000) (w : World) (hK : S1.KR w) : Calls Tryd.prog 8 #[.string (txt x)] w fun e w' => e = .returned (.bool (E x)) ∧ Below w.heap.size w w' := by
  have P := Lib.hid (print_txt x hx w hK)
  have r0 := run_index (txt (sha x)) .i64 0 0 rfl _ (sha_at x)
  unfold E
  generalize (sha x).getD 0 0 = b at *
  generalize txt (sha x) = t at *
  by_cases h : b.toNat < 64
  · have h' : (b.toNat : Int) < 64 := by omega
    rw [decide_eq_true h]
    clear h
    go_enter Tryd.func8, Tryd.ntmps8
    go_wp2_with (go_at_call 13; (with_reducible refine P.out.mono ?_); rintro e w1 ⟨rfl, hb1⟩)
    go_ret
    exact ⟨by simp, hb1⟩
  · have h' : (64 : Int) ≤ (b.toNat : Int) := by omega
    rw [decide_eq_false h]
    clear h
    go_enter Tryd.func8, Tryd.ntmps8
    go_wp2_with (go_at_call 13; (with_reducible refine P.out.mono ?_); rintro e w1 ⟨rfl, hb1⟩)
    go_ret
    exact ⟨by simp [h'], hb1⟩
set_option maxRecDepth 100000 in
set_option maxHeartbeats 1000000 in
theorem rends_any (x : List UInt8) (hx : x.length ≤ 100000) (w : World) : Calls Tryd.prog 9 #[.string (txt x)] w fun e w' => e = .returned (.bool (E x)) ∧ Below w.heap.size w w' := by
  have P := Lib.hid (rprint_txt x hx w)
  have r0 := run_index (txt (sha x)) .i64 0 0 rfl _ (sha_at x)
  unfold E
  generalize (sha x).getD 0 0 = b at *
  generalize txt (sha x) = t at *
  by_cases h : b.toNat < 64
  · have h' : (b.toNat : Int) < 64 := by omega
    rw [decide_eq_true h]
    clear h
    go_enter Tryd.func9, Tryd.ntmps9
    go_wp2_with (go_at_call 14; (with_reducible refine P.out.mono ?_); rintro e w1 ⟨rfl, hb1⟩)
    go_ret
    exact ⟨by simp, hb1⟩
  · have h' : (64 : Int) ≤ (b.toNat : Int) := by omega
    rw [decide_eq_false h]
    clear h
    go_enter Tryd.func9, Tryd.ntmps9
    go_wp2_with (go_at_call 14; (with_reducible refine P.out.mono ?_); rintro e w1 ⟨rfl, hb1⟩)
    go_ret
    exact ⟨by simp [h'], hb1⟩
/-- Does a part of n items end behind this one? -/
def endB (n : Nat) (x : List UInt8) : Bool := decide (16 ≤ n ∨ (2 ≤ n ∧ E x = true))
set_option maxRecDepth 100000 in
set_option maxHeartbeats 1000000 in
theorem ended_any (n : Nat) (hn : n ≤ 1000) (x : List UInt8) (hx : x.length ≤ 100000) (w : World) (hK : S1.KR w) : Calls Tryd.prog 15 #[.int .i64 (n : Int), .string (txt x)] w fun e w' => e = .returned (.bool (endB n x)) ∧ Below w.heap.size w w' := by
  have P := Lib.hid (ends_any x hx w hK)
  unfold endB
  by_cases h1 : 16 ≤ n
  · have h1' : (16 : Int) ≤ (n : Int) := by omega
    rw [decide_eq_true (.inl h1)]
    clear h1 P
    go_enter Tryd.func15, Tryd.ntmps15
    go_wp2
    go_ret
    exact ⟨rfl, Below.refl _ _⟩
  have h1' : (n : Int) < 16 := by omega
  have hd : decide ((16 : Int) ≤ (n : Int)) = false := decide_eq_false (by omega)
  by_cases h2 : 2 ≤ n
  · have h2' : (2 : Int) ≤ (n : Int) := by omega
    have e : decide (16 ≤ n ∨ (2 ≤ n ∧ E x = true)) = E x := by
      cases hE : E x with
      | true => exact decide_eq_true (.inr ⟨h2, rfl⟩)
      | false => exact decide_eq_false (fun h => by rcases h with h | ⟨_, h⟩; exact h1 h; cases h)
    rw [e]
    clear h1 h2 e
    generalize E x = b at *
    go_enter Tryd.func15, Tryd.ntmps15
    go_wp2_with (go_at_call 8; (with_reducible refine P.out.mono ?_); rintro e w1 ⟨rfl, hb1⟩)
    go_ret
    exact ⟨rfl, hb1⟩
  · have h2' : (n : Int) < 2 := by omega
    rw [decide_eq_false (fun h => by rcases h with h | ⟨h, _⟩; exact h1 h; exact h2 h)]
    clear h1 h2 P
    go_enter Tryd.func15, Tryd.ntmps15
    go_wp2
    go_ret
    exact ⟨rfl, Below.refl _ _⟩
set_option maxRecDepth 100000 in
set_option maxHeartbeats 2000000 in
theorem same_any {w : World} {a b : Option Addr} {c d : Nat} {xs ys : List Nat} (hR : RdN w a xs) (hS : RdN w b ys) (hx : xs.length ≤ 100000) (hy : ys.length ≤ 100000) :
    Calls Tryd.prog 10 #[.slice a xs.length c, .slice b ys.length d] w fun e w' => e = .returned (.bool (decide (xs = ys))) ∧ w' = w := by
  have hx' : (xs.length : Int) ≤ 100000 := by omega
  have hy' : (ys.length : Int) ≤ 100000 := by omega
  by_cases hl : xs.length = ys.length
  · have HR := Lib.hid (And.intro hR hS)
    clear hR hS
    rw [← hl]
    have HL := Lib.hid hl
    clear hl hy hy'
    go_enter Tryd.func10, Tryd.ntmps10
    go_wp2
    go_loopw [5, 6, 14] (fun _ _ i wr => ∃ ii : Nat, i = .int .i64 (ii : Int) ∧ ii ≤ xs.length ∧ Hid (∀ j, j < ii → xs.getD j 0 = ys.getD j 0) ∧ wr = w) (fun _ _ i _ => xs.length - (intOf i).toNat)
    case atStart => exact ⟨0, rfl, Nat.zero_le _, Lib.hid (fun j hj => by omega), rfl⟩
    case round =>
      obtain ⟨ii, rfl, hi, HX, hw⟩ := hrel
      subst hw
      by_cases hlt : ii < xs.length
      · have hlt' : (ii : Int) < (xs.length : Int) := by omega
        have hi0 : (0 : Int) ≤ (ii : Int) := by omega
        obtain ⟨b1, off1, rfl, hc1⟩ := HR.out.1 ii hlt
        obtain ⟨b2, off2, rfl, hc2⟩ := HR.out.2 ii (by have := HL.out; omega)
        by_cases he : xs.getD ii 0 = ys.getD ii 0
        · have HX2 : Hid (∀ j, j < ii + 1 → xs.getD j 0 = ys.getD j 0) := Lib.hid fun j hj => by
            by_cases e : j = ii
            · rw [e]; exact he
            · exact HX.out j (by omega)
          rw [← he] at hc2
          clear he
          generalize xs.getD ii 0 = v at hc1 hc2
          go_wp2
          go_roundw
          case rel => exact ⟨ii + 1, by go_num, by omega, HX2, trivial⟩
          case measure => simp [intOf]; omega
        · have HN : Hid (decide (xs = ys) = false) := Lib.hid (decide_eq_false fun e => he (by rw [e]))
          generalize xs.getD ii 0 = v at hc1 he
          generalize ys.getD ii 0 = u at hc2 he
          have hne : (((v : Nat) : Int) != ((u : Nat) : Int)) = true := by simp; omega
          have hne2 : ¬ ((v : Nat) : Int) = ((u : Nat) : Int) := by omega
          clear he
          go_wp2
          go_ret
          rw [HN.out]
          exact ⟨rfl, rfl⟩
      · have hlt' : (xs.length : Int) ≤ (ii : Int) := by omega
        have e : ii = xs.length := by omega
        have HN : Hid (decide (xs = ys) = true) := Lib.hid (decide_eq_true (List.ext_getElem HL.out fun j h1 h2 => by
          have := HX.out j (by omega)
          rwa [List.getD_eq_getElem?_getD, List.getD_eq_getElem?_getD, List.getElem?_eq_getElem h1, List.getElem?_eq_getElem h2] at this))
        go_wp2
        go_ret
        rw [HN.out]
        exact ⟨rfl, rfl⟩
  · rw [decide_eq_false fun e => hl (by rw [e])]
    have hne : (((xs.length : Nat) : Int) != ((ys.length : Nat) : Int)) = true := by simp; omega
    have hne2 : ¬ ((xs.length : Nat) : Int) = ((ys.length : Nat) : Int) := by omega
    clear hl
    go_enter Tryd.func10, Tryd.ntmps10
    go_wp2
    go_ret
    exact ⟨rfl, rfl⟩
/-- All bytes of a list. -/
def tot (xs : List (List UInt8)) : Nat := (xs.map List.length).sum
theorem tot_take {xs : List (List UInt8)} {i : Nat} (h : i < xs.length) : tot (xs.take (i + 1)) = tot (xs.take i) + xs[i].length := by
  unfold tot; rw [List.take_succ_eq_append_getElem h, List.map_append, List.sum_append]; simp
theorem tot_le : ∀ (xs : List (List UInt8)) (i : Nat), tot (xs.take i) ≤ tot xs
  | [], i => by simp [tot]
  | x :: xs, 0 => by simp [tot]
  | x :: xs, i + 1 => by have := tot_le xs i; unfold tot at this ⊢; simp only [List.take_succ_cons, List.map_cons, List.sum_cons]; omega
theorem len_tot {xs : List (List UInt8)} {x : List UInt8} (h : x ∈ xs) : x.length ≤ tot xs := by
  induction xs with
  | nil => cases h
  | cons y ys ih =>
    unfold tot at ih ⊢
    rw [List.map_cons, List.sum_cons]
    rcases List.mem_cons.1 h with rfl | h
    · omega
    · have := ih h; omega
/-- Up to 200 items of up to 5000 bytes. -/
def Few (xs : List (List UInt8)) : Prop := xs.length ≤ 200 ∧ tot xs ≤ 5000
instance (xs : List (List UInt8)) : Decidable (Few xs) := by unfold Few; infer_instance
set_option maxRecDepth 100000 in
set_option maxHeartbeats 2000000 in
theorem few_any {w : World} {a : Option Addr} {c : Nat} {xs : List (List UInt8)} (hR : RdT w a xs) (hx : ∀ x ∈ xs, x.length ≤ 140737488355328) (hl : xs.length ≤ maxLen) :
    Calls Tryd.prog 7 #[.slice a xs.length c] w fun e w' => e = .returned (.bool (decide (Few xs))) ∧ w' = w := by
  unfold maxLen at hl
  by_cases h1 : 200 < xs.length
  · have h1' : (200 : Int) < (xs.length : Int) := by omega
    rw [decide_eq_false (fun h : Few xs => by have := h.1; omega)]
    clear hR hx h1 hl
    go_enter Tryd.func7, Tryd.ntmps7
    go_wp2
    go_ret
    exact ⟨rfl, rfl⟩
  have h1' : (xs.length : Int) ≤ 200 := by omega
  have HR := Lib.hid (And.intro hR (And.intro hx h1))
  clear hR hx h1 hl
  go_enter Tryd.func7, Tryd.ntmps7
  go_wp2
  go_loopw [3, 5, 11] (fun n _ i wr => ∃ ii : Nat, i = .int .i64 (ii : Int) ∧ ii ≤ xs.length ∧ n = .int .i64 ((tot (xs.take ii) : Nat) : Int) ∧ Hid (tot (xs.take ii) ≤ 5000) ∧ wr = w) (fun _ _ i _ => xs.length - (intOf i).toNat)
  case atStart => exact ⟨0, rfl, Nat.zero_le _, rfl, Lib.hid (by simp [tot]), rfl⟩
  case round =>
    obtain ⟨ii, rfl, hi, rfl, HT, hw⟩ := hrel
    subst hw
    by_cases hlt : ii < xs.length
    · have hlt' : (ii : Int) < (xs.length : Int) := by omega
      have hi0 : (0 : Int) ≤ (ii : Int) := by omega
      obtain ⟨b, off, rfl, hc1⟩ := HR.out.1 ii hlt
      rw [getD_at hlt] at hc1
      have hxl := HR.out.2.1 _ (List.getElem_mem hlt)
      have htt := tot_take hlt
      have HLE := Lib.hid (tot_le xs (ii + 1))
      generalize xs[ii] = x at hc1 hxl htt
      have hzx := txt_size x
      have ht := HT.out
      have HTT := Lib.hid htt
      obtain ⟨n, hn⟩ : ∃ n, tot (xs.take ii) = n := ⟨_, rfl⟩
      rw [hn] at ht htt ⊢
      have ht' : (n : Int) ≤ 5000 := by omega
      have hxl' : (x.length : Int) ≤ 140737488355328 := by omega
      by_cases h5 : n + x.length ≤ 5000
      · have h5' : (n : Int) + (x.length : Int) ≤ 5000 := by omega
        have HN := Lib.hid (And.intro h5 hn)
        clear h5 htt hxl ht hn
        generalize txt x = tx at hc1 hzx
        go_wp2
        go_roundw
        case rel =>
          refine ⟨ii + 1, by go_num, by omega, ?_, Lib.hid (by rw [HTT.out, HN.out.2]; exact HN.out.1), trivial⟩
          rw [HTT.out, HN.out.2]
          go_num
        case measure => simp [intOf]; omega
      · have h5' : (5000 : Int) < (n : Int) + (x.length : Int) := by omega
        have HN : Hid (decide (Few xs) = false) := Lib.hid (decide_eq_false fun h => by have h2 := h.2; have := HLE.out; omega)
        clear h5 htt hxl ht hn
        generalize txt x = tx at hc1 hzx
        go_wp2
        go_ret
        rw [HN.out]
        exact ⟨rfl, rfl⟩
    · have hlt' : (xs.length : Int) ≤ (ii : Int) := by omega
      have e : ii = xs.length := by omega
      have HN : Hid (decide (Few xs) = true) := Lib.hid (decide_eq_true ⟨by have := HR.out.2.2; omega, by have := HT.out; rwa [e, List.take_length] at this⟩)
      go_wp2
      go_ret
      rw [HN.out]
      exact ⟨rfl, rfl⟩
end Go.Proofs.YtpmoindojnlhgaaDoor
